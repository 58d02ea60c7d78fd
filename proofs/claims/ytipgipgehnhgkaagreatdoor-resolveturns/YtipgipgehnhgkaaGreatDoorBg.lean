/- Walks: float11's ofDigits. -/
import Derived.Test.YtipgipgehnhgkaaGreatDoorBf
set_option linter.unusedVariables false
namespace Go.Proofs.YtipgipgehnhgkaaGreatDoor
open Go.RowKit

/-- What holds at ofDigits' labels. -/
def JO (s : ByteArray) (T : Nat) (w : World) (l : Nat) (a : Act) (w' : World) : Prop :=
  w = w' ∧ ∃ (i f : Nat) (u1 u2 u5 u6 u7 u8 u9 u10 u11 u12 u13 u14 u15 u16 u17 u18 u19 u20 u21 u22 u23 u24 u25 u26 u27 u28 u29 u30 u31 u32 u33 u34 u35 u36 u37 u38 u39 u40 u41 u42 u43 u44 u45 u46 u47 u48 u49 u50 u51 u52 u53 u54 u55 u56 u57 u58 u59 u60 u61 u62 u63 u64 u65 u66 u67 u68 u69 u70 u71 u72 u73 u74 u75 u76 u77 u78 u79 u80 u81 u82 u83 u84 : Value), a = { tmps := #[.string s, u1, u2, .int .i64 (i : Nat), .int .i64 (f : Nat), u5, u6, u7, u8, u9, u10, u11, u12, u13, u14, u15, u16, u17, u18, u19, u20, u21, u22, u23, u24, u25, u26, u27, u28, u29, u30, u31, u32, u33, u34, u35, u36, u37, u38, u39, u40, u41, u42, u43, u44, u45, u46, u47, u48, u49, u50, u51, u52, u53, u54, u55, u56, u57, u58, u59, u60, u61, u62, u63, u64, u65, u66, u67, u68, u69, u70, u71, u72, u73, u74, u75, u76, u77, u78, u79, u80, u81, u82, u83, u84], defers := [] } ∧ i ≤ s.size ∧ ((l = 1 ∧ f = 1 ∧ M.pW (s.data.toList.drop i) = T) ∨ (l = 0 ∧ f = 2 ∧ M.pG (s.data.toList.drop i) = T) ∨ (l = 2 ∧ M.pP f (s.data.toList.drop i) = T))
set_option maxRecDepth 1000000 in
set_option maxHeartbeats 8000000 in
theorem ofD_any (s : ByteArray) (w : World) (hs : s.size ≤ 1000) :
    Calls Tryz.prog 92 #[.string s] w fun e w' => e = .returned (.int .i64 (M.fl s.data.toList : Nat)) ∧ w = w' := by
  obtain ⟨T, hT⟩ : ∃ T, M.fl s.data.toList = T := ⟨_, rfl⟩
  rw [hT]
  go_enter Tryz.func92, Tryz.ntmps92
  go_wp2_with fail
  refine wp_scope_run (JO s T w) (fun _ a _ => 2000 - (intOf (a.tmps.getD 3 undef)).toNat) ?_ ?_
  · rintro l a w' ⟨rfl, i, f, u1, u2, u5, u6, u7, u8, u9, u10, u11, u12, u13, u14, u15, u16, u17, u18, u19, u20, u21, u22, u23, u24, u25, u26, u27, u28, u29, u30, u31, u32, u33, u34, u35, u36, u37, u38, u39, u40, u41, u42, u43, u44, u45, u46, u47, u48, u49, u50, u51, u52, u53, u54, u55, u56, u57, u58, u59, u60, u61, u62, u63, u64, u65, u66, u67, u68, u69, u70, u71, u72, u73, u74, u75, u76, u77, u78, u79, u80, u81, u82, u83, u84, rfl, hi, h⟩
    rcases h with ⟨rfl, rfl, h⟩ | ⟨rfl, rfl, h⟩ | ⟨rfl, h⟩
    · refine ⟨_, rfl, ?_⟩
      by_cases hl : i < s.size
      · have c1 := fun W => fat_in s i W hl (by omega)
        rw [drop_cons s i hl, M.pW] at h
        have hc := s[i].toNat_lt
        by_cases h95 : s[i] = 95
        · rw [if_pos (Or.inl h95)] at h
          rw [h95] at c1
          clear hc h95
          go_wp2_with fail
          refine (c1 _).mono ?_
          rintro r w' ⟨rfl, rfl⟩
          go_wp2
          go_step3
          refine ⟨⟨rfl, i + 1, 1, _, _, _, _, _, _, _, _, _, _, _, _, _, _, _, _, _, _, _, _, _, _, _, _, _, _, _, _, _, _, _, _, _, _, _, _, _, _, _, _, _, _, _, _, _, _, _, _, _, _, _, _, _, _, _, _, _, _, _, _, _, _, _, _, _, _, _, _, _, _, _, _, _, _, _, _, _, _, _, _, _, _, rfl, by omega, Or.inl ⟨rfl, rfl, h⟩⟩, ?_⟩
          simp [intOf]
          omega
        · have c2 := fun W => fdig_any s[i] 10 W (by omega)
          by_cases hd : M.dv s[i] < 10
          · rw [if_pos (Or.inr hd)] at h
            have hx95 : ((s[i].toNat : Int) == 95) = false := neC (k := 95) (by omega) h95
            rw [decide_eq_true hd] at c2
            generalize s[i].toNat = n at *
            clear hd h95
            go_wp2_with fail
            refine (c1 _).mono ?_
            rintro r w' ⟨rfl, rfl⟩
            go_wp2_with fail
            refine (c2 _).mono ?_
            rintro r w' ⟨rfl, rfl⟩
            go_wp2
            go_step3
            refine ⟨⟨rfl, i + 1, 1, _, _, _, _, _, _, _, _, _, _, _, _, _, _, _, _, _, _, _, _, _, _, _, _, _, _, _, _, _, _, _, _, _, _, _, _, _, _, _, _, _, _, _, _, _, _, _, _, _, _, _, _, _, _, _, _, _, _, _, _, _, _, _, _, _, _, _, _, _, _, _, _, _, _, _, _, _, _, _, _, _, _, rfl, by omega, Or.inl ⟨rfl, rfl, h⟩⟩, ?_⟩
            simp [intOf]
            omega
          · rw [if_neg (fun k => k.elim h95 hd)] at h
            rw [decide_eq_false hd] at c2
            by_cases h46 : s[i] = 46
            · rw [if_pos h46] at h
              rw [h46] at c1 c2
              clear hc hd h95 h46
              go_wp2_with fail
              refine (c1 _).mono ?_
              rintro r w' ⟨rfl, rfl⟩
              go_wp2_with fail
              refine (c2 _).mono ?_
              rintro r w' ⟨rfl, rfl⟩
              go_wp2
              go_step3
              refine ⟨⟨rfl, i + 1, 1, _, _, _, _, _, _, _, _, _, _, _, _, _, _, _, _, _, _, _, _, _, _, _, _, _, _, _, _, _, _, _, _, _, _, _, _, _, _, _, _, _, _, _, _, _, _, _, _, _, _, _, _, _, _, _, _, _, _, _, _, _, _, _, _, _, _, _, _, _, _, _, _, _, _, _, _, _, _, _, _, _, _, rfl, by omega, Or.inr (Or.inr ⟨rfl, h⟩)⟩, ?_⟩
              simp [intOf]
              omega
            · rw [if_neg h46] at h
              by_cases h58 : s[i] = 58
              · rw [if_pos h58] at h
                have c3 := fun W => afterC_any s (i + 1) W hs (by omega)
                rw [h, show ((i + 1 : Nat) : Int) = (i : Int) + 1 by omega] at c3
                rw [h58] at c1 c2
                clear hc hd h95 h46 h58 h
                go_wp2_with fail
                refine (c1 _).mono ?_
                rintro r w' ⟨rfl, rfl⟩
                go_wp2_with fail
                refine (c2 _).mono ?_
                rintro r w' ⟨rfl, rfl⟩
                go_wp2_with fail
                refine (c3 _).mono ?_
                rintro r w' ⟨rfl, rfl⟩
                go_wp2
                simp only [Exit.jumps]
                go_ret
                exact ⟨rfl, rfl⟩
              · rw [if_neg h58] at h
                have hx95 : ((s[i].toNat : Int) == 95) = false := neC (k := 95) (by omega) h95
                have hx46 : ((s[i].toNat : Int) == 46) = false := neC (k := 46) (by omega) h46
                have hx58 : ((s[i].toNat : Int) == 58) = false := neC (k := 58) (by omega) h58
                generalize s[i].toNat = n at *
                clear hd h95 h46 h58
                subst h
                go_wp2_with fail
                refine (c1 _).mono ?_
                rintro r w' ⟨rfl, rfl⟩
                go_wp2_with fail
                refine (c2 _).mono ?_
                rintro r w' ⟨rfl, rfl⟩
                go_wp2
                simp only [Exit.jumps]
                go_ret
                exact ⟨rfl, rfl⟩
      · have c1 := fun W => fat_out s i W hl (by omega)
        have c2 := fun W => fdig_end 10 W (by omega)
        rw [List.drop_of_length_le (by rw [← sz_list]; omega), M.pW] at h
        subst h
        go_wp2_with fail
        refine (c1 _).mono ?_
        rintro r w' ⟨rfl, rfl⟩
        go_wp2_with fail
        refine (c2 _).mono ?_
        rintro r w' ⟨rfl, rfl⟩
        go_wp2
        simp only [Exit.jumps]
        go_ret
        exact ⟨rfl, rfl⟩
    · refine ⟨_, rfl, ?_⟩
      by_cases hl : i < s.size
      · have c1 := fun W => fat_in s i W hl (by omega)
        rw [drop_cons s i hl, M.pG] at h
        have hc := s[i].toNat_lt
        by_cases h95 : s[i] = 95
        · rw [if_pos h95] at h
          rw [h95] at c1
          clear hc h95
          go_wp2_with fail
          refine (c1 _).mono ?_
          rintro r w' ⟨rfl, rfl⟩
          go_wp2
          go_step3
          refine ⟨⟨rfl, i + 1, 2, _, _, _, _, _, _, _, _, _, _, _, _, _, _, _, _, _, _, _, _, _, _, _, _, _, _, _, _, _, _, _, _, _, _, _, _, _, _, _, _, _, _, _, _, _, _, _, _, _, _, _, _, _, _, _, _, _, _, _, _, _, _, _, _, _, _, _, _, _, _, _, _, _, _, _, _, _, _, _, _, _, _, rfl, by omega, Or.inr (Or.inl ⟨rfl, rfl, h⟩)⟩, ?_⟩
          simp [intOf]
          omega
        · have c2 := fun W => fdig_any s[i] 10 W (by omega)
          have hx95 : ((s[i].toNat : Int) == 95) = false := neC (k := 95) (by omega) h95
          by_cases hd : M.dv s[i] < 10
          · rw [if_neg h95, if_pos hd] at h
            rw [decide_eq_true hd] at c2
            generalize s[i].toNat = n at *
            clear hd h95
            go_wp2_with fail
            refine (c1 _).mono ?_
            rintro r w' ⟨rfl, rfl⟩
            go_wp2_with fail
            refine (c2 _).mono ?_
            rintro r w' ⟨rfl, rfl⟩
            go_wp2
            go_step3
            refine ⟨⟨rfl, i + 1, 2, _, _, _, _, _, _, _, _, _, _, _, _, _, _, _, _, _, _, _, _, _, _, _, _, _, _, _, _, _, _, _, _, _, _, _, _, _, _, _, _, _, _, _, _, _, _, _, _, _, _, _, _, _, _, _, _, _, _, _, _, _, _, _, _, _, _, _, _, _, _, _, _, _, _, _, _, _, _, _, _, _, _, rfl, by omega, Or.inr (Or.inr ⟨rfl, h⟩)⟩, ?_⟩
            simp [intOf]
            omega
          · rw [if_neg h95, if_neg hd] at h
            rw [decide_eq_false hd] at c2
            generalize s[i].toNat = n at *
            clear hd h95
            subst h
            go_wp2_with fail
            refine (c1 _).mono ?_
            rintro r w' ⟨rfl, rfl⟩
            go_wp2_with fail
            refine (c2 _).mono ?_
            rintro r w' ⟨rfl, rfl⟩
            go_wp2
            simp only [Exit.jumps]
            go_ret
            exact ⟨rfl, rfl⟩
      · have c1 := fun W => fat_out s i W hl (by omega)
        have c2 := fun W => fdig_end 10 W (by omega)
        rw [List.drop_of_length_le (by rw [← sz_list]; omega), M.pG] at h
        subst h
        go_wp2_with fail
        refine (c1 _).mono ?_
        rintro r w' ⟨rfl, rfl⟩
        go_wp2_with fail
        refine (c2 _).mono ?_
        rintro r w' ⟨rfl, rfl⟩
        go_wp2
        simp only [Exit.jumps]
        go_ret
        exact ⟨rfl, rfl⟩
    · refine ⟨_, rfl, ?_⟩
      by_cases hl : i < s.size
      · have c1 := fun W => fat_in s i W hl (by omega)
        rw [drop_cons s i hl, M.pP] at h
        have hc := s[i].toNat_lt
        by_cases h95 : s[i] = 95
        · rw [if_pos (Or.inl h95)] at h
          rw [h95] at c1
          clear hc h95
          go_wp2_with fail
          refine (c1 _).mono ?_
          rintro r w' ⟨rfl, rfl⟩
          go_wp2
          go_step3
          refine ⟨⟨rfl, i + 1, f, _, _, _, _, _, _, _, _, _, _, _, _, _, _, _, _, _, _, _, _, _, _, _, _, _, _, _, _, _, _, _, _, _, _, _, _, _, _, _, _, _, _, _, _, _, _, _, _, _, _, _, _, _, _, _, _, _, _, _, _, _, _, _, _, _, _, _, _, _, _, _, _, _, _, _, _, _, _, _, _, _, _, rfl, by omega, Or.inr (Or.inr ⟨rfl, h⟩)⟩, ?_⟩
          simp [intOf]
          omega
        · have c2 := fun W => fdig_any s[i] 10 W (by omega)
          by_cases hd : M.dv s[i] < 10
          · rw [if_pos (Or.inr hd)] at h
            have hx95 : ((s[i].toNat : Int) == 95) = false := neC (k := 95) (by omega) h95
            rw [decide_eq_true hd] at c2
            generalize s[i].toNat = n at *
            clear hd h95
            go_wp2_with fail
            refine (c1 _).mono ?_
            rintro r w' ⟨rfl, rfl⟩
            go_wp2_with fail
            refine (c2 _).mono ?_
            rintro r w' ⟨rfl, rfl⟩
            go_wp2
            go_step3
            refine ⟨⟨rfl, i + 1, f, _, _, _, _, _, _, _, _, _, _, _, _, _, _, _, _, _, _, _, _, _, _, _, _, _, _, _, _, _, _, _, _, _, _, _, _, _, _, _, _, _, _, _, _, _, _, _, _, _, _, _, _, _, _, _, _, _, _, _, _, _, _, _, _, _, _, _, _, _, _, _, _, _, _, _, _, _, _, _, _, _, _, rfl, by omega, Or.inr (Or.inr ⟨rfl, h⟩)⟩, ?_⟩
            simp [intOf]
            omega
          · rw [if_neg (fun k => k.elim h95 hd)] at h
            rw [decide_eq_false hd] at c2
            by_cases h101 : s[i] = 101
            · skip
              rw [if_pos (Or.inl h101)] at h
              have c3 := fun W => afterE_any s (i + 1) f W hs (by omega)
              rw [h, show ((i + 1 : Nat) : Int) = (i : Int) + 1 by omega] at c3
              rw [h101] at c1 c2
              clear hc hd h95 h101 h
              go_wp2_with fail
              refine (c1 _).mono ?_
              rintro r w' ⟨rfl, rfl⟩
              go_wp2_with fail
              refine (c2 _).mono ?_
              rintro r w' ⟨rfl, rfl⟩
              go_wp2_with fail
              refine (c3 _).mono ?_
              rintro r w' ⟨rfl, rfl⟩
              go_wp2
              simp only [Exit.jumps]
              go_ret
              exact ⟨rfl, rfl⟩
            · by_cases h69 : s[i] = 69
              · skip
                rw [if_pos (Or.inr h69)] at h
                have c3 := fun W => afterE_any s (i + 1) f W hs (by omega)
                rw [h, show ((i + 1 : Nat) : Int) = (i : Int) + 1 by omega] at c3
                rw [h69] at c1 c2
                clear hc hd h95 h101 h69 h
                go_wp2_with fail
                refine (c1 _).mono ?_
                rintro r w' ⟨rfl, rfl⟩
                go_wp2_with fail
                refine (c2 _).mono ?_
                rintro r w' ⟨rfl, rfl⟩
                go_wp2_with fail
                refine (c3 _).mono ?_
                rintro r w' ⟨rfl, rfl⟩
                go_wp2
                simp only [Exit.jumps]
                go_ret
                exact ⟨rfl, rfl⟩
              · rw [if_neg (fun k => k.elim h101 h69)] at h
                have hx95 : ((s[i].toNat : Int) == 95) = false := neC (k := 95) (by omega) h95
                have hx101 : ((s[i].toNat : Int) == 101) = false := neC (k := 101) (by omega) h101
                have hx69 : ((s[i].toNat : Int) == 69) = false := neC (k := 69) (by omega) h69
                have hm1 : ((s[i].toNat : Int) == -1) = false := beq_eq_false_iff_ne.2 (by omega)
                generalize s[i].toNat = n at *
                clear hd h95 h101 h69
                subst h
                go_wp2_with fail
                refine (c1 _).mono ?_
                rintro r w' ⟨rfl, rfl⟩
                go_wp2_with fail
                refine (c2 _).mono ?_
                rintro r w' ⟨rfl, rfl⟩
                go_wp2
                simp only [Exit.jumps]
                go_ret
                exact ⟨rfl, rfl⟩
      · have c1 := fun W => fat_out s i W hl (by omega)
        have c2 := fun W => fdig_end 10 W (by omega)
        rw [List.drop_of_length_le (by rw [← sz_list]; omega), M.pP] at h
        subst h
        go_wp2_with fail
        refine (c1 _).mono ?_
        rintro r w' ⟨rfl, rfl⟩
        go_wp2_with fail
        refine (c2 _).mono ?_
        rintro r w' ⟨rfl, rfl⟩
        go_wp2
        simp only [Exit.jumps]
        go_ret
        exact ⟨rfl, rfl⟩
  · intro hp
    by_cases hl : 0 < s.size
    · have c1 := fun W => fat_in s 0 W hl (by omega)
      have hh := drop_cons s 0 hl
      rw [List.drop_zero] at hh
      rw [hh, M.fl] at hT
      clear hh
      have hc := s[0].toNat_lt
      by_cases h46 : s[0] = 46
      · rw [if_pos h46] at hT
        rw [h46] at c1
        clear hc h46
        go_wp2_with fail
        refine (c1 _).mono ?_
        rintro r w' ⟨rfl, rfl⟩
        go_wp2
        go_step3
        exact ⟨rfl, 1, 2, _, _, _, _, _, _, _, _, _, _, _, _, _, _, _, _, _, _, _, _, _, _, _, _, _, _, _, _, _, _, _, _, _, _, _, _, _, _, _, _, _, _, _, _, _, _, _, _, _, _, _, _, _, _, _, _, _, _, _, _, _, _, _, _, _, _, _, _, _, _, _, _, _, _, _, _, _, _, _, _, _, _, rfl, by omega, Or.inr (Or.inl ⟨rfl, rfl, hT⟩)⟩
      · have c2 := fun W => fdig_any s[0] 10 W (by omega)
        have hx46 : ((s[0].toNat : Int) == 46) = false := neC (k := 46) (by omega) h46
        by_cases hd : M.dv s[0] < 10
        · rw [if_neg h46, if_pos hd] at hT
          rw [decide_eq_true hd] at c2
          generalize s[0].toNat = n at *
          clear hd h46
          go_wp2_with fail
          refine (c1 _).mono ?_
          rintro r w' ⟨rfl, rfl⟩
          go_wp2_with fail
          refine (c2 _).mono ?_
          rintro r w' ⟨rfl, rfl⟩
          go_wp2
          go_step3
          exact ⟨rfl, 1, 1, _, _, _, _, _, _, _, _, _, _, _, _, _, _, _, _, _, _, _, _, _, _, _, _, _, _, _, _, _, _, _, _, _, _, _, _, _, _, _, _, _, _, _, _, _, _, _, _, _, _, _, _, _, _, _, _, _, _, _, _, _, _, _, _, _, _, _, _, _, _, _, _, _, _, _, _, _, _, _, _, _, _, rfl, by omega, Or.inl ⟨rfl, rfl, hT⟩⟩
        · rw [if_neg h46, if_neg hd] at hT
          rw [decide_eq_false hd] at c2
          generalize s[0].toNat = n at *
          clear hd h46
          subst hT
          go_wp2_with fail
          refine (c1 _).mono ?_
          rintro r w' ⟨rfl, rfl⟩
          go_wp2_with fail
          refine (c2 _).mono ?_
          rintro r w' ⟨rfl, rfl⟩
          go_wp2
          simp only [Exit.jumps]
          go_ret
          exact ⟨rfl, rfl⟩
    · have c1 := fun W => fat_out s 0 W hl (by omega)
      have c2 := fun W => fdig_end 10 W (by omega)
      have hz : s.data.toList = [] := List.eq_nil_of_length_eq_zero (by rw [← sz_list]; omega)
      rw [hz, M.fl] at hT
      clear hz
      subst hT
      go_wp2_with fail
      refine (c1 _).mono ?_
      rintro r w' ⟨rfl, rfl⟩
      go_wp2_with fail
      refine (c2 _).mono ?_
      rintro r w' ⟨rfl, rfl⟩
      go_wp2
      simp only [Exit.jumps]
      go_ret
      exact ⟨rfl, rfl⟩
end Go.Proofs.YtipgipgehnhgkaaGreatDoor
