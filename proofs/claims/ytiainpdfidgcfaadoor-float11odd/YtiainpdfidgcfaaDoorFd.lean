/- Walks: float11's afterColon. -/
import Derived.Test.YtiainpdfidgcfaaDoorFb
set_option linter.unusedVariables false
namespace Go.Proofs.YtiainpdfidgcfaaDoor
open Go.RowKit

theorem pC1_cons (c : UInt8) (r : List UInt8) : M.pC 1 (c :: r) = if M.dv c < 6 then M.pC 2 r else if M.dv c < 10 then M.pC 3 r else 0 := by rw [M.pC, if_pos rfl]
theorem pC2_cons (c : UInt8) (r : List UInt8) : M.pC 2 (c :: r) = if M.dv c < 10 then M.pC 3 r else if c = 58 then M.pC 1 r else if c = 46 then M.pQ r else 0 := by rw [M.pC, if_neg (by omega)]; simp
theorem pC3_cons (c : UInt8) (r : List UInt8) : M.pC 3 (c :: r) = if c = 58 then M.pC 1 r else if c = 46 then M.pQ r else 0 := by rw [M.pC, if_neg (by omega), if_neg (by omega)]
theorem pC_nil (k : Nat) : M.pC k [] = 0 := rfl
/-- What holds at afterColon's labels. -/
def JC (s : ByteArray) (T : Nat) (w : World) (l : Nat) (a : Act) (w' : World) : Prop :=
  w = w' ∧ ∃ (i : Nat) (u2 u3 u4 u5 u6 u7 u8 u9 u10 u11 u12 u13 u14 u15 u16 u17 u18 u19 u20 u21 u22 u23 u24 u25 u26 u27 u28 u29 u30 u31 u32 u33 u34 u35 u36 u37 u38 u39 u40 u41 u42 u43 u44 u45 u46 u47 u48 u49 u50 u51 : Value), a = { tmps := #[.string s, .int .i64 (i : Nat), u2, u3, u4, u5, u6, u7, u8, u9, u10, u11, u12, u13, u14, u15, u16, u17, u18, u19, u20, u21, u22, u23, u24, u25, u26, u27, u28, u29, u30, u31, u32, u33, u34, u35, u36, u37, u38, u39, u40, u41, u42, u43, u44, u45, u46, u47, u48, u49, u50, u51], defers := [] } ∧ i ≤ s.size ∧ ((l = 2 ∧ M.pC 1 (s.data.toList.drop i) = T) ∨ (l = 0 ∧ M.pC 2 (s.data.toList.drop i) = T) ∨ (l = 1 ∧ M.pC 3 (s.data.toList.drop i) = T) ∨ (l = 3 ∧ M.pQ (s.data.toList.drop i) = T))
set_option maxRecDepth 1000000 in
set_option maxHeartbeats 8000000 in
theorem afterC_any (s : ByteArray) (i0 : Nat) (w : World) (hs : s.size ≤ 1000) (hi0 : i0 ≤ s.size) :
    Calls Tryd.prog 28 #[.string s, .int .i64 (i0 : Nat)] w fun e w' => e = .returned (.int .i64 (M.pC 1 (s.data.toList.drop i0) : Nat)) ∧ w = w' := by
  obtain ⟨T, hT⟩ : ∃ T, M.pC 1 (s.data.toList.drop i0) = T := ⟨_, rfl⟩
  rw [hT]
  go_enter Tryd.func28, Tryd.ntmps28
  go_wp2_with fail
  refine wp_scope_run (JC s T w) (fun _ a _ => 2000 - (intOf (a.tmps.getD 1 undef)).toNat) ?_ ?_
  · rintro l a w' ⟨rfl, i, u2, u3, u4, u5, u6, u7, u8, u9, u10, u11, u12, u13, u14, u15, u16, u17, u18, u19, u20, u21, u22, u23, u24, u25, u26, u27, u28, u29, u30, u31, u32, u33, u34, u35, u36, u37, u38, u39, u40, u41, u42, u43, u44, u45, u46, u47, u48, u49, u50, u51, rfl, hi, h⟩
    rcases h with ⟨rfl, h⟩ | ⟨rfl, h⟩ | ⟨rfl, h⟩ | ⟨rfl, h⟩
    · refine ⟨_, rfl, ?_⟩
      by_cases hl : i < s.size
      · have c1 := fun W => fat_in s i W hl (by omega)
        rw [drop_cons s i hl, pC1_cons] at h
        have hc := s[i].toNat_lt
        have c2 := fun W => fdig_any s[i] 6 W (by omega)
        by_cases hd : M.dv s[i] < 6
        · rw [if_pos hd] at h
          rw [decide_eq_true hd] at c2
          generalize s[i].toNat = n at *
          clear hd
          go_wp2_with fail
          refine (c1 _).mono ?_
          rintro r w' ⟨rfl, rfl⟩
          go_wp2_with fail
          refine (c2 _).mono ?_
          rintro r w' ⟨rfl, rfl⟩
          go_wp2
          go_step3
          refine ⟨⟨rfl, i + 1, _, _, _, _, _, _, _, _, _, _, _, _, _, _, _, _, _, _, _, _, _, _, _, _, _, _, _, _, _, _, _, _, _, _, _, _, _, _, _, _, _, _, _, _, _, _, _, _, _, _, rfl, by omega, Or.inr (Or.inl ⟨rfl, h⟩)⟩, ?_⟩
          simp [intOf]
          omega
        · rw [if_neg hd] at h
          rw [decide_eq_false hd] at c2
          have c3 := fun W => fdig_any s[i] 10 W (by omega)
          by_cases he : M.dv s[i] < 10
          · rw [if_pos he] at h
            rw [decide_eq_true he] at c3
            generalize s[i].toNat = n at *
            clear hd he
            go_wp2_with fail
            refine (c1 _).mono ?_
            rintro r w' ⟨rfl, rfl⟩
            go_wp2_with fail
            refine (c2 _).mono ?_
            rintro r w' ⟨rfl, rfl⟩
            go_wp2_with fail
            refine (c3 _).mono ?_
            rintro r w' ⟨rfl, rfl⟩
            go_wp2
            go_step3
            refine ⟨⟨rfl, i + 1, _, _, _, _, _, _, _, _, _, _, _, _, _, _, _, _, _, _, _, _, _, _, _, _, _, _, _, _, _, _, _, _, _, _, _, _, _, _, _, _, _, _, _, _, _, _, _, _, _, _, rfl, by omega, Or.inr (Or.inr (Or.inl ⟨rfl, h⟩))⟩, ?_⟩
            simp [intOf]
            omega
          · rw [if_neg he] at h
            rw [decide_eq_false he] at c3
            generalize s[i].toNat = n at *
            clear hd he
            subst h
            go_wp2_with fail
            refine (c1 _).mono ?_
            rintro r w' ⟨rfl, rfl⟩
            go_wp2_with fail
            refine (c2 _).mono ?_
            rintro r w' ⟨rfl, rfl⟩
            go_wp2_with fail
            refine (c3 _).mono ?_
            rintro r w' ⟨rfl, rfl⟩
            go_wp2
            simp only [Exit.jumps]
            go_ret
            exact ⟨rfl, rfl⟩
      · have c1 := fun W => fat_out s i W hl (by omega)
        have c2 := fun W => fdig_end 6 W (by omega)
        have c3 := fun W => fdig_end 10 W (by omega)
        rw [List.drop_of_length_le (by rw [← sz_list]; omega), pC_nil] at h
        subst h
        go_wp2_with fail
        refine (c1 _).mono ?_
        rintro r w' ⟨rfl, rfl⟩
        go_wp2_with fail
        refine (c2 _).mono ?_
        rintro r w' ⟨rfl, rfl⟩
        go_wp2_with fail
        refine (c3 _).mono ?_
        rintro r w' ⟨rfl, rfl⟩
        go_wp2
        simp only [Exit.jumps]
        go_ret
        exact ⟨rfl, rfl⟩
    · refine ⟨_, rfl, ?_⟩
      by_cases hl : i < s.size
      · have c1 := fun W => fat_in s i W hl (by omega)
        have hc := s[i].toNat_lt
        have c2 := fun W => fdig_any s[i] 10 W (by omega)
        by_cases hd : M.dv s[i] < 10
        · rw [drop_cons s i hl, pC2_cons, if_pos hd] at h
          rw [decide_eq_true hd] at c2
          generalize s[i].toNat = n at *
          clear hd
          by_cases hl3 : i + 1 < s.size
          · have c3 := fun W => fat_in s (i + 1) W hl3 (by omega)
            rw [drop_cons s (i + 1) hl3, pC3_cons] at h
            have hc3 := s[i + 1].toNat_lt
            by_cases h58 : s[i + 1] = 58
            · rw [if_pos h58] at h
              rw [h58] at c3
              clear hc3 h58
              go_wp2_with fail
              refine (c1 _).mono ?_
              rintro r w' ⟨rfl, rfl⟩
              go_wp2_with fail
              refine (c2 _).mono ?_
              rintro r w' ⟨rfl, rfl⟩
              go_wp2_with fail
              go_step3
              rename_i K hK
              refine hK _ _ ?_
              clear hK K
              go_wp2_with fail
              refine (c3 _).mono ?_
              rintro r w' ⟨rfl, rfl⟩
              go_wp2
              go_step3
              refine ⟨⟨rfl, i + 1 + 1, _, _, _, _, _, _, _, _, _, _, _, _, _, _, _, _, _, _, _, _, _, _, _, _, _, _, _, _, _, _, _, _, _, _, _, _, _, _, _, _, _, _, _, _, _, _, _, _, _, _, rfl, by omega, Or.inl ⟨rfl, h⟩⟩, ?_⟩
              simp [intOf]
              omega
            · rw [if_neg h58] at h
              by_cases h46 : s[i + 1] = 46
              · rw [if_pos h46] at h
                rw [h46] at c3
                clear hc3 h58 h46
                go_wp2_with fail
                refine (c1 _).mono ?_
                rintro r w' ⟨rfl, rfl⟩
                go_wp2_with fail
                refine (c2 _).mono ?_
                rintro r w' ⟨rfl, rfl⟩
                go_wp2_with fail
                go_step3
                rename_i K hK
                refine hK _ _ ?_
                clear hK K
                go_wp2_with fail
                refine (c3 _).mono ?_
                rintro r w' ⟨rfl, rfl⟩
                go_wp2
                go_step3
                refine ⟨⟨rfl, i + 1 + 1, _, _, _, _, _, _, _, _, _, _, _, _, _, _, _, _, _, _, _, _, _, _, _, _, _, _, _, _, _, _, _, _, _, _, _, _, _, _, _, _, _, _, _, _, _, _, _, _, _, _, rfl, by omega, Or.inr (Or.inr (Or.inr ⟨rfl, h⟩))⟩, ?_⟩
                simp [intOf]
                omega
              · rw [if_neg h46] at h
                have hx58 : ((s[i + 1].toNat : Int) == 58) = false := neC (k := 58) (by omega) h58
                have hx46 : ((s[i + 1].toNat : Int) == 46) = false := neC (k := 46) (by omega) h46
                generalize s[i + 1].toNat = m at *
                clear h58 h46
                subst h
                go_wp2_with fail
                refine (c1 _).mono ?_
                rintro r w' ⟨rfl, rfl⟩
                go_wp2_with fail
                refine (c2 _).mono ?_
                rintro r w' ⟨rfl, rfl⟩
                go_wp2_with fail
                go_step3
                rename_i K hK
                refine hK _ _ ?_
                clear hK K
                go_wp2_with fail
                refine (c3 _).mono ?_
                rintro r w' ⟨rfl, rfl⟩
                go_wp2
                simp only [Exit.jumps]
                go_ret
                exact ⟨rfl, rfl⟩
          · have c3 := fun W => fat_out s (i + 1) W hl3 (by omega)
            rw [List.drop_of_length_le (by rw [← sz_list]; omega), pC_nil] at h
            subst h
            go_wp2_with fail
            refine (c1 _).mono ?_
            rintro r w' ⟨rfl, rfl⟩
            go_wp2_with fail
            refine (c2 _).mono ?_
            rintro r w' ⟨rfl, rfl⟩
            go_wp2_with fail
            go_step3
            rename_i K hK
            refine hK _ _ ?_
            clear hK K
            go_wp2_with fail
            refine (c3 _).mono ?_
            rintro r w' ⟨rfl, rfl⟩
            go_wp2
            simp only [Exit.jumps]
            go_ret
            exact ⟨rfl, rfl⟩
        · have h2 : M.pC 3 (s.data.toList.drop i) = T := by rw [← h, drop_cons s i hl, pC2_cons, if_neg hd, pC3_cons]
          clear h
          rw [decide_eq_false hd] at c2
          clear hd
          rw [drop_cons s i hl, pC3_cons] at h2
          by_cases h58 : s[i] = 58
          · rw [if_pos h58] at h2
            rw [h58] at c1 c2
            clear hc h58
            go_wp2_with fail
            refine (c1 _).mono ?_
            rintro r w' ⟨rfl, rfl⟩
            go_wp2_with fail
            refine (c2 _).mono ?_
            rintro r w' ⟨rfl, rfl⟩
            go_wp2_with fail
            go_step3
            rename_i K hK
            refine hK _ _ ?_
            clear hK K
            go_wp2_with fail
            refine (c1 _).mono ?_
            rintro r w' ⟨rfl, rfl⟩
            go_wp2
            go_step3
            refine ⟨⟨rfl, i + 1, _, _, _, _, _, _, _, _, _, _, _, _, _, _, _, _, _, _, _, _, _, _, _, _, _, _, _, _, _, _, _, _, _, _, _, _, _, _, _, _, _, _, _, _, _, _, _, _, _, _, rfl, by omega, Or.inl ⟨rfl, h2⟩⟩, ?_⟩
            simp [intOf]
            omega
          · rw [if_neg h58] at h2
            by_cases h46 : s[i] = 46
            · rw [if_pos h46] at h2
              rw [h46] at c1 c2
              clear hc h58 h46
              go_wp2_with fail
              refine (c1 _).mono ?_
              rintro r w' ⟨rfl, rfl⟩
              go_wp2_with fail
              refine (c2 _).mono ?_
              rintro r w' ⟨rfl, rfl⟩
              go_wp2_with fail
              go_step3
              rename_i K hK
              refine hK _ _ ?_
              clear hK K
              go_wp2_with fail
              refine (c1 _).mono ?_
              rintro r w' ⟨rfl, rfl⟩
              go_wp2
              go_step3
              refine ⟨⟨rfl, i + 1, _, _, _, _, _, _, _, _, _, _, _, _, _, _, _, _, _, _, _, _, _, _, _, _, _, _, _, _, _, _, _, _, _, _, _, _, _, _, _, _, _, _, _, _, _, _, _, _, _, _, rfl, by omega, Or.inr (Or.inr (Or.inr ⟨rfl, h2⟩))⟩, ?_⟩
              simp [intOf]
              omega
            · rw [if_neg h46] at h2
              have hx58 : ((s[i].toNat : Int) == 58) = false := neC (k := 58) (by omega) h58
              have hx46 : ((s[i].toNat : Int) == 46) = false := neC (k := 46) (by omega) h46
              generalize s[i].toNat = m at *
              clear h58 h46
              subst h2
              go_wp2_with fail
              refine (c1 _).mono ?_
              rintro r w' ⟨rfl, rfl⟩
              go_wp2_with fail
              refine (c2 _).mono ?_
              rintro r w' ⟨rfl, rfl⟩
              go_wp2_with fail
              go_step3
              rename_i K hK
              refine hK _ _ ?_
              clear hK K
              go_wp2_with fail
              refine (c1 _).mono ?_
              rintro r w' ⟨rfl, rfl⟩
              go_wp2
              simp only [Exit.jumps]
              go_ret
              exact ⟨rfl, rfl⟩
      · have c1 := fun W => fat_out s i W hl (by omega)
        have c2 := fun W => fdig_end 10 W (by omega)
        rw [List.drop_of_length_le (by rw [← sz_list]; omega), pC_nil] at h
        subst h
        go_wp2_with fail
        refine (c1 _).mono ?_
        rintro r w' ⟨rfl, rfl⟩
        go_wp2_with fail
        refine (c2 _).mono ?_
        rintro r w' ⟨rfl, rfl⟩
        go_wp2_with fail
        go_step3
        rename_i K hK
        refine hK _ _ ?_
        clear hK K
        go_wp2_with fail
        refine (c1 _).mono ?_
        rintro r w' ⟨rfl, rfl⟩
        go_wp2
        simp only [Exit.jumps]
        go_ret
        exact ⟨rfl, rfl⟩
    · refine ⟨_, rfl, ?_⟩
      by_cases hl3 : i < s.size
      · have c3 := fun W => fat_in s (i) W hl3 (by omega)
        rw [drop_cons s (i) hl3, pC3_cons] at h
        have hc3 := s[i].toNat_lt
        by_cases h58 : s[i] = 58
        · rw [if_pos h58] at h
          rw [h58] at c3
          clear hc3 h58
          go_wp2_with fail
          refine (c3 _).mono ?_
          rintro r w' ⟨rfl, rfl⟩
          go_wp2
          go_step3
          refine ⟨⟨rfl, i + 1, _, _, _, _, _, _, _, _, _, _, _, _, _, _, _, _, _, _, _, _, _, _, _, _, _, _, _, _, _, _, _, _, _, _, _, _, _, _, _, _, _, _, _, _, _, _, _, _, _, _, rfl, by omega, Or.inl ⟨rfl, h⟩⟩, ?_⟩
          simp [intOf]
          omega
        · rw [if_neg h58] at h
          by_cases h46 : s[i] = 46
          · rw [if_pos h46] at h
            rw [h46] at c3
            clear hc3 h58 h46
            go_wp2_with fail
            refine (c3 _).mono ?_
            rintro r w' ⟨rfl, rfl⟩
            go_wp2
            go_step3
            refine ⟨⟨rfl, i + 1, _, _, _, _, _, _, _, _, _, _, _, _, _, _, _, _, _, _, _, _, _, _, _, _, _, _, _, _, _, _, _, _, _, _, _, _, _, _, _, _, _, _, _, _, _, _, _, _, _, _, rfl, by omega, Or.inr (Or.inr (Or.inr ⟨rfl, h⟩))⟩, ?_⟩
            simp [intOf]
            omega
          · rw [if_neg h46] at h
            have hx58 : ((s[i].toNat : Int) == 58) = false := neC (k := 58) (by omega) h58
            have hx46 : ((s[i].toNat : Int) == 46) = false := neC (k := 46) (by omega) h46
            generalize s[i].toNat = m at *
            clear h58 h46
            subst h
            go_wp2_with fail
            refine (c3 _).mono ?_
            rintro r w' ⟨rfl, rfl⟩
            go_wp2
            simp only [Exit.jumps]
            go_ret
            exact ⟨rfl, rfl⟩
      · have c3 := fun W => fat_out s (i) W hl3 (by omega)
        rw [List.drop_of_length_le (by rw [← sz_list]; omega), pC_nil] at h
        subst h
        go_wp2_with fail
        refine (c3 _).mono ?_
        rintro r w' ⟨rfl, rfl⟩
        go_wp2
        simp only [Exit.jumps]
        go_ret
        exact ⟨rfl, rfl⟩
    · refine ⟨_, rfl, ?_⟩
      by_cases hl : i < s.size
      · have c1 := fun W => fat_in s i W hl (by omega)
        rw [drop_cons s i hl, M.pQ] at h
        have hc := s[i].toNat_lt
        by_cases h95 : s[i] = 95
        · rw [if_pos (Or.inl h95)] at h
          rw [h95] at c1
          clear hc h95
          go_wp2_with fail
          refine (c1 _).mono ?_
          rintro r w' ⟨rfl, rfl⟩
          go_wp2
          go_step3
          refine ⟨⟨rfl, i + 1, _, _, _, _, _, _, _, _, _, _, _, _, _, _, _, _, _, _, _, _, _, _, _, _, _, _, _, _, _, _, _, _, _, _, _, _, _, _, _, _, _, _, _, _, _, _, _, _, _, _, rfl, by omega, Or.inr (Or.inr (Or.inr ⟨rfl, h⟩))⟩, ?_⟩
          simp [intOf]
          omega
        · have c2 := fun W => fdig_any s[i] 10 W (by omega)
          have hx95 : ((s[i].toNat : Int) == 95) = false := neC (k := 95) (by omega) h95
          have hm1 : ((s[i].toNat : Int) == -1) = false := beq_eq_false_iff_ne.2 (by omega)
          by_cases hd : M.dv s[i] < 10
          · rw [if_pos (Or.inr hd)] at h
            rw [decide_eq_true hd] at c2
            generalize s[i].toNat = n at *
            clear hd h95
            go_wp2_with fail
            refine (c1 _).mono ?_
            rintro r w' ⟨rfl, rfl⟩
            go_wp2_with fail
            refine (c2 _).mono ?_
            rintro r w' ⟨rfl, rfl⟩
            go_wp2
            go_step3
            refine ⟨⟨rfl, i + 1, _, _, _, _, _, _, _, _, _, _, _, _, _, _, _, _, _, _, _, _, _, _, _, _, _, _, _, _, _, _, _, _, _, _, _, _, _, _, _, _, _, _, _, _, _, _, _, _, _, _, rfl, by omega, Or.inr (Or.inr (Or.inr ⟨rfl, h⟩))⟩, ?_⟩
            simp [intOf]
            omega
          · rw [if_neg (fun k => k.elim h95 hd)] at h
            rw [decide_eq_false hd] at c2
            generalize s[i].toNat = n at *
            clear hd h95
            subst h
            go_wp2_with fail
            refine (c1 _).mono ?_
            rintro r w' ⟨rfl, rfl⟩
            go_wp2_with fail
            refine (c2 _).mono ?_
            rintro r w' ⟨rfl, rfl⟩
            go_wp2
            simp only [Exit.jumps]
            go_ret
            exact ⟨rfl, rfl⟩
      · have c1 := fun W => fat_out s i W hl (by omega)
        have c2 := fun W => fdig_end 10 W (by omega)
        rw [List.drop_of_length_le (by rw [← sz_list]; omega), M.pQ] at h
        subst h
        go_wp2_with fail
        refine (c1 _).mono ?_
        rintro r w' ⟨rfl, rfl⟩
        go_wp2_with fail
        refine (c2 _).mono ?_
        rintro r w' ⟨rfl, rfl⟩
        go_wp2
        simp only [Exit.jumps]
        go_ret
        exact ⟨rfl, rfl⟩
  · intro hp
    go_wp2_with fail
    go_step3
    rename_i K hK
    exact hK _ _ (hp 2 _ rfl _ _ ⟨rfl, i0, _, _, _, _, _, _, _, _, _, _, _, _, _, _, _, _, _, _, _, _, _, _, _, _, _, _, _, _, _, _, _, _, _, _, _, _, _, _, _, _, _, _, _, _, _, _, _, _, _, _, rfl, by omega, Or.inl ⟨rfl, hT⟩⟩)
end Go.Proofs.YtiainpdfidgcfaaDoor
