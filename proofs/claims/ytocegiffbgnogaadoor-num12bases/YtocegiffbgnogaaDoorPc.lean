/- Walks: num12's afterE. -/
import Derived.Test.YtocegiffbgnogaaDoorPb
set_option linter.unusedVariables false
namespace Go.Proofs.YtocegiffbgnogaaDoor
open Go.RowKit

theorem ten_ok : (10 : Nat) ≤ 10 ∨ (10 : Nat) = 16 := Or.inl (by omega)
/-- What holds at afterE's label. -/
def JF (s : ByteArray) (T : Nat) (w : World) (l : Nat) (a : Act) (w' : World) : Prop :=
  w = w' ∧ ∃ (i : Nat) (u2 u3 u4 u5 u6 u7 u8 u9 u10 u11 u12 u13 u14 u15 u16 u17 u18 u19 u20 u21 u22 u23 u24 u25 u26 u27 u28 u29 u30 : Value), a = { tmps := #[.string s, .int .i64 (i : Nat), u2, u3, u4, u5, u6, u7, u8, u9, u10, u11, u12, u13, u14, u15, u16, u17, u18, u19, u20, u21, u22, u23, u24, u25, u26, u27, u28, u29, u30], defers := [] } ∧ i ≤ s.size ∧ (l = 0 ∧ M.gD 10 4 (s.data.toList.drop i) = T)
set_option maxRecDepth 1000000 in
set_option maxHeartbeats 4000000 in
theorem nafterE_any (s : ByteArray) (i0 : Nat) (w : World) (hs : s.size ≤ 1000) (hi0 : i0 ≤ s.size) :
    Calls Tryd.prog 55 #[.string s, .int .i64 (i0 : Nat)] w fun e w' => e = .returned (.int .i64 (M.gE (s.data.toList.drop i0) : Nat)) ∧ w = w' := by
  obtain ⟨T, hT⟩ : ∃ T, M.gE (s.data.toList.drop i0) = T := ⟨_, rfl⟩
  rw [hT]
  go_enter Tryd.func55, Tryd.ntmps55
  go_wp2_with fail
  refine wp_scope_run (JF s T w) (fun _ a _ => 2000 - (intOf (a.tmps.getD 1 undef)).toNat) ?_ ?_
  · rintro l a w' ⟨rfl, i, u2, u3, u4, u5, u6, u7, u8, u9, u10, u11, u12, u13, u14, u15, u16, u17, u18, u19, u20, u21, u22, u23, u24, u25, u26, u27, u28, u29, u30, rfl, hi, rfl, h⟩
    refine ⟨_, rfl, ?_⟩
    by_cases hl : i < s.size
    · have c1 := fun W => nat_in s (i) W hl (by omega)
      rw [drop_cons s (i) hl, M.gD] at h
      have hc := s[i].toNat_lt
      have c2 := fun W => ndig_any s[i] 10 W ten_ok
      have hm1 : ((s[i].toNat : Int) == -1) = false := beq_eq_false_iff_ne.2 (by omega)
      by_cases hd : M.dv s[i] < 10
      · rw [if_pos hd] at h
        rw [decide_eq_true hd] at c2
        generalize s[i].toNat = n at *
        clear hd
        go_wp2_with fail
        refine (c1 _).mono ?_
        rintro r w' ⟨rfl, rfl⟩
        go_wp2_with fail
        refine (c2 _).mono ?_
        rintro r w' ⟨rfl, rfl⟩
        go_wp2
        go_step3
        refine ⟨⟨rfl, i + 1, _, _, _, _, _, _, _, _, _, _, _, _, _, _, _, _, _, _, _, _, _, _, _, _, _, _, _, _, _, rfl, by omega, ⟨rfl, h⟩⟩, ?_⟩
        simp [intOf]
        omega
      · rw [if_neg hd] at h
        rw [decide_eq_false hd] at c2
        generalize s[i].toNat = n at *
        clear hd
        subst h
        go_wp2_with fail
        refine (c1 _).mono ?_
        rintro r w' ⟨rfl, rfl⟩
        go_wp2_with fail
        refine (c2 _).mono ?_
        rintro r w' ⟨rfl, rfl⟩
        go_wp2
        simp only [Exit.jumps]
        go_ret
        exact ⟨rfl, rfl⟩
    · have c1 := fun W => nat_out s (i) W hl (by omega)
      have c2 := fun W => ndig_end 10 W
      rw [List.drop_of_length_le (by rw [← sz_list]; omega), M.gD] at h
      subst h
      go_wp2_with fail
      refine (c1 _).mono ?_
      rintro r w' ⟨rfl, rfl⟩
      go_wp2_with fail
      refine (c2 _).mono ?_
      rintro r w' ⟨rfl, rfl⟩
      go_wp2
      simp only [Exit.jumps]
      go_ret
      exact ⟨rfl, rfl⟩
  · intro hp
    by_cases hl : i0 < s.size
    · have c1 := fun W => nat_in s i0 W hl (by omega)
      rw [drop_cons s i0 hl, M.gE] at hT
      have hc := s[i0].toNat_lt
      by_cases h43 : s[i0] = 43
      · rw [if_pos (Or.inl h43)] at hT
        rw [h43] at c1
        clear hc h43
        by_cases hl2 : i0 + 1 < s.size
        · have c3 := fun W => nat_in s (i0 + 1) W hl2 (by omega)
          rw [drop_cons s (i0 + 1) hl2, M.gB] at hT
          have hc2 := s[i0 + 1].toNat_lt
          have c4 := fun W => ndig_any s[i0 + 1] 10 W ten_ok
          by_cases hd : M.dv s[i0 + 1] < 10
          · rw [if_pos hd] at hT
            rw [decide_eq_true hd] at c4
            generalize s[i0 + 1].toNat = n at *
            clear hd
            go_wp2_with fail
            refine (c1 _).mono ?_
            rintro r w' ⟨rfl, rfl⟩
            go_wp2_with fail
            refine (c3 _).mono ?_
            rintro r w' ⟨rfl, rfl⟩
            go_wp2_with fail
            refine (c4 _).mono ?_
            rintro r w' ⟨rfl, rfl⟩
            go_wp2
            go_step3
            exact ⟨rfl, i0 + 1 + 1, _, _, _, _, _, _, _, _, _, _, _, _, _, _, _, _, _, _, _, _, _, _, _, _, _, _, _, _, _, rfl, by omega, ⟨rfl, hT⟩⟩
          · rw [if_neg hd] at hT
            rw [decide_eq_false hd] at c4
            generalize s[i0 + 1].toNat = n at *
            clear hd
            subst hT
            go_wp2_with fail
            refine (c1 _).mono ?_
            rintro r w' ⟨rfl, rfl⟩
            go_wp2_with fail
            refine (c3 _).mono ?_
            rintro r w' ⟨rfl, rfl⟩
            go_wp2_with fail
            refine (c4 _).mono ?_
            rintro r w' ⟨rfl, rfl⟩
            go_wp2
            simp only [Exit.jumps]
            go_ret
            exact ⟨rfl, rfl⟩
        · have c3 := fun W => nat_out s (i0 + 1) W hl2 (by omega)
          have c4 := fun W => ndig_end 10 W
          rw [List.drop_of_length_le (by rw [← sz_list]; omega), M.gB] at hT
          subst hT
          go_wp2_with fail
          refine (c1 _).mono ?_
          rintro r w' ⟨rfl, rfl⟩
          go_wp2_with fail
          refine (c3 _).mono ?_
          rintro r w' ⟨rfl, rfl⟩
          go_wp2_with fail
          refine (c4 _).mono ?_
          rintro r w' ⟨rfl, rfl⟩
          go_wp2
          simp only [Exit.jumps]
          go_ret
          exact ⟨rfl, rfl⟩
      · by_cases h45 : s[i0] = 45
        · rw [if_pos (Or.inr h45)] at hT
          rw [h45] at c1
          clear hc h43 h45
          by_cases hl2 : i0 + 1 < s.size
          · have c3 := fun W => nat_in s (i0 + 1) W hl2 (by omega)
            rw [drop_cons s (i0 + 1) hl2, M.gB] at hT
            have hc2 := s[i0 + 1].toNat_lt
            have c4 := fun W => ndig_any s[i0 + 1] 10 W ten_ok
            by_cases hd : M.dv s[i0 + 1] < 10
            · rw [if_pos hd] at hT
              rw [decide_eq_true hd] at c4
              generalize s[i0 + 1].toNat = n at *
              clear hd
              go_wp2_with fail
              refine (c1 _).mono ?_
              rintro r w' ⟨rfl, rfl⟩
              go_wp2_with fail
              refine (c3 _).mono ?_
              rintro r w' ⟨rfl, rfl⟩
              go_wp2_with fail
              refine (c4 _).mono ?_
              rintro r w' ⟨rfl, rfl⟩
              go_wp2
              go_step3
              exact ⟨rfl, i0 + 1 + 1, _, _, _, _, _, _, _, _, _, _, _, _, _, _, _, _, _, _, _, _, _, _, _, _, _, _, _, _, _, rfl, by omega, ⟨rfl, hT⟩⟩
            · rw [if_neg hd] at hT
              rw [decide_eq_false hd] at c4
              generalize s[i0 + 1].toNat = n at *
              clear hd
              subst hT
              go_wp2_with fail
              refine (c1 _).mono ?_
              rintro r w' ⟨rfl, rfl⟩
              go_wp2_with fail
              refine (c3 _).mono ?_
              rintro r w' ⟨rfl, rfl⟩
              go_wp2_with fail
              refine (c4 _).mono ?_
              rintro r w' ⟨rfl, rfl⟩
              go_wp2
              simp only [Exit.jumps]
              go_ret
              exact ⟨rfl, rfl⟩
          · have c3 := fun W => nat_out s (i0 + 1) W hl2 (by omega)
            have c4 := fun W => ndig_end 10 W
            rw [List.drop_of_length_le (by rw [← sz_list]; omega), M.gB] at hT
            subst hT
            go_wp2_with fail
            refine (c1 _).mono ?_
            rintro r w' ⟨rfl, rfl⟩
            go_wp2_with fail
            refine (c3 _).mono ?_
            rintro r w' ⟨rfl, rfl⟩
            go_wp2_with fail
            refine (c4 _).mono ?_
            rintro r w' ⟨rfl, rfl⟩
            go_wp2
            simp only [Exit.jumps]
            go_ret
            exact ⟨rfl, rfl⟩
        · rw [if_neg (fun k => k.elim h43 h45), M.gB] at hT
          have hx43 : ((s[i0].toNat : Int) == 43) = false := neC (k := 43) (by omega) h43
          have hx45 : ((s[i0].toNat : Int) == 45) = false := neC (k := 45) (by omega) h45
          have c4 := fun W => ndig_any s[i0] 10 W ten_ok
          by_cases hd : M.dv s[i0] < 10
          · rw [if_pos hd] at hT
            rw [decide_eq_true hd] at c4
            generalize s[i0].toNat = n at *
            clear hd h43 h45
            go_wp2_with fail
            refine (c1 _).mono ?_
            rintro r w' ⟨rfl, rfl⟩
            go_wp2_with fail
            refine (c1 _).mono ?_
            rintro r w' ⟨rfl, rfl⟩
            go_wp2_with fail
            refine (c4 _).mono ?_
            rintro r w' ⟨rfl, rfl⟩
            go_wp2
            go_step3
            exact ⟨rfl, i0 + 1, _, _, _, _, _, _, _, _, _, _, _, _, _, _, _, _, _, _, _, _, _, _, _, _, _, _, _, _, _, rfl, by omega, ⟨rfl, hT⟩⟩
          · rw [if_neg hd] at hT
            rw [decide_eq_false hd] at c4
            generalize s[i0].toNat = n at *
            clear hd h43 h45
            subst hT
            go_wp2_with fail
            refine (c1 _).mono ?_
            rintro r w' ⟨rfl, rfl⟩
            go_wp2_with fail
            refine (c1 _).mono ?_
            rintro r w' ⟨rfl, rfl⟩
            go_wp2_with fail
            refine (c4 _).mono ?_
            rintro r w' ⟨rfl, rfl⟩
            go_wp2
            simp only [Exit.jumps]
            go_ret
            exact ⟨rfl, rfl⟩
    · have c1 := fun W => nat_out s i0 W hl (by omega)
      have c4 := fun W => ndig_end 10 W
      rw [List.drop_of_length_le (by rw [← sz_list]; omega), M.gE] at hT
      subst hT
      go_wp2_with fail
      refine (c1 _).mono ?_
      rintro r w' ⟨rfl, rfl⟩
      go_wp2_with fail
      refine (c1 _).mono ?_
      rintro r w' ⟨rfl, rfl⟩
      go_wp2_with fail
      refine (c4 _).mono ?_
      rintro r w' ⟨rfl, rfl⟩
      go_wp2
      simp only [Exit.jumps]
      go_ret
      exact ⟨rfl, rfl⟩
end Go.Proofs.YtocegiffbgnogaaDoor
