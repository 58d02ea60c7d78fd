/- Walks: float11's afterE. -/
import Derived.Test.YtiainpdfidgcfaaDoorFb
set_option linter.unusedVariables false
namespace Go.Proofs.YtiainpdfidgcfaaDoor
open Go.RowKit

/-- What holds at afterE's labels. -/
def JE (s : ByteArray) (f T : Nat) (w : World) (l : Nat) (a : Act) (w' : World) : Prop :=
  w = w' ∧ ∃ (i : Nat) (u3 u4 u5 u6 u7 u8 u9 u10 u11 u12 u13 u14 u15 u16 u17 u18 u19 u20 u21 u22 u23 u24 u25 u26 u27 u28 u29 u30 u31 u32 u33 : Value), a = { tmps := #[.string s, .int .i64 (i : Nat), .int .i64 (f : Nat), u3, u4, u5, u6, u7, u8, u9, u10, u11, u12, u13, u14, u15, u16, u17, u18, u19, u20, u21, u22, u23, u24, u25, u26, u27, u28, u29, u30, u31, u32, u33], defers := [] } ∧ i ≤ s.size ∧ ((l = 0 ∧ M.pS f (s.data.toList.drop i) = T) ∨ (l = 1 ∧ M.pD f (s.data.toList.drop i) = T))
set_option maxRecDepth 1000000 in
set_option maxHeartbeats 4000000 in
theorem afterE_any (s : ByteArray) (i0 f : Nat) (w : World) (hs : s.size ≤ 1000) (hi0 : i0 ≤ s.size) :
    Calls Tryd.prog 29 #[.string s, .int .i64 (i0 : Nat), .int .i64 (f : Nat)] w fun e w' => e = .returned (.int .i64 (M.pE f (s.data.toList.drop i0) : Nat)) ∧ w = w' := by
  obtain ⟨T, hT⟩ : ∃ T, M.pE f (s.data.toList.drop i0) = T := ⟨_, rfl⟩
  rw [hT]
  go_enter Tryd.func29, Tryd.ntmps29
  go_wp2_with fail
  refine wp_scope_run (JE s f T w) (fun _ a _ => 2000 - (intOf (a.tmps.getD 1 undef)).toNat) ?_ ?_
  · rintro l a w' ⟨rfl, i, u3, u4, u5, u6, u7, u8, u9, u10, u11, u12, u13, u14, u15, u16, u17, u18, u19, u20, u21, u22, u23, u24, u25, u26, u27, u28, u29, u30, u31, u32, u33, rfl, hi, h⟩
    rcases h with ⟨rfl, h⟩ | ⟨rfl, h⟩
    · refine ⟨_, rfl, ?_⟩
      by_cases hl : i < s.size
      · have c1 := fun W => fat_in s i W hl (by omega)
        rw [drop_cons s i hl, M.pS] at h
        have hc := s[i].toNat_lt
        have c2 := fun W => fdig_any s[i] 10 W (by omega)
        by_cases hd : M.dv s[i] < 10
        · rw [if_pos hd] at h
          rw [decide_eq_true hd] at c2
          generalize s[i].toNat = n at *
          clear hd
          go_wp2_with fail
          refine (c1 _).mono ?_
          rintro r w' ⟨rfl, rfl⟩
          go_wp2_with fail
          refine (c2 _).mono ?_
          rintro r w' ⟨rfl, rfl⟩
          go_wp2
          go_step3
          refine ⟨⟨rfl, i + 1, _, _, _, _, _, _, _, _, _, _, _, _, _, _, _, _, _, _, _, _, _, _, _, _, _, _, _, _, _, _, _, rfl, by omega, Or.inr ⟨rfl, h⟩⟩, ?_⟩
          simp [intOf]
          omega
        · rw [if_neg hd] at h
          rw [decide_eq_false hd] at c2
          generalize s[i].toNat = n at *
          clear hd
          subst h
          go_wp2_with fail
          refine (c1 _).mono ?_
          rintro r w' ⟨rfl, rfl⟩
          go_wp2_with fail
          refine (c2 _).mono ?_
          rintro r w' ⟨rfl, rfl⟩
          go_wp2
          simp only [Exit.jumps]
          go_ret
          exact ⟨rfl, rfl⟩
      · have c1 := fun W => fat_out s i W hl (by omega)
        have c2 := fun W => fdig_end 10 W (by omega)
        rw [List.drop_of_length_le (by rw [← sz_list]; omega), M.pS] at h
        subst h
        go_wp2_with fail
        refine (c1 _).mono ?_
        rintro r w' ⟨rfl, rfl⟩
        go_wp2_with fail
        refine (c2 _).mono ?_
        rintro r w' ⟨rfl, rfl⟩
        go_wp2
        simp only [Exit.jumps]
        go_ret
        exact ⟨rfl, rfl⟩
    · refine ⟨_, rfl, ?_⟩
      by_cases hl : i < s.size
      · have c1 := fun W => fat_in s i W hl (by omega)
        rw [drop_cons s i hl, M.pD] at h
        have hc := s[i].toNat_lt
        have c2 := fun W => fdig_any s[i] 10 W (by omega)
        have hm1 : ((s[i].toNat : Int) == -1) = false := beq_eq_false_iff_ne.2 (by omega)
        by_cases hd : M.dv s[i] < 10
        · rw [if_pos hd] at h
          rw [decide_eq_true hd] at c2
          generalize s[i].toNat = n at *
          clear hd
          go_wp2_with fail
          refine (c1 _).mono ?_
          rintro r w' ⟨rfl, rfl⟩
          go_wp2_with fail
          refine (c2 _).mono ?_
          rintro r w' ⟨rfl, rfl⟩
          go_wp2
          go_step3
          refine ⟨⟨rfl, i + 1, _, _, _, _, _, _, _, _, _, _, _, _, _, _, _, _, _, _, _, _, _, _, _, _, _, _, _, _, _, _, _, rfl, by omega, Or.inr ⟨rfl, h⟩⟩, ?_⟩
          simp [intOf]
          omega
        · rw [if_neg hd] at h
          rw [decide_eq_false hd] at c2
          generalize s[i].toNat = n at *
          clear hd
          subst h
          go_wp2_with fail
          refine (c1 _).mono ?_
          rintro r w' ⟨rfl, rfl⟩
          go_wp2_with fail
          refine (c2 _).mono ?_
          rintro r w' ⟨rfl, rfl⟩
          go_wp2
          simp only [Exit.jumps]
          go_ret
          exact ⟨rfl, rfl⟩
      · have c1 := fun W => fat_out s i W hl (by omega)
        have c2 := fun W => fdig_end 10 W (by omega)
        rw [List.drop_of_length_le (by rw [← sz_list]; omega), M.pD] at h
        subst h
        go_wp2_with fail
        refine (c1 _).mono ?_
        rintro r w' ⟨rfl, rfl⟩
        go_wp2_with fail
        refine (c2 _).mono ?_
        rintro r w' ⟨rfl, rfl⟩
        go_wp2
        simp only [Exit.jumps]
        go_ret
        exact ⟨rfl, rfl⟩
  · intro hp
    by_cases hl : i0 < s.size
    · have c1 := fun W => fat_in s i0 W hl (by omega)
      rw [drop_cons s i0 hl, M.pE] at hT
      have hc := s[i0].toNat_lt
      by_cases h43 : s[i0] = 43
      · rw [if_pos (Or.inl h43)] at hT
        rw [h43] at c1
        clear hc h43
        go_wp2_with fail
        refine (c1 _).mono ?_
        rintro r w' ⟨rfl, rfl⟩
        go_wp2
        go_step3
        exact ⟨rfl, i0 + 1, _, _, _, _, _, _, _, _, _, _, _, _, _, _, _, _, _, _, _, _, _, _, _, _, _, _, _, _, _, _, _, rfl, by omega, Or.inl ⟨rfl, hT⟩⟩
      · by_cases h45 : s[i0] = 45
        · rw [if_pos (Or.inr h45)] at hT
          rw [h45] at c1
          clear hc h43 h45
          go_wp2_with fail
          refine (c1 _).mono ?_
          rintro r w' ⟨rfl, rfl⟩
          go_wp2
          go_step3
          exact ⟨rfl, i0 + 1, _, _, _, _, _, _, _, _, _, _, _, _, _, _, _, _, _, _, _, _, _, _, _, _, _, _, _, _, _, _, _, rfl, by omega, Or.inl ⟨rfl, hT⟩⟩
        · rw [if_neg (fun k => k.elim h43 h45)] at hT
          have hx43 : ((s[i0].toNat : Int) == 43) = false := neC (k := 43) (by omega) h43
          have hx45 : ((s[i0].toNat : Int) == 45) = false := neC (k := 45) (by omega) h45
          generalize s[i0].toNat = n at *
          clear h43 h45
          subst hT
          go_wp2_with fail
          refine (c1 _).mono ?_
          rintro r w' ⟨rfl, rfl⟩
          go_wp2
          simp only [Exit.jumps]
          go_ret
          exact ⟨rfl, rfl⟩
    · have c1 := fun W => fat_out s i0 W hl (by omega)
      rw [List.drop_of_length_le (by rw [← sz_list]; omega), M.pE] at hT
      subst hT
      go_wp2_with fail
      refine (c1 _).mono ?_
      rintro r w' ⟨rfl, rfl⟩
      go_wp2
      simp only [Exit.jumps]
      go_ret
      exact ⟨rfl, rfl⟩
end Go.Proofs.YtiainpdfidgcfaaDoor
