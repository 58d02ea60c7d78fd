/- Walks: num12's at, isDigit, afterBase. -/
import Derived.Test.YtocegiffbgnogaaDoorPa
import Derived.Test.YtocegiffbgnogaaDoorXb
set_option linter.unusedVariables false
namespace Go.Proofs.YtocegiffbgnogaaDoor
open Go.RowKit

set_option maxRecDepth 100000 in
theorem nat_in (s : ByteArray) (i : Nat) (w : World) (h : i < s.size) (hs : s.size ≤ 1000000) :
    Calls Tryd.prog 54 #[.string s, .int .i64 i] w fun e w' => e = .returned (.int .i64 (s[i].toNat : Nat)) ∧ w = w' := by
  have hd : decide (i < s.size) = true := by simpa using h
  have hc : s[i].toNat < 256 := s[i].toNat_lt
  go_enter Tryd.func54, Tryd.ntmps54
  go_wp2
  go_ret
  exact ⟨ret_int (by first | rfl | (unfold wrap64; omega)), rfl⟩
set_option maxRecDepth 100000 in
theorem nat_out (s : ByteArray) (i : Nat) (w : World) (h : ¬ i < s.size) (hs : s.size ≤ 1000000) :
    Calls Tryd.prog 54 #[.string s, .int .i64 i] w fun e w' => e = .returned (.int .i64 (-1)) ∧ w = w' := by
  have hd : decide (i < s.size) = false := by simpa using h
  go_enter Tryd.func54, Tryd.ntmps54
  go_wp2
  go_ret
  exact ⟨rfl, rfl⟩
set_option maxRecDepth 100000 in
theorem ndig_end (b : Nat) (w : World) : Calls Tryd.prog 53 #[.int .i64 (-1), .int .i64 b] w fun e w' => e = .returned (.bool false) ∧ w = w' := by
  go_enter Tryd.func53, Tryd.ntmps53
  go_wp2
  go_ret
  exact ⟨rfl, rfl⟩
set_option maxRecDepth 100000 in
theorem ndig_any (c : UInt8) (b : Nat) (w : World) (hb : b ≤ 10 ∨ b = 16) : Calls Tryd.prog 53 #[.int .i64 (c.toNat : Nat), .int .i64 b] w fun e w' => e = .returned (.bool (decide (M.dv c < b))) ∧ w = w' := by
  have hc : c.toNat < 256 := c.toNat_lt
  unfold M.dv
  generalize c.toNat = n at *
  by_cases h1 : 48 ≤ n ∧ n ≤ 57
  · rw [if_pos h1]
    obtain ⟨m, rfl⟩ : ∃ m, n = 48 + m := ⟨n - 48, by omega⟩
    rw [Nat.add_sub_cancel_left]
    obtain ⟨_, h1⟩ := h1
    go_enter Tryd.func53, Tryd.ntmps53
    go_wp2
    all_goals (go_ret; refine ⟨ret_bool ?_, rfl⟩; simp; try omega)
  · rw [if_neg h1]
    by_cases h2 : 97 ≤ n ∧ n ≤ 102
    · rw [if_pos h2]
      have e : ((b : Int) == 16) = decide (n - 87 < b) := by
        rcases hb with h | h
        · rw [decide_eq_false (by omega)]; exact beq_eq_false_iff_ne.2 (by omega)
        · subst h; rw [decide_eq_true (by omega)]; rfl
      obtain ⟨h3, h4⟩ := h2
      go_enter Tryd.func53, Tryd.ntmps53
      go_wp2
      all_goals first | omega | (go_ret; exact ⟨rfl, rfl⟩)
    · rw [if_neg h2]
      by_cases h3 : 65 ≤ n ∧ n ≤ 70
      · rw [if_pos h3]
        have e : ((b : Int) == 16) = decide (n - 55 < b) := by
          rcases hb with h | h
          · rw [decide_eq_false (by omega)]; exact beq_eq_false_iff_ne.2 (by omega)
          · subst h; rw [decide_eq_true (by omega)]; rfl
        obtain ⟨h4, h5⟩ := h3
        go_enter Tryd.func53, Tryd.ntmps53
        go_wp2
        all_goals first | omega | (go_ret; exact ⟨rfl, rfl⟩)
      · rw [if_neg h3, decide_eq_false (by omega)]
        go_enter Tryd.func53, Tryd.ntmps53
        go_wp2
        all_goals first | omega | (go_ret; exact ⟨rfl, rfl⟩)
/-- What holds at afterBase's label. -/
def JB (s : ByteArray) (b f T : Nat) (w : World) (l : Nat) (a : Act) (w' : World) : Prop :=
  w = w' ∧ ∃ (i : Nat) (u3 u4 u5 u6 u8 u9 u10 u11 u12 u13 u14 u15 u16 u17 u18 u19 u20 u21 u22 u23 u24 u25 u26 u27 u28 : Value), a = { tmps := #[.string s, .int .i64 (b : Nat), .int .i64 (f : Nat), u3, u4, u5, u6, .int .i64 (i : Nat), u8, u9, u10, u11, u12, u13, u14, u15, u16, u17, u18, u19, u20, u21, u22, u23, u24, u25, u26, u27, u28], defers := [] } ∧ i ≤ s.size ∧ (l = 0 ∧ M.gD b f (s.data.toList.drop i) = T)
set_option maxRecDepth 1000000 in
set_option maxHeartbeats 4000000 in
theorem afterB_any (s : ByteArray) (b f : Nat) (w : World) (hs : s.size ≤ 1000) (h2 : 2 ≤ s.size) (hb : b ≤ 10 ∨ b = 16) :
    Calls Tryd.prog 37 #[.string s, .int .i64 (b : Nat), .int .i64 (f : Nat)] w fun e w' => e = .returned (.int .i64 (M.gB b f (s.data.toList.drop 2) : Nat)) ∧ w = w' := by
  obtain ⟨T, hT⟩ : ∃ T, M.gB b f (s.data.toList.drop 2) = T := ⟨_, rfl⟩
  rw [hT]
  go_enter Tryd.func37, Tryd.ntmps37
  go_wp2_with fail
  refine wp_scope_run (JB s b f T w) (fun _ a _ => 2000 - (intOf (a.tmps.getD 7 undef)).toNat) ?_ ?_
  · rintro l a w' ⟨rfl, i, u3, u4, u5, u6, u8, u9, u10, u11, u12, u13, u14, u15, u16, u17, u18, u19, u20, u21, u22, u23, u24, u25, u26, u27, u28, rfl, hi, rfl, h⟩
    refine ⟨_, rfl, ?_⟩
    by_cases hl : i < s.size
    · have c1 := fun W => nat_in s (i) W hl (by omega)
      rw [drop_cons s (i) hl, M.gD] at h
      have hc := s[i].toNat_lt
      have c2 := fun W => ndig_any s[i] b W hb
      have hm1 : ((s[i].toNat : Int) == -1) = false := beq_eq_false_iff_ne.2 (by omega)
      by_cases hd : M.dv s[i] < b
      · rw [if_pos hd] at h
        rw [decide_eq_true hd] at c2
        generalize s[i].toNat = n at *
        clear hd
        go_wp2_with fail
        refine (c1 _).mono ?_
        rintro r w' ⟨rfl, rfl⟩
        go_wp2_with fail
        refine (c2 _).mono ?_
        rintro r w' ⟨rfl, rfl⟩
        go_wp2
        go_step3
        refine ⟨⟨rfl, i + 1, _, _, _, _, _, _, _, _, _, _, _, _, _, _, _, _, _, _, _, _, _, _, _, _, _, rfl, by omega, ⟨rfl, h⟩⟩, ?_⟩
        simp [intOf]
        omega
      · rw [if_neg hd] at h
        rw [decide_eq_false hd] at c2
        generalize s[i].toNat = n at *
        clear hd
        subst h
        go_wp2_with fail
        refine (c1 _).mono ?_
        rintro r w' ⟨rfl, rfl⟩
        go_wp2_with fail
        refine (c2 _).mono ?_
        rintro r w' ⟨rfl, rfl⟩
        go_wp2
        simp only [Exit.jumps]
        go_ret
        exact ⟨rfl, rfl⟩
    · have c1 := fun W => nat_out s (i) W hl (by omega)
      have c2 := fun W => ndig_end b W
      rw [List.drop_of_length_le (by rw [← sz_list]; omega), M.gD] at h
      subst h
      go_wp2_with fail
      refine (c1 _).mono ?_
      rintro r w' ⟨rfl, rfl⟩
      go_wp2_with fail
      refine (c2 _).mono ?_
      rintro r w' ⟨rfl, rfl⟩
      go_wp2
      simp only [Exit.jumps]
      go_ret
      exact ⟨rfl, rfl⟩
  · intro hp
    by_cases hl : 2 < s.size
    · have c1 := fun W => nat_in s 2 W hl (by omega)
      rw [drop_cons s 2 hl, M.gB] at hT
      have hc := s[2].toNat_lt
      have c2 := fun W => ndig_any s[2] b W hb
      by_cases hd : M.dv s[2] < b
      · rw [if_pos hd] at hT
        rw [decide_eq_true hd] at c2
        generalize s[2].toNat = n at *
        clear hd
        go_wp2_with fail
        refine (c1 _).mono ?_
        rintro r w' ⟨rfl, rfl⟩
        go_wp2_with fail
        refine (c2 _).mono ?_
        rintro r w' ⟨rfl, rfl⟩
        go_wp2
        go_step3
        exact ⟨rfl, 3, _, _, _, _, _, _, _, _, _, _, _, _, _, _, _, _, _, _, _, _, _, _, _, _, _, rfl, by omega, ⟨rfl, hT⟩⟩
      · rw [if_neg hd] at hT
        rw [decide_eq_false hd] at c2
        generalize s[2].toNat = n at *
        clear hd
        subst hT
        go_wp2_with fail
        refine (c1 _).mono ?_
        rintro r w' ⟨rfl, rfl⟩
        go_wp2_with fail
        refine (c2 _).mono ?_
        rintro r w' ⟨rfl, rfl⟩
        go_wp2
        simp only [Exit.jumps]
        go_ret
        exact ⟨rfl, rfl⟩
    · have c1 := fun W => nat_out s 2 W hl (by omega)
      have c2 := fun W => ndig_end b W
      rw [List.drop_of_length_le (by rw [← sz_list]; omega), M.gB] at hT
      subst hT
      go_wp2_with fail
      refine (c1 _).mono ?_
      rintro r w' ⟨rfl, rfl⟩
      go_wp2_with fail
      refine (c2 _).mono ?_
      rintro r w' ⟨rfl, rfl⟩
      go_wp2
      simp only [Exit.jumps]
      go_ret
      exact ⟨rfl, rfl⟩
end Go.Proofs.YtocegiffbgnogaaDoor
