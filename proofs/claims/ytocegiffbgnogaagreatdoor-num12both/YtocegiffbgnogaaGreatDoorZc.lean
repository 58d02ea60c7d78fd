/- The law Num12Both: its walk. -/
import Derived.Test.YtocegiffbgnogaaGreatDoorZb
import Derived.Test.YtocegiffbgnogaaGreatDoorFs
set_option linter.unusedVariables false
namespace Go.Proofs.YtocegiffbgnogaaGreatDoor
open Go.RowKit

theorem ints (l : List UInt8) : ∃ (A : ByteArray) (q : Bool) (B : ByteArray) (F : Nat), tailV (M.iv l) = .tuple #[.string A, .bool q] ∧ intV (M.isNeg l) (M.body l) = .tuple #[.string B, .int .i64 (F : Nat)] ∧
    (q = false ∨ (q = true ∧ F ≤ 3) ∨ (q = true ∧ A = B ∧ 3 < F ∧ 0 < A.size)) := by
  have hI : ∃ (B : ByteArray), intV (M.isNeg l) (M.body l) = .tuple #[.string B, .int .i64 (M.fB (M.body l) : Nat)] ∧ (M.fB (M.body l) ≠ 0 → B = tx (M.sgn (M.isNeg l) (M.num (M.body l)))) := by
    unfold intV
    by_cases h : M.fB (M.body l) = 0
    · rw [if_pos h, h]; exact ⟨_, rfl, fun k => absurd rfl k⟩
    · rw [if_neg h]; exact ⟨_, rfl, fun _ => rfl⟩
  obtain ⟨B, hB, hBe⟩ := hI
  cases h : M.iv l with
  | none => exact ⟨_, false, B, _, rfl, hB, Or.inl rfl⟩
  | some z =>
    refine ⟨tx z, true, B, _, rfl, hB, Or.inr ?_⟩
    by_cases h3 : M.fB (M.body l) ≤ 3
    · exact Or.inl ⟨rfl, h3⟩
    · refine Or.inr ⟨rfl, ?_, by omega, tx_pos z⟩
      rcases int_both h with k | k
      · exact absurd k h3
      · rw [hBe (by omega), k]
set_option maxRecDepth 100000 in
theorem both_long (s : ByteArray) (w : World) (he : Env w) (hs : s.size ≤ maxLen) (h : 60 < s.size) :
    Calls Tryz.prog 3 #[.string s] w fun e w' => e = .returned (.bool true) ∧ Below w.heap.size w w' := by
  unfold maxLen at hs
  have hd : decide (60 < s.size) = true := by simpa using h
  have hd2 : decide ((60 : Int) < (s.size : Int)) = true := by simp; omega
  go_enter Tryz.func3, Tryz.ntmps3
  go_wp2_with fail
  refine (known_any _ he).mono ?_
  rintro r w1 ⟨rfl, hb1⟩
  go_wp2
  go_ret
  exact ⟨rfl, hb1⟩
set_option maxRecDepth 100000 in
set_option maxHeartbeats 4000000 in
theorem both_core (s : ByteArray) (w : World) (he : Env w) (hs : s.size ≤ 60) :
    Calls Tryz.prog 3 #[.string s] w fun e w' => e = .returned (.bool true) ∧ Below w.heap.size w w' := by
  have hd : decide (60 < s.size) = false := by simp; omega
  have hd2 : decide ((60 : Int) < (s.size : Int)) = false := by simp; omega
  have c1 := fun W => nint_any s W (by omega)
  have c2 := fun W => rint_any s W (by omega)
  obtain ⟨A, q, B, F, hA, hB, hI⟩ := ints s.data.toList
  rw [hA] at c1
  rw [hB] at c2
  obtain ⟨k, n, ok, D, E, k', n', D', E', F', c3, c4, hF⟩ := flo_both s (by omega)
  clear hA hB
  have eG := eqG
  have e4 := eql4
  have hI2 : (q = false) ∨ (q = true ∧ decide (3 < F) = false ∧ decide ((3 : Int) < (F : Int)) = false ∧ ((F : Int) == 5) = false) ∨ (q = true ∧ A = B ∧ decide (3 < F) = true ∧ decide ((3 : Int) < (F : Int)) = true ∧ ((A.size : Int) == 0) = false ∧ ((F : Int) == 5) = true) ∨ (q = true ∧ A = B ∧ decide (3 < F) = true ∧ decide ((3 : Int) < (F : Int)) = true ∧ ((A.size : Int) == 0) = false ∧ ((F : Int) == 5) = false) := by
    rcases hI with h | ⟨h, h3⟩ | ⟨h, h1, h2, h3⟩
    · exact Or.inl h
    · exact Or.inr (Or.inl ⟨h, decide_eq_false (by omega), decide_eq_false (by omega), beq_eq_false_iff_ne.2 (by omega)⟩)
    · by_cases h5 : F = 5
      · exact Or.inr (Or.inr (Or.inl ⟨h, h1, decide_eq_true (by omega), decide_eq_true (by omega), beq_eq_false_iff_ne.2 (by omega), beq_iff_eq.2 (by omega)⟩))
      · exact Or.inr (Or.inr (Or.inr ⟨h, h1, decide_eq_true (by omega), decide_eq_true (by omega), beq_eq_false_iff_ne.2 (by omega), beq_eq_false_iff_ne.2 (by omega)⟩))
  have hF2 : (ok = false) ∨ (ok = true ∧ ((F' : Int) == 0) = true) ∨ (ok = true ∧ ((F' : Int) == 0) = false ∧ k = k' ∧ n = n' ∧ D = D' ∧ E = E') := by
    cases ok
    · exact Or.inl rfl
    · by_cases h0 : F' = 0
      · exact Or.inr (Or.inl ⟨rfl, beq_iff_eq.2 (by omega)⟩)
      · rcases hF with h | h | h
        · cases h
        · exact absurd h h0
        · exact Or.inr (Or.inr ⟨rfl, beq_eq_false_iff_ne.2 (by omega), h⟩)
  clear hI hF
  rcases hI2 with rfl | ⟨rfl, i1, i2, i3⟩ | ⟨rfl, rfl, i1, i2, i3, i4⟩ | ⟨rfl, rfl, i1, i2, i3, i4⟩ <;> rcases hF2 with rfl | ⟨rfl, f1⟩ | ⟨rfl, f1, rfl, rfl, rfl, rfl⟩
  all_goals
    go_enter Tryz.func3, Tryz.ntmps3
    go_wp2_with fail
    refine (known_any _ he).mono ?_
    rintro r w1 ⟨rfl, B1⟩
    go_wp2_with fail
    refine (c1 _).mono ?_
    rintro r w2 ⟨rfl, hw⟩
    have B2 := below_on B1 hw
    clear hw B1
    go_wp2_with fail
    refine (c2 _).mono ?_
    rintro r w3 ⟨rfl, hw⟩
    have B3 := below_on B2 hw
    clear hw B2 c1 c2
    go_wp2_with fail
    refine (c3 _ (he.next B3)).mono ?_
    rintro r w4 ⟨rfl, hw⟩
    have B4 := below_on B3 hw
    clear hw B3
    go_wp2_with fail
    refine (c4 _).mono ?_
    rintro r w5 ⟨rfl, hw⟩
    have KA := (Blk.made w4 _ _ _ _).next hw
    have B5 : Below w.heap.size w w5 := below_over B4 hw
    have la := KA.lt
    obtain ⟨p0, p1, p2, p3⟩ := KA.cells
    clear hw B4 c3 c4
    go_wp2
    go_ret
    exact ⟨rfl, B5.alloc B5.size _⟩
theorem bothL_any (s : ByteArray) (w : World) (he : Env w) (hs : s.size ≤ maxLen) :
    Calls Tryz.prog 3 #[.string s] w fun e w' => e = .returned (.bool true) ∧ Below w.heap.size w w' := by
  by_cases h : s.size ≤ 60
  · exact both_core s w he h
  · exact both_long s w he hs (by omega)
end Go.Proofs.YtocegiffbgnogaaGreatDoor
