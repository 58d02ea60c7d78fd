/- The law MarkTells: its walk. -/
import Derived.Test.YthbmppkngaifmaaLd
set_option linter.unusedVariables false
namespace Go.Proofs.Ythbmppkngaifmaa
open Go.RowKit
open Fl (F)

set_option maxRecDepth 100000 in
set_option maxHeartbeats 4000000 in
theorem tells_any (s : ByteArray) (v off x y : Int) (w : World) (hs : s.size ≤ maxLen) (hx : -32768 ≤ x ∧ x ≤ 32767) (hy : -32768 ≤ y ∧ y ≤ 32767) :
    Calls Try.prog 3 #[.string s, .int .i64 v, .int .i64 off, .int .i16 x, .int .i16 y] w fun e w' => e = .returned (.bool true) ∧ Below w.heap.size w w' := by
  unfold maxLen at hs
  go_enter Try.func3, Try.ntmps3
  go_wp2_with fail
  refine (known_any w).mono ?_
  rintro r w' ⟨rfl, rfl⟩
  by_cases h3 : 200 < s.size
  · have d3 : decide ((200 : Int) < (s.size : Int)) = true := by simp; omega
    go_wp2
    go_ret
    exact ⟨rfl, Below.refl _ _⟩
  have d3 : decide ((200 : Int) < (s.size : Int)) = false := by simp; omega
  have hs3 : s.size ≤ 200 := by omega
  clear h3 hs
  have cRW := fun w => rway_any v s w (by omega)
  have cW := fun w => way_any v s w (by omega)
  have cRO := fun w => rof_any v s off w (by omega)
  have cO := fun w => of_any v s off w (by omega)
  have cP := fun x y w => point_any x y w
  have cG := fun w => go_any v x y s w (by omega) (by omega) (by omega)
  simp only [goZ_two] at cG
  have bW := M.way_le (isOld v) s.data.toList
  rw [← sz_list] at bW
  have bO := pl_bound (isOld v) s (clampN off s.size)
  obtain ⟨⟨a, b⟩, ha⟩ : ∃ p, M.way (isOld v) s.data.toList = p := ⟨_, rfl⟩
  obtain ⟨⟨c, d⟩, hc⟩ : ∃ p, M.pl (isOld v) s.data.toList (clampN off s.size) = p := ⟨_, rfl⟩
  simp only [ha] at cRW cW cG bW
  simp only [hc] at cRO cO bO
  clear ha hc
  have t5 := Int.tmod_lt_of_pos x (show (0 : Int) < 5 by omega)
  have t6 := Int.lt_tmod_of_pos x (show (0 : Int) < 5 by omega)
  have t7 := Int.tmod_lt_of_pos y (show (0 : Int) < 9 by omega)
  have t8 := Int.lt_tmod_of_pos y (show (0 : Int) < 9 by omega)
  obtain ⟨x5, hx5⟩ : ∃ z, Int.tmod x 5 = z := ⟨_, rfl⟩
  obtain ⟨y9, hy9⟩ : ∃ z, Int.tmod y 9 = z := ⟨_, rfl⟩
  rw [hx5] at t5 t6
  rw [hy9] at t7 t8
  have wx5 : IntKind.i64.wrap x5 = x5 := by rw [IntWalk.i64_in] <;> omega
  have wy9 : IntKind.i64.wrap y9 = y9 := by rw [IntWalk.i64_in] <;> omega
  have cF1 := fun w => off_any v s x5 y9 w (by omega) (by omega) (by omega)
  have cR1 := fun w => roff_any v s x5 y9 w (by omega)
  have cF2 := fun w => off_any v s c d w (by omega) (by omega) (by omega)
  have cR2 := fun w => roff_any v s c d w (by omega)
  have bR1 := M.best_bounds (isOld v) s.data.toList x5 y9 (s.size + 1)
  have bR2 := M.best_bounds (isOld v) s.data.toList c d (s.size + 1)
  generalize M.best (isOld v) s.data.toList x5 y9 (s.size + 1) = R1 at *
  generalize M.best (isOld v) s.data.toList c d (s.size + 1) = R2 at *
  have cL := fun w => less_any x y (a : Int) (b : Int) w (by omega) (by omega) (by omega) (by omega)
  have cM := fun w => less_any (a : Int) (b : Int) x y w (by omega) (by omega) (by omega) (by omega)
  have ea := eq_self (a : Int) (by omega)
  have eb := eq_self (b : Int) (by omega)
  have ec := eq_self (c : Int) (by omega)
  have ed := eq_self (d : Int) (by omega)
  go_wp2_with fail
  refine (cRW _).mono ?_
  rintro r w' ⟨rfl, rfl⟩
  go_wp2_with fail
  refine (cW _).mono ?_
  rintro r w' ⟨rfl, rfl⟩
  go_wp2_with fail
  refine (cP _ _ _).mono ?_
  rintro r w' ⟨rfl, rfl⟩
  go_wp2_with fail
  refine (cRO _).mono ?_
  rintro r w' ⟨rfl, rfl⟩
  go_wp2_with fail
  refine (cO _).mono ?_
  rintro r w' ⟨rfl, rfl⟩
  go_wp2_with fail
  refine (cP _ _ _).mono ?_
  rintro r w' ⟨rfl, rfl⟩
  go_wp2_with fail
  refine (cP _ _ _).mono ?_
  rintro r w' ⟨rfl, rfl⟩
  clear cRW cW cRO cO
  by_cases h0 : a = 0
  · simp only [if_pos h0, show (x + (a : Int)) = x by omega] at cG
    have da : decide (0 < a) = false := by simp; omega
    have H0 := Lib.hid h0
    clear h0
    have eg1 := eq_self x (by omega)
    have eg2 := eq_self (y + (b : Int)) (by omega)
    go_wp2_with fail
    refine (cP _ _ _).mono ?_
    rintro r w' ⟨rfl, rfl⟩
    go_wp2_with fail
    refine (cG _).mono ?_
    rintro r w' ⟨rfl, rfl⟩
    go_wp2_with fail
    refine (cP _ _ _).mono ?_
    rintro r w' ⟨rfl, rfl⟩
    go_wp2_with fail
    refine (cF1 _).mono ?_
    rintro r w' ⟨rfl, rfl⟩
    go_wp2_with fail
    refine (cR1 _).mono ?_
    rintro r w' ⟨rfl, rfl⟩
    go_wp2_with fail
    refine (cP _ _ _).mono ?_
    rintro r w' ⟨rfl, rfl⟩
    go_wp2_with fail
    refine (cF2 _).mono ?_
    rintro r w' ⟨rfl, rfl⟩
    go_wp2_with fail
    refine (cR2 _).mono ?_
    rintro r w' ⟨rfl, rfl⟩
    go_wp2_with fail
    refine (cP _ _ _).mono ?_
    rintro r w' ⟨rfl, rfl⟩
    go_wp2_with fail
    refine (cP _ _ _).mono ?_
    rintro r w' ⟨rfl, rfl⟩
    clear cG cF1 cR1 cF2 cR2 cP
    rcases (show (x < (a : Int)) ∨ (x = (a : Int) ∧ y < (b : Int)) ∨ (x = (a : Int) ∧ y = (b : Int)) ∨ (x = (a : Int) ∧ (b : Int) < y) ∨ ((a : Int) < x) by omega) with k | k | k | k | k
    · rw [show lessZ x y a b = true from decide_eq_true (by omega)] at cL
      rw [show lessZ a b x y = false from decide_eq_false (by omega)] at cM
      have f1 : decide (x < (a : Int)) = true := by simp; omega
      have f2 : (x == (a : Int)) = false := by simp; omega
      have f4 : decide ((a : Int) < x) = false := by simp; omega
      clear k
      go_wp2_with fail
      refine (cL _).mono ?_
      rintro r w' ⟨rfl, rfl⟩
      go_wp2_with fail
      refine (cM _).mono ?_
      rintro r w' ⟨rfl, rfl⟩
      go_wp2
      go_ret
      exact ⟨rfl, Below.refl _ _⟩
    · rw [show lessZ x y a b = true from decide_eq_true (by omega)] at cL
      rw [show lessZ a b x y = false from decide_eq_false (by omega)] at cM
      have f1 : decide (x < (a : Int)) = false := by simp; omega
      have f2 : (x == (a : Int)) = true := by simp; omega
      have f3 : decide (y < (b : Int)) = true := by simp; omega
      have f4 : decide ((a : Int) < x) = false := by simp; omega
      have f5 : decide ((b : Int) < y) = false := by simp; omega
      clear k
      go_wp2_with fail
      refine (cL _).mono ?_
      rintro r w' ⟨rfl, rfl⟩
      go_wp2_with fail
      refine (cM _).mono ?_
      rintro r w' ⟨rfl, rfl⟩
      go_wp2
      go_ret
      exact ⟨rfl, Below.refl _ _⟩
    · rw [show lessZ x y a b = false from decide_eq_false (by omega)] at cL
      rw [show lessZ a b x y = false from decide_eq_false (by omega)] at cM
      have f1 : decide (x < (a : Int)) = false := by simp; omega
      have f2 : (x == (a : Int)) = true := by simp; omega
      have f3 : decide (y < (b : Int)) = false := by simp; omega
      have f4 : decide ((a : Int) < x) = false := by simp; omega
      have f5 : decide ((b : Int) < y) = false := by simp; omega
      clear k
      go_wp2_with fail
      refine (cL _).mono ?_
      rintro r w' ⟨rfl, rfl⟩
      go_wp2_with fail
      refine (cM _).mono ?_
      rintro r w' ⟨rfl, rfl⟩
      go_wp2
      go_ret
      exact ⟨rfl, Below.refl _ _⟩
    · rw [show lessZ x y a b = false from decide_eq_false (by omega)] at cL
      rw [show lessZ a b x y = true from decide_eq_true (by omega)] at cM
      have f1 : decide (x < (a : Int)) = false := by simp; omega
      have f2 : (x == (a : Int)) = true := by simp; omega
      have f3 : decide (y < (b : Int)) = false := by simp; omega
      have f4 : decide ((a : Int) < x) = false := by simp; omega
      have f5 : decide ((b : Int) < y) = true := by simp; omega
      clear k
      go_wp2_with fail
      refine (cL _).mono ?_
      rintro r w' ⟨rfl, rfl⟩
      go_wp2_with fail
      refine (cM _).mono ?_
      rintro r w' ⟨rfl, rfl⟩
      go_wp2
      go_ret
      exact ⟨rfl, Below.refl _ _⟩
    · rw [show lessZ x y a b = false from decide_eq_false (by omega)] at cL
      rw [show lessZ a b x y = true from decide_eq_true (by omega)] at cM
      have f1 : decide (x < (a : Int)) = false := by simp; omega
      have f2 : (x == (a : Int)) = false := by simp; omega
      have f4 : decide ((a : Int) < x) = true := by simp; omega
      clear k
      go_wp2_with fail
      refine (cL _).mono ?_
      rintro r w' ⟨rfl, rfl⟩
      go_wp2_with fail
      refine (cM _).mono ?_
      rintro r w' ⟨rfl, rfl⟩
      go_wp2
      go_ret
      exact ⟨rfl, Below.refl _ _⟩
  · simp only [if_neg h0] at cG
    have da : decide (0 < a) = true := by simp; omega
    have eg1 := eq_self (x + (a : Int)) (by omega)
    have eg2 := eq_self (b : Int) (by omega)
    go_wp2_with fail
    refine (cP _ _ _).mono ?_
    rintro r w' ⟨rfl, rfl⟩
    go_wp2_with fail
    refine (cP _ _ _).mono ?_
    rintro r w' ⟨rfl, rfl⟩
    go_wp2_with fail
    refine (cG _).mono ?_
    rintro r w' ⟨rfl, rfl⟩
    go_wp2_with fail
    refine (cP _ _ _).mono ?_
    rintro r w' ⟨rfl, rfl⟩
    go_wp2_with fail
    refine (cF1 _).mono ?_
    rintro r w' ⟨rfl, rfl⟩
    go_wp2_with fail
    refine (cR1 _).mono ?_
    rintro r w' ⟨rfl, rfl⟩
    go_wp2_with fail
    refine (cP _ _ _).mono ?_
    rintro r w' ⟨rfl, rfl⟩
    go_wp2_with fail
    refine (cF2 _).mono ?_
    rintro r w' ⟨rfl, rfl⟩
    go_wp2_with fail
    refine (cR2 _).mono ?_
    rintro r w' ⟨rfl, rfl⟩
    go_wp2_with fail
    refine (cP _ _ _).mono ?_
    rintro r w' ⟨rfl, rfl⟩
    go_wp2_with fail
    refine (cP _ _ _).mono ?_
    rintro r w' ⟨rfl, rfl⟩
    clear cG cF1 cR1 cF2 cR2 cP
    rcases (show (x < (a : Int)) ∨ (x = (a : Int) ∧ y < (b : Int)) ∨ (x = (a : Int) ∧ y = (b : Int)) ∨ (x = (a : Int) ∧ (b : Int) < y) ∨ ((a : Int) < x) by omega) with k | k | k | k | k
    · rw [show lessZ x y a b = true from decide_eq_true (by omega)] at cL
      rw [show lessZ a b x y = false from decide_eq_false (by omega)] at cM
      have f1 : decide (x < (a : Int)) = true := by simp; omega
      have f2 : (x == (a : Int)) = false := by simp; omega
      have f4 : decide ((a : Int) < x) = false := by simp; omega
      clear k
      go_wp2_with fail
      refine (cL _).mono ?_
      rintro r w' ⟨rfl, rfl⟩
      go_wp2_with fail
      refine (cM _).mono ?_
      rintro r w' ⟨rfl, rfl⟩
      go_wp2
      go_ret
      exact ⟨rfl, Below.refl _ _⟩
    · rw [show lessZ x y a b = true from decide_eq_true (by omega)] at cL
      rw [show lessZ a b x y = false from decide_eq_false (by omega)] at cM
      have f1 : decide (x < (a : Int)) = false := by simp; omega
      have f2 : (x == (a : Int)) = true := by simp; omega
      have f3 : decide (y < (b : Int)) = true := by simp; omega
      have f4 : decide ((a : Int) < x) = false := by simp; omega
      have f5 : decide ((b : Int) < y) = false := by simp; omega
      clear k
      go_wp2_with fail
      refine (cL _).mono ?_
      rintro r w' ⟨rfl, rfl⟩
      go_wp2_with fail
      refine (cM _).mono ?_
      rintro r w' ⟨rfl, rfl⟩
      go_wp2
      go_ret
      exact ⟨rfl, Below.refl _ _⟩
    · rw [show lessZ x y a b = false from decide_eq_false (by omega)] at cL
      rw [show lessZ a b x y = false from decide_eq_false (by omega)] at cM
      have f1 : decide (x < (a : Int)) = false := by simp; omega
      have f2 : (x == (a : Int)) = true := by simp; omega
      have f3 : decide (y < (b : Int)) = false := by simp; omega
      have f4 : decide ((a : Int) < x) = false := by simp; omega
      have f5 : decide ((b : Int) < y) = false := by simp; omega
      clear k
      go_wp2_with fail
      refine (cL _).mono ?_
      rintro r w' ⟨rfl, rfl⟩
      go_wp2_with fail
      refine (cM _).mono ?_
      rintro r w' ⟨rfl, rfl⟩
      go_wp2
      go_ret
      exact ⟨rfl, Below.refl _ _⟩
    · rw [show lessZ x y a b = false from decide_eq_false (by omega)] at cL
      rw [show lessZ a b x y = true from decide_eq_true (by omega)] at cM
      have f1 : decide (x < (a : Int)) = false := by simp; omega
      have f2 : (x == (a : Int)) = true := by simp; omega
      have f3 : decide (y < (b : Int)) = false := by simp; omega
      have f4 : decide ((a : Int) < x) = false := by simp; omega
      have f5 : decide ((b : Int) < y) = true := by simp; omega
      clear k
      go_wp2_with fail
      refine (cL _).mono ?_
      rintro r w' ⟨rfl, rfl⟩
      go_wp2_with fail
      refine (cM _).mono ?_
      rintro r w' ⟨rfl, rfl⟩
      go_wp2
      go_ret
      exact ⟨rfl, Below.refl _ _⟩
    · rw [show lessZ x y a b = false from decide_eq_false (by omega)] at cL
      rw [show lessZ a b x y = true from decide_eq_true (by omega)] at cM
      have f1 : decide (x < (a : Int)) = false := by simp; omega
      have f2 : (x == (a : Int)) = false := by simp; omega
      have f4 : decide ((a : Int) < x) = true := by simp; omega
      clear k
      go_wp2_with fail
      refine (cL _).mono ?_
      rintro r w' ⟨rfl, rfl⟩
      go_wp2_with fail
      refine (cM _).mono ?_
      rintro r w' ⟨rfl, rfl⟩
      go_wp2
      go_ret
      exact ⟨rfl, Below.refl _ _⟩

end Go.Proofs.Ythbmppkngaifmaa
