/- Walk of the law's known. -/
import Derived.Test.YthbmppkngaifmaaWf
set_option linter.unusedVariables false
namespace Go.Proofs.Ythbmppkngaifmaa
open Go.RowKit
open Fl (F)

theorem F_2 : F 2 = 4611686018427387904 := by decide +kernel
theorem F_3 : F 3 = 4613937818241073152 := by decide +kernel
theorem F_4 : F 4 = 4616189618054758400 := by decide +kernel
theorem F_5 : F 5 = 4617315517961601024 := by decide +kernel
theorem F_9 : F 9 = 4621256167635550208 := by decide +kernel
theorem eq_self (x : Int) (hx : x.natAbs ≤ 2000000) : (FloatKind.f64.format.order (F x) (F x) == some Ordering.eq) = true := by
  rw [Fl.eq_F x x (by omega) (by omega)]; simp

set_option maxRecDepth 100000 in
set_option maxHeartbeats 1000000 in
theorem known_any (w : World) : Calls Try.prog 8 #[] w fun e w' => e = .returned (.bool true) ∧ w = w' := by
  have c1 := way_any 12 ⟨#[97, 98]⟩ w (by decide)
  have c2 := way_any 12 ⟨#[97, 10, 98, 99]⟩ w (by decide)
  have c3 := off_any 12 ⟨#[97, 98]⟩ 0 5 w (by decide) (by decide) (by decide)
  have c4 := go_any 11 3 4 ⟨#[120, 194, 133, 121]⟩ w (by decide) (by decide) (by decide)
  have c5 := go_any 12 3 4 ⟨#[195, 169]⟩ w (by decide) (by decide) (by decide)
  have c6 := less_any 1 9 2 0 w (by decide) (by decide) (by decide) (by decide)
  have c7 := less_any 1 2 1 2 w (by decide) (by decide) (by decide) (by decide)
  rw [show M.way (isOld 12) (ByteArray.mk #[97, 98]).data.toList = (0, 2) by decide] at c1
  rw [show M.way (isOld 12) (ByteArray.mk #[97, 10, 98, 99]).data.toList = (1, 2) by decide] at c2
  rw [show M.best (isOld 12) (ByteArray.mk #[97, 98]).data.toList 0 5 ((ByteArray.mk #[97, 98]).size + 1) = -1 by decide] at c3
  rw [show goZ (isOld 11) (ByteArray.mk #[120, 194, 133, 121]).data.toList 3 4 = (4, 1) by decide] at c4
  rw [show goZ (isOld 12) (ByteArray.mk #[195, 169]).data.toList 3 4 = (3, 5) by decide] at c5
  rw [show lessZ 1 9 2 0 = true by decide] at c6
  rw [show lessZ 1 2 1 2 = false by decide] at c7
  have q0 := eq_self 0 (by decide)
  have q1 := eq_self 1 (by decide)
  have q2 := eq_self 2 (by decide)
  have q3 := eq_self 3 (by decide)
  have q4 := eq_self 4 (by decide)
  have q5 := eq_self 5 (by decide)
  simp only [show (((0 : Nat) : Int)) = 0 from rfl, show (((1 : Nat) : Int)) = 1 from rfl, show (((2 : Nat) : Int)) = 2 from rfl] at c1 c2
  simp only [plV, Fl.F_zero, Fl.F_one, F_2, F_3, F_4, F_5, F_9] at c1 c2 c3 c4 c5 c6 c7 q0 q1 q2 q3 q4 q5
  go_enter Try.func8, Try.ntmps8
  go_wp2_with fail
  refine c1.mono ?_
  rintro r w' ⟨rfl, rfl⟩
  go_wp2_with fail
  refine c2.mono ?_
  rintro r w' ⟨rfl, rfl⟩
  go_wp2_with fail
  refine c3.mono ?_
  rintro r w' ⟨rfl, rfl⟩
  go_wp2_with fail
  refine c4.mono ?_
  rintro r w' ⟨rfl, rfl⟩
  go_wp2_with fail
  refine c5.mono ?_
  rintro r w' ⟨rfl, rfl⟩
  go_wp2_with fail
  refine c6.mono ?_
  rintro r w' ⟨rfl, rfl⟩
  go_wp2_with fail
  refine c7.mono ?_
  rintro r w' ⟨rfl, rfl⟩
  go_wp2
  go_ret
  exact ⟨rfl, rfl⟩

end Go.Proofs.Ythbmppkngaifmaa
