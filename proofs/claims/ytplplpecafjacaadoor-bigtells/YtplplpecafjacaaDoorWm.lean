/- Walk: known. -/
import Derived.Test.YtplplpecafjacaaDoorWl
set_option linter.unusedVariables false
namespace Go.Proofs.YtplplpecafjacaaDoor
open Go.RowKit

theorem lit_pos (l : List UInt8) (h1 : M.okD 10 l = true) (h2 : l ≠ [] ∧ l.head? ≠ some 48) (n : Nat) (hn : M.val 10 l = n) : tx (n : Int) = bA l := by
  obtain ⟨_, he⟩ := M.dg_of l h1 h2
  unfold tx
  rw [M.txt_nat, ← hn, ← he]
theorem lit_neg (l : List UInt8) (h1 : M.okD 10 l = true) (h2 : l ≠ [] ∧ l.head? ≠ some 48) (n : Nat) (hn : M.val 10 l = n) : tx (-(n : Int)) = bA (45 :: l) := by
  obtain ⟨hp, he⟩ := M.dg_of l h1 h2
  unfold tx
  rw [M.txt_neg _ (by omega), ← hn, ← he]
theorem tx0 : tx 0 = ⟨#[48]⟩ := by unfold tx; rw [M.txt_zero]; rfl
theorem tx1 : tx 1 = ⟨#[49]⟩ := lit_pos [49] (by decide) (by decide) 1 (by decide)
theorem tx12 : tx ((12 : Nat) : Int) = ⟨#[49, 50]⟩ := lit_pos [49, 50] (by decide) (by decide) 12 (by decide)
theorem tx255 : tx ((255 : Nat) : Int) = ⟨#[50, 53, 53]⟩ := lit_pos [50, 53, 53] (by decide) (by decide) 255 (by decide)
theorem tx725 : tx ((725 : Nat) : Int) = ⟨#[55, 50, 53]⟩ := lit_pos [55, 50, 53] (by decide) (by decide) 725 (by decide)
theorem txm7 : tx (-7) = ⟨#[45, 55]⟩ := lit_neg [55] (by decide) (by decide) 7 (by decide)
theorem txm1 : tx (-1) = ⟨#[45, 49]⟩ := lit_neg [49] (by decide) (by decide) 1 (by decide)
theorem txm2 : tx (-2) = ⟨#[45, 50]⟩ := lit_neg [50] (by decide) (by decide) 2 (by decide)
theorem txm9 : tx (-9) = ⟨#[45, 57]⟩ := lit_neg [57] (by decide) (by decide) 9 (by decide)
theorem txm10 : tx (-10) = ⟨#[45, 49, 48]⟩ := lit_neg [49, 48] (by decide) (by decide) 10 (by decide)

theorem kn1 (w : World) : Calls Tryd.prog 13 #[.bool true, .string ⟨#[48, 48, 55]⟩] w fun e w' => e = .returned (.string ⟨#[45, 55]⟩) ∧ Below w.heap.size w w' := by
  have := norm_yes true ⟨#[48, 48, 55]⟩ w (by decide) (by decide)
  rwa [show M.sgn true (M.val 10 (ByteArray.mk #[48, 48, 55]).data.toList) = -7 by decide, txm7] at this
theorem kn2 (w : World) : Calls Tryd.prog 13 #[.bool true, .string ⟨#[48, 48]⟩] w fun e w' => e = .returned (.string ⟨#[48]⟩) ∧ Below w.heap.size w w' := by
  have := norm_yes true ⟨#[48, 48]⟩ w (by decide) (by decide)
  rwa [show M.sgn true (M.val 10 (ByteArray.mk #[48, 48]).data.toList) = 0 by decide, tx0] at this
theorem kn3 (w : World) : Calls Tryd.prog 14 #[.string ⟨#[102, 70]⟩, .int .i64 16] w fun e w' => e = .returned (.string ⟨#[50, 53, 53]⟩) ∧ Below w.heap.size w w' := by
  have := base_yes ⟨#[102, 70]⟩ 16 w (by decide) (by decide) (by decide)
  rwa [show M.val 16 (ByteArray.mk #[102, 70]).data.toList = 255 by decide, tx255] at this
theorem kn4 (w : World) : Calls Tryd.prog 14 #[.string ⟨#[56]⟩, .int .i64 8] w fun e w' => e = .returned (.string ⟨#[]⟩) ∧ w = w' :=
  base_no ⟨#[56]⟩ 8 w (by decide) (by decide) (by decide)
theorem kn5 (w : World) : Calls Tryd.prog 16 #[.string ⟨#[49, 50]⟩, .int .i64 60, .int .i64 5] w fun e w' => e = .returned (.string ⟨#[55, 50, 53]⟩) ∧ Below w.heap.size w w' := by
  have := mulAdd_core ⟨#[49, 50]⟩ 12 60 5 w (by decide) (by decide) (by decide) (by decide) (by decide) (by decide) (by decide) (by decide)
  rwa [show 12 * 60 + 5 = 725 by decide, tx725] at this
theorem kn6 (w : World) (ht : Tab w) : Calls Tryd.prog 18 #[.string ⟨#[49]⟩, .int .i64 (-2)] w fun e w' => e = .returned (.string ⟨#[45, 49]⟩) ∧ Below w.heap.size w w' := by
  have := add_yes 1 (-2) w ht (by rw [tx1]; decide) (by decide) (by decide)
  rwa [tx1, show (1 : Int) + -2 = -1 by decide, txm1] at this
theorem kn7 (w : World) (ht : Tab w) : Calls Tryd.prog 18 #[.string ⟨#[45, 49, 48]⟩, .int .i64 1] w fun e w' => e = .returned (.string ⟨#[45, 57]⟩) ∧ Below w.heap.size w w' := by
  have := add_yes (-10) 1 w ht (by rw [txm10]; decide) (by decide) (by decide)
  rwa [txm10, show (-10 : Int) + 1 = -9 by decide, txm9] at this
theorem kn8 (w : World) : Calls Tryd.prog 20 #[.string ⟨#[45, 50]⟩, .string ⟨#[49]⟩] w fun e w' => e = .returned (.int .i64 (-1)) ∧ Below w.heap.size w w' := by
  have := compare_yes (-2) 1 w (by rw [txm2]; decide) (by rw [tx1]; decide)
  rwa [txm2, tx1, show M.cmpZ (-2) 1 = -1 by decide] at this
theorem kn9 (w : World) : Calls Tryd.prog 11 #[.string ⟨#[48]⟩] w fun e w' => e = .returned (.bool true) ∧ w = w' := good_any ⟨#[48]⟩ w (by decide)
theorem kn10 (w : World) : Calls Tryd.prog 11 #[.string ⟨#[45, 48]⟩] w fun e w' => e = .returned (.bool false) ∧ w = w' := good_any ⟨#[45, 48]⟩ w (by decide)
theorem kn11 (w : World) : Calls Tryd.prog 11 #[.string ⟨#[]⟩] w fun e w' => e = .returned (.bool false) ∧ w = w' := good_any ⟨#[]⟩ w (by decide)

set_option maxRecDepth 100000 in
set_option maxHeartbeats 2000000 in
theorem known_any (w : World) (ht : Tab w) : Calls Tryd.prog 9 #[] w fun e w' => e = .returned (.bool true) ∧ Below w.heap.size w w' := by
  go_enter Tryd.func9, Tryd.ntmps9
  go_wp2_with fail
  refine (kn1 _).mono ?_
  rintro r w1 ⟨rfl, hb1⟩
  have B1 : Below w.heap.size w w1 := hb1
  have T1 := ht.next B1
  go_wp2_with fail
  refine (kn2 _).mono ?_
  rintro r w2 ⟨rfl, hb2⟩
  have B2 : Below w.heap.size w w2 := B1.trans (hb2.mono B1.size)
  have T2 := ht.next B2
  clear hb2 B1 T1
  go_wp2_with fail
  refine (kn3 _).mono ?_
  rintro r w3 ⟨rfl, hb3⟩
  have B3 : Below w.heap.size w w3 := B2.trans (hb3.mono B2.size)
  have T3 := ht.next B3
  clear hb3 B2 T2
  go_wp2_with fail
  refine (kn4 _).mono ?_
  rintro r w' ⟨rfl, rfl⟩
  go_wp2_with fail
  refine (kn5 _).mono ?_
  rintro r w4 ⟨rfl, hb4⟩
  have B4 : Below w.heap.size w w4 := B3.trans (hb4.mono B3.size)
  have T4 := ht.next B4
  clear hb4 B3 T3
  go_wp2_with fail
  refine (kn6 _ T4).mono ?_
  rintro r w5 ⟨rfl, hb5⟩
  have B5 : Below w.heap.size w w5 := B4.trans (hb5.mono B4.size)
  have T5 := ht.next B5
  clear hb5 B4 T4
  go_wp2_with fail
  refine (kn7 _ T5).mono ?_
  rintro r w6 ⟨rfl, hb6⟩
  have B6 : Below w.heap.size w w6 := B5.trans (hb6.mono B5.size)
  have T6 := ht.next B6
  clear hb6 B5 T5
  go_wp2_with fail
  refine (kn8 _).mono ?_
  rintro r w7 ⟨rfl, hb7⟩
  have B7 : Below w.heap.size w w7 := B6.trans (hb7.mono B6.size)
  have T7 := ht.next B7
  clear hb7 B6 T6
  go_wp2_with fail
  refine (kn9 _).mono ?_
  rintro r w' ⟨rfl, rfl⟩
  go_wp2_with fail
  refine (kn10 _).mono ?_
  rintro r w' ⟨rfl, rfl⟩
  go_wp2_with fail
  refine (kn11 _).mono ?_
  rintro r w' ⟨rfl, rfl⟩
  go_wp2
  go_ret
  exact ⟨rfl, B7⟩
end Go.Proofs.YtplplpecafjacaaDoor
