/- Walk: known. -/
import Derived.Test.YtocegiffbgnogaaDoorPf
import Derived.Test.YtocegiffbgnogaaDoorFr
set_option linter.unusedVariables false
namespace Go.Proofs.YtocegiffbgnogaaDoor
open Go.RowKit

theorem tx10 : tx 10 = ⟨#[49, 48]⟩ := lit_pos [49, 48] (by decide) (by decide) 10 (by decide)
theorem tx15 : tx 15 = ⟨#[49, 53]⟩ := lit_pos [49, 53] (by decide) (by decide) 15 (by decide)
theorem tx3 : tx 3 = ⟨#[51]⟩ := lit_pos [51] (by decide) (by decide) 3 (by decide)
theorem dg1b : M.dg 1 = [49] := (M.dg_of [49] (by decide) (by decide)).2.symm
theorem nk1 (w : World) : Calls Tryd.prog 8 #[.string ⟨#[48, 49, 48]⟩] w fun e w' => e = .returned (.tuple #[.string ⟨#[49, 48]⟩, .bool true]) ∧ Below w.heap.size w w' := by
  have := nint_yes ⟨#[48, 49, 48]⟩ 10 w (by decide) (by decide)
  rw [tx10] at this
  exact this
theorem nk2 (w : World) : Calls Tryd.prog 8 #[.string ⟨#[45, 48, 120, 49]⟩] w fun e w' => e = .returned (.tuple #[.string ⟨#[]⟩, .bool false]) ∧ w = w' := nint_no _ w (by decide) (by decide)
theorem nk5 (w : World) : Calls Tryd.prog 8 #[.string ⟨#[48, 111, 49, 55]⟩] w fun e w' => e = .returned (.tuple #[.string ⟨#[49, 53]⟩, .bool true]) ∧ Below w.heap.size w w' := by
  have := nint_yes ⟨#[48, 111, 49, 55]⟩ 15 w (by decide) (by decide)
  rw [tx15] at this
  exact this
theorem nk3 (w : World) (he : Env w) : Calls Tryd.prog 10 #[.string ⟨#[49, 101, 51]⟩] w fun e w' => e = .returned (.tuple #[dV 0 false ⟨#[49]⟩ ⟨#[51]⟩, .bool true]) ∧ Below w.heap.size w w' := by
  refine nflo_yes ⟨#[49, 101, 51]⟩ w he (by decide) [49] [] [49] [101, 51] 3 ⟨by decide, Or.inl ⟨rfl, rfl⟩, by decide, by decide, by decide, by decide⟩ (by decide) 0 false true _ _ fun W hW => ?_
  have := make_yes false (bA [49]) (bA []) 3 1 0 W hW (by decide) (by decide) (by rw [tx3]; decide) (by decide) (by decide) (by decide)
  have e : tx ((3 : Int) + (((0 : Nat) : Int) - ((bA [] : ByteArray).size : Int))) = ⟨#[51]⟩ := by rw [show (3 : Int) + (((0 : Nat) : Int) - ((bA [] : ByteArray).size : Int)) = 3 by decide, tx3]
  rw [dg1b, e] at this
  exact this
theorem nk4 (w : World) : Calls Tryd.prog 10 #[.string ⟨#[49, 50]⟩] w fun e w' => e = .returned (.tuple #[dZ, .bool false]) ∧ Below w.heap.size w w' := nflo_no _ w (by decide) (by decide) (by decide) (by decide)
set_option maxRecDepth 100000 in
set_option maxHeartbeats 2000000 in
theorem known_any (w : World) (he : Env w) : Calls Tryd.prog 7 #[] w fun e w' => e = .returned (.bool true) ∧ Below w.heap.size w w' := by
  have eG := eqG
  have e4 := eql4
  go_enter Tryd.func7, Tryd.ntmps7
  go_wp2_with fail
  refine (nk1 _).mono ?_
  rintro r w1 ⟨rfl, B1⟩
  go_wp2_with fail
  refine (nk2 _).mono ?_
  rintro r w' ⟨rfl, rfl⟩
  go_wp2_with fail
  refine (nk3 _ (he.next B1)).mono ?_
  rintro r w3 ⟨rfl, hw3⟩
  have B3 : Below w.heap.size w w3 := below_on B1 hw3
  clear hw3
  go_wp2_with fail
  refine (nk4 _).mono ?_
  rintro r w4 ⟨rfl, hw4⟩
  have P4 := (Blk.made w3 0 false ⟨#[49]⟩ ⟨#[51]⟩).next hw4
  have B4 : Below w.heap.size w w4 := below_over B3 hw4
  clear hw4
  go_wp2_with fail
  refine (nk5 _).mono ?_
  rintro r w5 ⟨rfl, hw5⟩
  have P5 := P4.over hw5
  have B5 : Below w.heap.size w w5 := below_over B4 hw5
  clear hw5 P4 B1 B3 B4
  obtain ⟨p, hp⟩ : ∃ p, w3.heap.size = p := ⟨_, rfl⟩
  rw [hp] at P5 ⊢
  clear hp
  obtain ⟨p0, p1, p2, p3⟩ := P5.cells
  go_wp2
  go_ret
  exact ⟨rfl, B5⟩
end Go.Proofs.YtocegiffbgnogaaDoor
