/- Walk: known. -/
import Derived.Test.YthgkmcidlcdjlaaDoorYe
set_option linter.unusedVariables false
namespace Go.Proofs.YthgkmcidlcdjlaaDoor
open Go.RowKit

theorem k_of0 (w : World) (he : Env w) : Calls Tryd.prog 9 #[.string ⟨#[48, 49, 48]⟩] w fun e w' => e = .returned (.tuple #[.string ⟨#[56]⟩, .bool true]) ∧ Below w.heap.size w w' := by
  have h := of_yes ⟨#[48, 49, 48]⟩ w he (by decide) (by decide)
  rw [show zOf (⟨#[48, 49, 48]⟩ : ByteArray).data.toList = ((8 : Nat) : Int) by decide, lit_pos [56] (by decide) (by decide) 8 (by decide)] at h
  exact h
theorem k_of1 (w : World) (he : Env w) : Calls Tryd.prog 9 #[.string ⟨#[49, 58, 51, 48]⟩] w fun e w' => e = .returned (.tuple #[.string ⟨#[57, 48]⟩, .bool true]) ∧ Below w.heap.size w w' := by
  have h := of_yes ⟨#[49, 58, 51, 48]⟩ w he (by decide) (by decide)
  rw [show zOf (⟨#[49, 58, 51, 48]⟩ : ByteArray).data.toList = ((90 : Nat) : Int) by decide, lit_pos [57, 48] (by decide) (by decide) 90 (by decide)] at h
  exact h
theorem k_of2 (w : World) (he : Env w) : Calls Tryd.prog 9 #[.string ⟨#[48, 111, 55]⟩] w fun e w' => e = .returned (.tuple #[.string ⟨#[]⟩, .bool false]) ∧ Below w.heap.size w w' :=
  (of_no ⟨#[48, 111, 55]⟩ w (by decide) (by decide)).mono fun e w' h => ⟨h.1, h.2 ▸ Below.refl _ _⟩
theorem k_of3 (w : World) (he : Env w) : Calls Tryd.prog 9 #[.string ⟨#[45, 49, 95, 48]⟩] w fun e w' => e = .returned (.tuple #[.string ⟨#[45, 49, 48]⟩, .bool true]) ∧ Below w.heap.size w w' := by
  have h := of_yes ⟨#[45, 49, 95, 48]⟩ w he (by decide) (by decide)
  rw [show zOf (⟨#[45, 49, 95, 48]⟩ : ByteArray).data.toList = -((10 : Nat) : Int) by decide, lit_neg [49, 48] (by decide) (by decide) 10 (by decide)] at h
  exact h
theorem k_f0 (w : World) : Calls Tryd.prog 12 #[.string ⟨#[48, 120, 95, 102]⟩] w fun e w' => e = .returned (.int .i64 2) ∧ w = w' := by
  have h := form_any ⟨#[48, 120, 95, 102]⟩ w (by decide)
  rw [show M.form (⟨#[48, 120, 95, 102]⟩ : ByteArray).data.toList = 2 by decide] at h
  exact h
theorem k_f1 (w : World) : Calls Tryd.prog 12 #[.string ⟨#[48, 98, 95]⟩] w fun e w' => e = .returned (.int .i64 0) ∧ w = w' := by
  have h := form_any ⟨#[48, 98, 95]⟩ w (by decide)
  rw [show M.form (⟨#[48, 98, 95]⟩ : ByteArray).data.toList = 0 by decide] at h
  exact h
theorem k_f2 (w : World) : Calls Tryd.prog 12 #[.string ⟨#[45, 48]⟩] w fun e w' => e = .returned (.int .i64 4) ∧ w = w' := by
  have h := form_any ⟨#[45, 48]⟩ w (by decide)
  rw [show M.form (⟨#[45, 48]⟩ : ByteArray).data.toList = 4 by decide] at h
  exact h
theorem k_f3 (w : World) : Calls Tryd.prog 12 #[.string ⟨#[49, 58, 54, 48]⟩] w fun e w' => e = .returned (.int .i64 0) ∧ w = w' := by
  have h := form_any ⟨#[49, 58, 54, 48]⟩ w (by decide)
  rw [show M.form (⟨#[49, 58, 54, 48]⟩ : ByteArray).data.toList = 0 by decide] at h
  exact h
theorem k_f4 (w : World) : Calls Tryd.prog 12 #[.string ⟨#[48, 48]⟩] w fun e w' => e = .returned (.int .i64 3) ∧ w = w' := by
  have h := form_any ⟨#[48, 48]⟩ w (by decide)
  rw [show M.form (⟨#[48, 48]⟩ : ByteArray).data.toList = 3 by decide] at h
  exact h
set_option maxRecDepth 100000 in
set_option maxHeartbeats 1000000 in
theorem known_any (w : World) (he : Env w) : Calls Tryd.prog 8 #[] w fun e w' => e = .returned (.bool true) ∧ Below w.heap.size w w' := by
  go_enter Tryd.func8, Tryd.ntmps8
  go_wp2_with fail
  refine (k_of0 _ he).mono ?_
  rintro r w1 ⟨rfl, hb1⟩
  have B1 : Below w.heap.size w w1 := hb1
  go_wp2_with fail
  refine (k_of1 _ (he.next B1)).mono ?_
  rintro r w2 ⟨rfl, hb2⟩
  have B2 : Below w.heap.size w w2 := B1.trans (hb2.mono B1.size)
  go_wp2_with fail
  refine (k_of2 _ (he.next B2)).mono ?_
  rintro r w3 ⟨rfl, hb3⟩
  have B3 : Below w.heap.size w w3 := B2.trans (hb3.mono B2.size)
  go_wp2_with fail
  refine (k_of3 _ (he.next B3)).mono ?_
  rintro r w4 ⟨rfl, hb4⟩
  have B4 : Below w.heap.size w w4 := B3.trans (hb4.mono B3.size)
  go_wp2_with fail
  refine (k_f0 _).mono ?_
  rintro r w' ⟨rfl, rfl⟩
  go_wp2_with fail
  refine (k_f1 _).mono ?_
  rintro r w' ⟨rfl, rfl⟩
  go_wp2_with fail
  refine (k_f2 _).mono ?_
  rintro r w' ⟨rfl, rfl⟩
  go_wp2_with fail
  refine (k_f3 _).mono ?_
  rintro r w' ⟨rfl, rfl⟩
  go_wp2_with fail
  refine (k_f4 _).mono ?_
  rintro r w' ⟨rfl, rfl⟩
  go_wp2
  go_ret
  exact ⟨rfl, B4⟩
end Go.Proofs.YthgkmcidlcdjlaaDoor
