/- The law BigTells: its walk. -/
import Derived.Test.YthgkmcidlcdjlaaDoorLe
set_option linter.unusedVariables false
namespace Go.Proofs.YthgkmcidlcdjlaaDoor
open Go.RowKit

/-- Both sides' Norm answer the same: a whole number, or nothing. -/
theorem norm_agree (neg : Bool) (a : ByteArray) (ha : a.size ≤ 80) : ∃ R : ByteArray, R.size ≤ 81 ∧ M.goodB R.data.toList = !R.toList.isEmpty ∧ (∀ w, Calls Tryd.prog 17 #[.bool neg, .string a] w fun e w' => e = .returned (.string R) ∧ Below w.heap.size w w') ∧ (∀ w, Calls Tryd.prog 13 #[.bool neg, .string a] w fun e w' => e = .returned (.string R) ∧ Below w.heap.size w w') := by
  by_cases h : M.okD 10 a.data.toList = true
  · refine ⟨tx (M.sgn neg (M.val 10 a.data.toList)), ?_, ?_, fun w => norm_yes neg a w (by omega) h, fun w => (rnorm_yes neg a w (by omega) h).mono (fun e w' h => ⟨h.1, h.2 ▸ Below.refl _ _⟩)⟩
    · refine tx_len _ 80 (by omega) ?_
      rw [sgn_abs]
      have h1 := M.val_lt 10 _ ((M.okD_iff _ _).1 h).2
      rw [← sz_list] at h1
      have h2 : 10 ^ a.size ≤ 10 ^ 80 := Nat.pow_le_pow_right (by omega) ha
      omega
    · rw [tx_good, ByteArray.toList_eq, tx_list]
      have := M.txt_ne (M.sgn neg (M.val 10 a.data.toList))
      cases hh : M.txt (M.sgn neg (M.val 10 a.data.toList))
      · exact absurd hh this
      · rfl
  · have h' : M.okD 10 a.data.toList = false := by simpa using h
    refine ⟨⟨#[]⟩, by decide, by rw [ByteArray.toList_eq]; rfl, fun w => (norm_no neg a w (by omega) h').mono (fun e w' h => ⟨h.1, h.2 ▸ Below.refl _ _⟩), fun w => (rnorm_no neg a w (by omega) h').mono (fun e w' h => ⟨h.1, h.2 ▸ Below.refl _ _⟩)⟩
theorem good_agree (a : ByteArray) (ha : a.size ≤ 100) : ∃ R : Bool, R = M.goodB a.data.toList ∧ (∀ w, Calls Tryd.prog 64 #[.string a] w fun e w' => e = .returned (.bool R) ∧ w = w') ∧ (∀ w, Calls Tryd.prog 55 #[.string a] w fun e w' => e = .returned (.bool R) ∧ w = w') :=
  ⟨_, rfl, fun w => good_any a w (by omega), fun w => rgood_any a w (by omega)⟩

end Go.Proofs.YthgkmcidlcdjlaaDoor
