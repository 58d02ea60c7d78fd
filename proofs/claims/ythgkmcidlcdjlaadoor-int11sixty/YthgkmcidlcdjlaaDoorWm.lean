/- Walk: known. -/
import Derived.Test.YthgkmcidlcdjlaaDoorWh
set_option linter.unusedVariables false
namespace Go.Proofs.YthgkmcidlcdjlaaDoor
open Go.RowKit

theorem lit_pos (l : List UInt8) (h1 : M.okD 10 l = true) (h2 : l ≠ [] ∧ l.head? ≠ some 48) (n : Nat) (hn : M.val 10 l = n) : tx (n : Int) = bA l := by
  obtain ⟨_, he⟩ := M.dg_of l h1 h2
  unfold tx
  rw [M.txt_nat, ← hn, ← he]
theorem lit_neg (l : List UInt8) (h1 : M.okD 10 l = true) (h2 : l ≠ [] ∧ l.head? ≠ some 48) (n : Nat) (hn : M.val 10 l = n) : tx (-(n : Int)) = bA (45 :: l) := by
  obtain ⟨hp, he⟩ := M.dg_of l h1 h2
  unfold tx
  rw [M.txt_neg _ (by omega), ← hn, ← he]
theorem tx0 : tx 0 = ⟨#[48]⟩ := by unfold tx; rw [M.txt_zero]; rfl
theorem tx1 : tx 1 = ⟨#[49]⟩ := lit_pos [49] (by decide) (by decide) 1 (by decide)
theorem txm1 : tx (-1) = ⟨#[45, 49]⟩ := lit_neg [49] (by decide) (by decide) 1 (by decide)
theorem txm2 : tx (-2) = ⟨#[45, 50]⟩ := lit_neg [50] (by decide) (by decide) 2 (by decide)
end Go.Proofs.YthgkmcidlcdjlaaDoor
