/- Walks: sixties, said, Of. -/
import Derived.Test.YtocegiffbgnogaaGreatDoorYc
set_option linter.unusedVariables false
namespace Go.Proofs.YtocegiffbgnogaaGreatDoor
open Go.RowKit

theorem tx_dgo (n : Nat) : M.okD 10 (tx (n : Int)).data.toList = true ∧ M.val 10 (tx (n : Int)).data.toList = n := by
  rw [tx_list, M.txt_nat]; exact ⟨M.dg_ok n, M.dg_val n⟩
theorem tx_room {n b E : Nat} (h : n < b ^ E) (hb : b ≤ 100) (hE : E ≤ 1000) : (tx (n : Int)).size ≤ 6000 := by
  have h1 : n < 10 ^ (2 * E + 1) := by
    refine Nat.lt_of_lt_of_le h ?_
    rw [Nat.pow_succ, Nat.pow_mul]
    exact Nat.le_trans (Nat.pow_le_pow_left hb E) (Nat.le_mul_of_pos_right _ (by omega))
  have := tx_len (n : Int) (2 * E + 1) (by omega) h1
  omega
end Go.Proofs.YtocegiffbgnogaaGreatDoor
