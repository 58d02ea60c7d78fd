/- Walk: known; decimals compared. -/
import Derived.Test.YtocegiffbgnogaaDoorFl
set_option linter.unusedVariables false
namespace Go.Proofs.YtocegiffbgnogaaDoor
open Go.RowKit

theorem eqG (op : BinOp) (x y : Operand) (xs ys : Array Value) (w : World) : (eqGuard op 28 x y (.agg xs) (.agg ys)).run Tryd.prog w = .ok () w := run_eqGuard_agg w op 28 x y xs ys (by kernel_rfl)
theorem beq_bytes (a b : ByteArray) : (a.toList == b.toList) = decide (a = b) := by
  rw [Bool.eq_iff_iff, decide_eq_true_eq, beq_iff_eq, ByteArray.toList_eq, ByteArray.toList_eq]
  constructor
  · intro h; rw [← bA_of a, ← bA_of b, h]
  · intro h; rw [h]
theorem toList_iff (a b : ByteArray) : a.toList = b.toList ↔ a = b := by
  have := beq_bytes a b
  rw [Bool.eq_iff_iff, decide_eq_true_eq, beq_iff_eq] at this
  exact this
theorem eqIn4 (k k' : Int) (n n' : Bool) (D D' E E' : ByteArray) (w : World) : (Op.equalIn 10000 28 (dV k n D E) (dV k' n' D' E')).run Tryd.prog w = .ok (decide (k = k' ∧ n = n' ∧ D = D' ∧ E = E')) w := by
  have u3 := Tryd.underlying3
  have a3 := Tryd.isAgg3
  have z3 := Tryd.sizeOf3
  have u4 := Tryd.underlying4
  have a4 := Tryd.isAgg4
  have z4 := Tryd.sizeOf4
  have u9 := Tryd.underlying9
  have a9 := Tryd.isAgg9
  have z9 := Tryd.sizeOf9
  have hS : Tryd.prog.underlying 28 = some (.struct (Tryd.prog.fieldsOf 28)) := by kernel_rfl
  have hp : Tryd.prog.stoodInHeld 28 = false := by kernel_rfl
  rw [show (10000 : Nat) = 9999 + 1 from rfl, run_equalIn_agg w 9999 28 _ _ hS hp]
  simp only [Program.fieldsOf, Tryd.underlying28]
  go_simp
  simp only [toList_iff]
  by_cases h1 : k = k' <;> by_cases h2 : n = n' <;> by_cases h3 : D = D' <;> by_cases h4 : E = E' <;> simp [h1, h2, h3, h4]
theorem eql4 (k k' : Int) (n n' : Bool) (D D' E E' : ByteArray) (w : World) : (binOp .eql 28 (dV k n D E) (dV k' n' D' E')).run Tryd.prog w = .ok (.bool (decide (k = k' ∧ n = n' ∧ D = D' ∧ E = E'))) w := by
  rw [run_eql_struct, eqIn4]; rfl
theorem neq4 (k k' : Int) (n n' : Bool) (D D' E E' : ByteArray) (w : World) : (binOp .neq 28 (dV k n D E) (dV k' n' D' E')).run Tryd.prog w = .ok (.bool (!decide (k = k' ∧ n = n' ∧ D = D' ∧ E = E'))) w := by
  rw [run_neq_struct, eqIn4]; rfl

end Go.Proofs.YtocegiffbgnogaaDoor
