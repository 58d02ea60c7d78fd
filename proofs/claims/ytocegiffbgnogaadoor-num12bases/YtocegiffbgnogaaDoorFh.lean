/- Walk of float11's power. -/
import Derived.Test.YtocegiffbgnogaaDoorFg
import Derived.Deep.RegionHeld3
set_option linter.unusedVariables false
namespace Go.Proofs.YtocegiffbgnogaaDoor
open Go.RowKit

theorem liftB {f : FuncId} {args : Array Value} {W0 w : World} {R : Value} (c : Calls Tryd.prog f args w fun e w' => e = .returned R ∧ Below w.heap.size w w') (h : Below W0.heap.size W0 w) :
    Calls Tryd.prog f args w fun e w' => e = .returned R ∧ Below W0.heap.size W0 w' := c.mono fun _ _ k => ⟨k.1, h.trans (k.2.mono h.size)⟩
theorem dv_low {c : UInt8} (h : M.dv c < 10) : c.toNat < 128 := by have := (M.dv_lt10 h).2.1; omega
end Go.Proofs.YtocegiffbgnogaaDoor
