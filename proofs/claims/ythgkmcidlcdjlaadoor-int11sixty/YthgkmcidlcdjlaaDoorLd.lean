/- The law BigDigits: its walk. -/
import Derived.Test.YthgkmcidlcdjlaaDoorLa
set_option linter.unusedVariables false
namespace Go.Proofs.YthgkmcidlcdjlaaDoor
open Go.RowKit

/-- A byte alone, as a text. -/
theorem one_conv (w : World) (z : Int) (c : UInt8) (h : (c.toNat : Int) = z) :
    (convert 22 9 (.slice (some ⟨w.heap.size, 0, none⟩) 1 1)).run Tryd.prog (w.alloc (.cells #[.int .u8 z] 5)) = .ok (.string (bA [c])) (w.alloc (.cells #[.int .u8 z] 5)) := by
  have hr : Row (w.alloc (.cells #[.int .u8 z] 5)) w.heap.size [c] := by
    unfold Row
    subst h
    show (w.heap.push (.cells #[.int .u8 (c.toNat : Int)] 5))[w.heap.size]? = _
    simp [Lib.byteCells]
  exact hr.conv0 1
end Go.Proofs.YthgkmcidlcdjlaaDoor
