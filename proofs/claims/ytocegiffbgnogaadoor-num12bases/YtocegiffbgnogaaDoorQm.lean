/- The law Num12Bases, put together. -/
import Derived.Test.YtocegiffbgnogaaDoorQi
import Derived.Test.YtocegiffbgnogaaDoorQj
import Derived.Test.YtocegiffbgnogaaDoorQl
set_option linter.unusedVariables false
namespace Go.Proofs.YtocegiffbgnogaaDoor
open Go.RowKit

theorem basesL_any (n B Z : Nat) (neg : Bool) (w : World) (he : Env w) (hn : n < 4294967296) (hB : B < 256) (hZ : Z < 256) :
    Calls Tryd.prog 5 #[.int .u32 n, .int .u8 B, .int .u8 Z, .bool neg] w fun e w' => e = .returned (.bool true) ∧ Below w.heap.size w w' := by
  have h3 : B % 3 = 0 ∨ B % 3 = 1 ∨ B % 3 = 2 := by omega
  rcases h3 with h | h | h
  · exact bases_8 n B Z neg w he hn h (by omega)
  · exact bases_16 n B Z neg w he hn h (by omega)
  · exact bases_10 n B Z neg w he hn h (by omega)
end Go.Proofs.YtocegiffbgnogaaDoor
