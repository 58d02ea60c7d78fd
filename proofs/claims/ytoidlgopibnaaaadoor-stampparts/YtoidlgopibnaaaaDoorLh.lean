/- The law StampParts: its walk, put together. -/
import Derived.Test.YtoidlgopibnaaaaDoorLg0
import Derived.Test.YtoidlgopibnaaaaDoorLg1
import Derived.Test.YtoidlgopibnaaaaDoorLg2
import Derived.Test.YtoidlgopibnaaaaDoorLg3
import Derived.Test.YtoidlgopibnaaaaDoorLg4
import Derived.Test.YtoidlgopibnaaaaDoorLg5
set_option linter.unusedVariables false
namespace Go.Proofs.YtoidlgopibnaaaaDoor
open Go.RowKit

theorem parts_any (f : ByteArray) (a b : Nat) (w : World) (ht : Env w) (hs : f.size ≤ maxLen) (ha : a ≤ 255) (hb : b ≤ 255) : Calls Tryd.prog 7 #[.string f, .int .u8 a, .int .u8 b] w fun e w' => e = .returned (.bool true) ∧ Below w.heap.size w w' := by
  by_cases h : f.size ≤ 30
  · have hk : a % 6 = 0 ∨ a % 6 = 1 ∨ a % 6 = 2 ∨ a % 6 = 3 ∨ a % 6 = 4 ∨ a % 6 = 5 := by omega
    rcases hk with hk | hk | hk | hk | hk | hk
    · exact parts_core0 f a b w ht h ha hb hk
    · exact parts_core1 f a b w ht h ha hb hk
    · exact parts_core2 f a b w ht h ha hb hk
    · exact parts_core3 f a b w ht h ha hb hk
    · exact parts_core4 f a b w ht h ha hb hk
    · exact parts_core5 f a b w ht h ha hb hk
  · exact parts_long f a b w ht hs (by omega)
end Go.Proofs.YtoidlgopibnaaaaDoor
