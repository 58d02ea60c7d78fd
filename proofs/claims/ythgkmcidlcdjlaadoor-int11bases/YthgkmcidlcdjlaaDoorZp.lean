/- The law Int11Bases: its walk, to every base. -/
import Derived.Test.YthgkmcidlcdjlaaDoorZg
import Derived.Test.YthgkmcidlcdjlaaDoorZh
import Derived.Test.YthgkmcidlcdjlaaDoorZi
import Derived.Test.YthgkmcidlcdjlaaDoorZj
set_option linter.unusedVariables false
namespace Go.Proofs.YthgkmcidlcdjlaaDoor
open Go.RowKit

theorem bases_any (n B : Nat) (neg : Bool) (g : Nat) (w : World) (he : Env w) (hn : n ≤ 4294967295) (hB : B ≤ 255) (hg : g ≤ 255) :
    Calls Tryd.prog 4 #[.int .u32 n, .int .u8 B, .bool neg, .int .u8 g] w fun e w' => e = .returned (.bool true) ∧ Below w.heap.size w w' := by
  have h4 : B % 4 = 0 ∨ B % 4 = 1 ∨ B % 4 = 2 ∨ B % 4 = 3 := by omega
  rcases h4 with h | h | h | h
  · exact bases_2 n B g neg w he (by omega) h hg
  · exact bases_16 n B g neg w he (by omega) h hg
  · exact bases_8 n B g neg w he (by omega) h hg
  · exact bases_10 n B g neg w he (by omega) h hg
end Go.Proofs.YthgkmcidlcdjlaaDoor
