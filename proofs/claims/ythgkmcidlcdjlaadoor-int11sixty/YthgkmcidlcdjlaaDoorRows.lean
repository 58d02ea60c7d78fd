/-
  NARROWER THAN 'FOR EVERY INPUT', by the rows' own cells (each row's printed sentence says how): Int11Tells: laid · Int11Bases: laid · Int11Sixty: laid · Int11Gaps: laid · Int11Apart: laid.
  DERIVED. THE GIVEN ROWS OF THIS SEAT. 5 by the template 'for every input the law returns true; each argument reads behind the call as it read before'; 0 by the template 'total and deterministic' (their statements: YthgkmcidlcdjlaaDoorTotals.lean).
  GIVEN WITH THE SEED: the statements are not yours to turn. If you find one false, say at which input.
  Laid BY PROGRAM, IN A SANDBOX (cutbox-rows.mjs): the forced cells as the released guide's own fill.sh prints them over the translation 9003b83476eb5ec7… (all of the seat's roots in one cut). By AI agents, Wed Nov 11 2026. No macro, syntax, notation, axiom, sorry.
-/
import Derived.Test.YthgkmcidlcdjlaaDoorChecked
import GoSem.PinnedTables
import GoSem.Claim
import GoSem.ClaimJoined
import GoSem.ClaimMapViews
import Derived.JoinedTies
import Derived.KernelRfl
namespace Go.Proofs.YthgkmcidlcdjlaaDoor
/- THE CELL 'sum', in the pinned program and in every row, IS THE sha256 OF THE DUMP (.gsa) THAT YthgkmcidlcdjlaaDoorProg.lean LOADS. Nothing in Lean hashes anything: it is a label: what it is worth is what the hold of that sum in a sandbox is worth. -/
noncomputable def Tryd.pinned : Pinned := { name := "ythgkmcidlcdjlaadoor", sum := "9003b83476eb5ec78faf67b603862a68f8a998eaf44d6cc727d361d1038aed8f", checked := Tryd.checked }
namespace Rows
def none {H : Type} : Left H := { results := [], args := [] }

/- WHAT THE LISTED PACKAGE-LEVEL VARIABLES READ AS WHEN THE CALL BEGINS. Each datum BY PROGRAM (the guide's laid-datum.mjs) off the statement by which the dump's own 'gosem.cut.vars' lays the variable. In a bare row this is a premise. The card (YthgkmcidlcdjlaaDoorCards.lean) ties it to the program's text. -/
def laid_unicode_utf8_acceptRanges {H : Type} : DataW H := .agg [.agg [.lit (.int .u8 128), .lit (.int .u8 191)], .agg [.lit (.int .u8 160), .lit (.int .u8 191)], .agg [.lit (.int .u8 128), .lit (.int .u8 159)], .agg [.lit (.int .u8 144), .lit (.int .u8 191)], .agg [.lit (.int .u8 128), .lit (.int .u8 143)], .agg [.lit (.int .u8 0), .lit (.int .u8 0)], .agg [.lit (.int .u8 0), .lit (.int .u8 0)], .agg [.lit (.int .u8 0), .lit (.int .u8 0)], .agg [.lit (.int .u8 0), .lit (.int .u8 0)], .agg [.lit (.int .u8 0), .lit (.int .u8 0)], .agg [.lit (.int .u8 0), .lit (.int .u8 0)], .agg [.lit (.int .u8 0), .lit (.int .u8 0)], .agg [.lit (.int .u8 0), .lit (.int .u8 0)], .agg [.lit (.int .u8 0), .lit (.int .u8 0)], .agg [.lit (.int .u8 0), .lit (.int .u8 0)], .agg [.lit (.int .u8 0), .lit (.int .u8 0)]]
/-- One of Go's own tables, pinned by name: the form's constant. -/
def laid_unicode_utf8_first : DataW Unit := Go.Pinned.utf8First

/-- 'targumlaw6.Int11Tells': WHATEVER THE INPUT: true; the input reads as it did. -/
def int11TellsSpec : ChangeSpec := { name := "int11Tells", fn := fun _ => fun
  | [d1, d2] => { results := [.lit (.bool true)], args := [d1, d2] }
  | _ => none }
def int11TellsRow : OpenClaim := { program := "ythgkmcidlcdjlaadoor", sum := "9003b83476eb5ec78faf67b603862a68f8a998eaf44d6cc727d361d1038aed8f", func := "targum/targumlaw6.Int11Tells", spec := "int11Tells", inPlace := ["internal/bytealg.CountString", "internal/bytealg.IndexByteString", "internal/bytealg.IndexString", "internal/abi.NoEscape", "internal/bytealg.MakeNoZero"], named := ["internal/bytealg.MaxLen", "unicode/utf8.first", "unicode/utf8.acceptRanges"], apart := false, laid := [("unicode/utf8.acceptRanges", laid_unicode_utf8_acceptRanges), ("unicode/utf8.first", laid_unicode_utf8_first)] }
def Int11TellsSaid : Prop := int11TellsRow.holds Tryd.pinned (OpenSpec.ofChange int11TellsSpec)

/-- ITS FALSE NEIGHBOUR: 'it returns false'. Refute it at one input. -/
def int11TellsWrong : ChangeSpec := { name := "int11Tells", fn := fun _ => fun
  | [d1, d2] => { results := [.lit (.bool false)], args := [d1, d2] }
  | _ => none }
def Int11TellsWrongFalsely : Prop := int11TellsRow.holds Tryd.pinned (OpenSpec.ofChange int11TellsWrong)

/-- 'targumlaw6.Int11Bases': WHATEVER THE INPUT: true; the input reads as it did. -/
def int11BasesSpec : ChangeSpec := { name := "int11Bases", fn := fun _ => fun
  | [d1, d2, d3, d4] => { results := [.lit (.bool true)], args := [d1, d2, d3, d4] }
  | _ => none }
def int11BasesRow : OpenClaim := { program := "ythgkmcidlcdjlaadoor", sum := "9003b83476eb5ec78faf67b603862a68f8a998eaf44d6cc727d361d1038aed8f", func := "targum/targumlaw6.Int11Bases", spec := "int11Bases", inPlace := ["internal/bytealg.CountString", "internal/bytealg.IndexByteString", "internal/bytealg.IndexString", "internal/abi.NoEscape", "internal/bytealg.MakeNoZero"], named := ["internal/bytealg.MaxLen", "unicode/utf8.first", "unicode/utf8.acceptRanges"], apart := false, laid := [("unicode/utf8.acceptRanges", laid_unicode_utf8_acceptRanges), ("unicode/utf8.first", laid_unicode_utf8_first)] }
def Int11BasesSaid : Prop := int11BasesRow.holds Tryd.pinned (OpenSpec.ofChange int11BasesSpec)

/-- ITS FALSE NEIGHBOUR: 'it returns false'. Refute it at one input. -/
def int11BasesWrong : ChangeSpec := { name := "int11Bases", fn := fun _ => fun
  | [d1, d2, d3, d4] => { results := [.lit (.bool false)], args := [d1, d2, d3, d4] }
  | _ => none }
def Int11BasesWrongFalsely : Prop := int11BasesRow.holds Tryd.pinned (OpenSpec.ofChange int11BasesWrong)

/-- 'targumlaw6.Int11Sixty': WHATEVER THE INPUT: true; the input reads as it did. -/
def int11SixtySpec : ChangeSpec := { name := "int11Sixty", fn := fun _ => fun
  | [d1, d2, d3, d4] => { results := [.lit (.bool true)], args := [d1, d2, d3, d4] }
  | _ => none }
def int11SixtyRow : OpenClaim := { program := "ythgkmcidlcdjlaadoor", sum := "9003b83476eb5ec78faf67b603862a68f8a998eaf44d6cc727d361d1038aed8f", func := "targum/targumlaw6.Int11Sixty", spec := "int11Sixty", inPlace := ["internal/bytealg.CountString", "internal/bytealg.IndexByteString", "internal/bytealg.IndexString", "internal/abi.NoEscape", "internal/bytealg.MakeNoZero"], named := ["internal/bytealg.MaxLen", "unicode/utf8.first", "unicode/utf8.acceptRanges"], apart := false, laid := [("unicode/utf8.acceptRanges", laid_unicode_utf8_acceptRanges), ("unicode/utf8.first", laid_unicode_utf8_first)] }
def Int11SixtySaid : Prop := int11SixtyRow.holds Tryd.pinned (OpenSpec.ofChange int11SixtySpec)

/-- ITS FALSE NEIGHBOUR: 'it returns false'. Refute it at one input. -/
def int11SixtyWrong : ChangeSpec := { name := "int11Sixty", fn := fun _ => fun
  | [d1, d2, d3, d4] => { results := [.lit (.bool false)], args := [d1, d2, d3, d4] }
  | _ => none }
def Int11SixtyWrongFalsely : Prop := int11SixtyRow.holds Tryd.pinned (OpenSpec.ofChange int11SixtyWrong)

/-- 'targumlaw6.Int11Gaps': WHATEVER THE INPUT: true; the input reads as it did. -/
def int11GapsSpec : ChangeSpec := { name := "int11Gaps", fn := fun _ => fun
  | [d1, d2, d3] => { results := [.lit (.bool true)], args := [d1, d2, d3] }
  | _ => none }
def int11GapsRow : OpenClaim := { program := "ythgkmcidlcdjlaadoor", sum := "9003b83476eb5ec78faf67b603862a68f8a998eaf44d6cc727d361d1038aed8f", func := "targum/targumlaw6.Int11Gaps", spec := "int11Gaps", inPlace := ["internal/bytealg.CountString", "internal/bytealg.IndexByteString", "internal/bytealg.IndexString", "internal/abi.NoEscape", "internal/bytealg.MakeNoZero"], named := ["internal/bytealg.MaxLen", "unicode/utf8.first", "unicode/utf8.acceptRanges"], apart := false, laid := [("unicode/utf8.acceptRanges", laid_unicode_utf8_acceptRanges), ("unicode/utf8.first", laid_unicode_utf8_first)] }
def Int11GapsSaid : Prop := int11GapsRow.holds Tryd.pinned (OpenSpec.ofChange int11GapsSpec)

/-- ITS FALSE NEIGHBOUR: 'it returns false'. Refute it at one input. -/
def int11GapsWrong : ChangeSpec := { name := "int11Gaps", fn := fun _ => fun
  | [d1, d2, d3] => { results := [.lit (.bool false)], args := [d1, d2, d3] }
  | _ => none }
def Int11GapsWrongFalsely : Prop := int11GapsRow.holds Tryd.pinned (OpenSpec.ofChange int11GapsWrong)

/-- 'targumlaw6.Int11Apart': WHATEVER THE INPUT: true; the input reads as it did. -/
def int11ApartSpec : ChangeSpec := { name := "int11Apart", fn := fun _ => fun
  | [d1, d2] => { results := [.lit (.bool true)], args := [d1, d2] }
  | _ => none }
def int11ApartRow : OpenClaim := { program := "ythgkmcidlcdjlaadoor", sum := "9003b83476eb5ec78faf67b603862a68f8a998eaf44d6cc727d361d1038aed8f", func := "targum/targumlaw6.Int11Apart", spec := "int11Apart", inPlace := ["internal/bytealg.CountString", "internal/bytealg.IndexByteString", "internal/bytealg.IndexString", "internal/abi.NoEscape", "internal/bytealg.MakeNoZero"], named := ["internal/bytealg.MaxLen", "unicode/utf8.first", "unicode/utf8.acceptRanges"], apart := false, laid := [("unicode/utf8.acceptRanges", laid_unicode_utf8_acceptRanges), ("unicode/utf8.first", laid_unicode_utf8_first)] }
def Int11ApartSaid : Prop := int11ApartRow.holds Tryd.pinned (OpenSpec.ofChange int11ApartSpec)

/-- ITS FALSE NEIGHBOUR: 'it returns false'. Refute it at one input. -/
def int11ApartWrong : ChangeSpec := { name := "int11Apart", fn := fun _ => fun
  | [d1, d2] => { results := [.lit (.bool false)], args := [d1, d2] }
  | _ => none }
def Int11ApartWrongFalsely : Prop := int11ApartRow.holds Tryd.pinned (OpenSpec.ofChange int11ApartWrong)

/- THE SECOND FORM. 'bulk': how many values and letters a reading holds, each counted each time it is reached (what is shared counts as often as it is met; a slice's spare places count too). A statement '..UptoSaid' is the law's where the arguments, and the package variables that the reading takes, are together of bulk at most 1048576: NARROWER than '..Said'. Prove '..Said' where nothing that the law and all that it calls make is longer than what came in: it says more and counts as full. Else prove '..UptoSaid'. A law counts once. -/
mutual
def uptoBulk {H : Type} : DataW H → Nat
  | .lit (.string bytes) => bytes.length + 1
  | .lit _ => 1
  | .nil => 1
  | .ptr d => uptoBulk d + 1
  | .slice elems spare => uptoBulkAll elems + uptoBulkAll spare + 1
  | .agg parts => uptoBulkAll parts + 1
  | .iface _ d => uptoBulk d + 1
  | .map entries => uptoBulkEntries entries + 1
  | .held _ => 1
def uptoBulkAll {H : Type} : List (DataW H) → Nat
  | [] => 0
  | d :: r => uptoBulk d + uptoBulkAll r
def uptoBulkEntries {H : Type} : List (Lit × DataW H) → Nat
  | [] => 0
  | x :: r => uptoBulkEntry x + uptoBulkEntries r
def uptoBulkEntry {H : Type} : Lit × DataW H → Nat
  | (.string bytes, d) => bytes.length + uptoBulk d + 1
  | (_, d) => uptoBulk d + 1
 end
def uptoSmall : (H : Type) → List (DataW H) → Bool := fun _ ds => decide (uptoBulkAll ds ≤ 1048576)
def OpenSpec.upto (s : _root_.Go.ChangeSpec) : _root_.Go.OpenSpec := { _root_.Go.OpenSpec.ofChange s with cond := some uptoSmall }

/-- 'targumlaw6.Int11Tells', WHERE WHAT IT READS IS OF BULK AT MOST 1048576: true; the input reads as it did. -/
def int11TellsUptoRow : OpenClaim := { program := "ythgkmcidlcdjlaadoor", sum := "9003b83476eb5ec78faf67b603862a68f8a998eaf44d6cc727d361d1038aed8f", func := "targum/targumlaw6.Int11Tells", spec := "int11Tells", inPlace := ["internal/bytealg.CountString", "internal/bytealg.IndexByteString", "internal/bytealg.IndexString", "internal/abi.NoEscape", "internal/bytealg.MakeNoZero"], named := ["internal/bytealg.MaxLen", "unicode/utf8.first", "unicode/utf8.acceptRanges"], apart := false, laid := [("unicode/utf8.acceptRanges", laid_unicode_utf8_acceptRanges), ("unicode/utf8.first", laid_unicode_utf8_first)], narrowed := true }
def Int11TellsUptoSaid : Prop := int11TellsUptoRow.holds Tryd.pinned (OpenSpec.upto int11TellsSpec)

/-- 'targumlaw6.Int11Bases', WHERE WHAT IT READS IS OF BULK AT MOST 1048576: true; the input reads as it did. -/
def int11BasesUptoRow : OpenClaim := { program := "ythgkmcidlcdjlaadoor", sum := "9003b83476eb5ec78faf67b603862a68f8a998eaf44d6cc727d361d1038aed8f", func := "targum/targumlaw6.Int11Bases", spec := "int11Bases", inPlace := ["internal/bytealg.CountString", "internal/bytealg.IndexByteString", "internal/bytealg.IndexString", "internal/abi.NoEscape", "internal/bytealg.MakeNoZero"], named := ["internal/bytealg.MaxLen", "unicode/utf8.first", "unicode/utf8.acceptRanges"], apart := false, laid := [("unicode/utf8.acceptRanges", laid_unicode_utf8_acceptRanges), ("unicode/utf8.first", laid_unicode_utf8_first)], narrowed := true }
def Int11BasesUptoSaid : Prop := int11BasesUptoRow.holds Tryd.pinned (OpenSpec.upto int11BasesSpec)

/-- 'targumlaw6.Int11Sixty', WHERE WHAT IT READS IS OF BULK AT MOST 1048576: true; the input reads as it did. -/
def int11SixtyUptoRow : OpenClaim := { program := "ythgkmcidlcdjlaadoor", sum := "9003b83476eb5ec78faf67b603862a68f8a998eaf44d6cc727d361d1038aed8f", func := "targum/targumlaw6.Int11Sixty", spec := "int11Sixty", inPlace := ["internal/bytealg.CountString", "internal/bytealg.IndexByteString", "internal/bytealg.IndexString", "internal/abi.NoEscape", "internal/bytealg.MakeNoZero"], named := ["internal/bytealg.MaxLen", "unicode/utf8.first", "unicode/utf8.acceptRanges"], apart := false, laid := [("unicode/utf8.acceptRanges", laid_unicode_utf8_acceptRanges), ("unicode/utf8.first", laid_unicode_utf8_first)], narrowed := true }
def Int11SixtyUptoSaid : Prop := int11SixtyUptoRow.holds Tryd.pinned (OpenSpec.upto int11SixtySpec)

/-- 'targumlaw6.Int11Gaps', WHERE WHAT IT READS IS OF BULK AT MOST 1048576: true; the input reads as it did. -/
def int11GapsUptoRow : OpenClaim := { program := "ythgkmcidlcdjlaadoor", sum := "9003b83476eb5ec78faf67b603862a68f8a998eaf44d6cc727d361d1038aed8f", func := "targum/targumlaw6.Int11Gaps", spec := "int11Gaps", inPlace := ["internal/bytealg.CountString", "internal/bytealg.IndexByteString", "internal/bytealg.IndexString", "internal/abi.NoEscape", "internal/bytealg.MakeNoZero"], named := ["internal/bytealg.MaxLen", "unicode/utf8.first", "unicode/utf8.acceptRanges"], apart := false, laid := [("unicode/utf8.acceptRanges", laid_unicode_utf8_acceptRanges), ("unicode/utf8.first", laid_unicode_utf8_first)], narrowed := true }
def Int11GapsUptoSaid : Prop := int11GapsUptoRow.holds Tryd.pinned (OpenSpec.upto int11GapsSpec)

/-- 'targumlaw6.Int11Apart', WHERE WHAT IT READS IS OF BULK AT MOST 1048576: true; the input reads as it did. -/
def int11ApartUptoRow : OpenClaim := { program := "ythgkmcidlcdjlaadoor", sum := "9003b83476eb5ec78faf67b603862a68f8a998eaf44d6cc727d361d1038aed8f", func := "targum/targumlaw6.Int11Apart", spec := "int11Apart", inPlace := ["internal/bytealg.CountString", "internal/bytealg.IndexByteString", "internal/bytealg.IndexString", "internal/abi.NoEscape", "internal/bytealg.MakeNoZero"], named := ["internal/bytealg.MaxLen", "unicode/utf8.first", "unicode/utf8.acceptRanges"], apart := false, laid := [("unicode/utf8.acceptRanges", laid_unicode_utf8_acceptRanges), ("unicode/utf8.first", laid_unicode_utf8_first)], narrowed := true }
def Int11ApartUptoSaid : Prop := int11ApartUptoRow.holds Tryd.pinned (OpenSpec.upto int11ApartSpec)

end Rows
end Go.Proofs.YthgkmcidlcdjlaaDoor
