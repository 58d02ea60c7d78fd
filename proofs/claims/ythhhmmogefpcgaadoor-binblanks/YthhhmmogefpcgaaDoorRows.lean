/-
  NARROWER THAN 'FOR EVERY INPUT', by the rows' own cells (each row's printed sentence says how): BinBack: laid · BinThrees: laid · BinBlanks: laid · BinApart: laid.
  DERIVED. THE GIVEN ROWS OF THIS SEAT. 4 by the template 'for every input the law returns true; each argument reads behind the call as it read before'; 0 by the template 'total and deterministic' (their statements: YthhhmmogefpcgaaDoorTotals.lean).
  GIVEN WITH THE SEED: the statements are not yours to turn. If you find one false, say at which input.
  Laid BY PROGRAM, IN A SANDBOX (cutbox-rows.mjs): the forced cells as the released guide's own fill.sh prints them over the translation f210fc66a58b9fef… (all of the seat's roots in one cut). By AI agents, Wed Nov 11 2026. No macro, syntax, notation, axiom, sorry.
-/
import Derived.Test.YthhhmmogefpcgaaDoorChecked
import GoSem.Claim
import GoSem.ClaimJoined
import GoSem.ClaimMapViews
import Derived.JoinedTies
import Derived.KernelRfl
namespace Go.Proofs.YthhhmmogefpcgaaDoor
/- THE CELL 'sum', in the pinned program and in every row, IS THE sha256 OF THE DUMP (.gsa) THAT YthhhmmogefpcgaaDoorProg.lean LOADS. Nothing in Lean hashes anything: it is a label: what it is worth is what the hold of that sum in a sandbox is worth. -/
noncomputable def Tryd.pinned : Pinned := { name := "ythhhmmogefpcgaadoor", sum := "f210fc66a58b9fefd5fac30c5450fa7f58ffeb82662479351e19587e6c252888", checked := Tryd.checked }
namespace Rows
def none {H : Type} : Left H := { results := [], args := [] }

/- WHAT THE LISTED PACKAGE-LEVEL VARIABLES READ AS WHEN THE CALL BEGINS. Each datum BY PROGRAM (the guide's laid-datum.mjs) off the statement by which the dump's own 'gosem.cut.vars' lays the variable. In a bare row this is a premise. The card (YthhhmmogefpcgaaDoorCards.lean) ties it to the program's text. -/
def laid_targum_bin_signs {H : Type} : DataW H := .agg [.lit (.int .u8 65), .lit (.int .u8 66), .lit (.int .u8 67), .lit (.int .u8 68), .lit (.int .u8 69), .lit (.int .u8 70), .lit (.int .u8 71), .lit (.int .u8 72), .lit (.int .u8 73), .lit (.int .u8 74), .lit (.int .u8 75), .lit (.int .u8 76), .lit (.int .u8 77), .lit (.int .u8 78), .lit (.int .u8 79), .lit (.int .u8 80), .lit (.int .u8 81), .lit (.int .u8 82), .lit (.int .u8 83), .lit (.int .u8 84), .lit (.int .u8 85), .lit (.int .u8 86), .lit (.int .u8 87), .lit (.int .u8 88), .lit (.int .u8 89), .lit (.int .u8 90), .lit (.int .u8 97), .lit (.int .u8 98), .lit (.int .u8 99), .lit (.int .u8 100), .lit (.int .u8 101), .lit (.int .u8 102), .lit (.int .u8 103), .lit (.int .u8 104), .lit (.int .u8 105), .lit (.int .u8 106), .lit (.int .u8 107), .lit (.int .u8 108), .lit (.int .u8 109), .lit (.int .u8 110), .lit (.int .u8 111), .lit (.int .u8 112), .lit (.int .u8 113), .lit (.int .u8 114), .lit (.int .u8 115), .lit (.int .u8 116), .lit (.int .u8 117), .lit (.int .u8 118), .lit (.int .u8 119), .lit (.int .u8 120), .lit (.int .u8 121), .lit (.int .u8 122), .lit (.int .u8 48), .lit (.int .u8 49), .lit (.int .u8 50), .lit (.int .u8 51), .lit (.int .u8 52), .lit (.int .u8 53), .lit (.int .u8 54), .lit (.int .u8 55), .lit (.int .u8 56), .lit (.int .u8 57), .lit (.int .u8 43), .lit (.int .u8 47)]

/-- 'targumlaw11.BinBack': WHATEVER THE INPUT: true; the input reads as it did. -/
def binBackSpec : ChangeSpec := { name := "binBack", fn := fun _ => fun
  | [d1, d2] => { results := [.lit (.bool true)], args := [d1, d2] }
  | _ => none }
def binBackRow : OpenClaim := { program := "ythhhmmogefpcgaadoor", sum := "f210fc66a58b9fefd5fac30c5450fa7f58ffeb82662479351e19587e6c252888", func := "targum/targumlaw11.BinBack", spec := "binBack", inPlace := ["internal/abi.NoEscape", "internal/bytealg.MakeNoZero"], named := ["targum/bin.signs"], apart := false, laid := [("targum/bin.signs", laid_targum_bin_signs)] }
def BinBackSaid : Prop := binBackRow.holds Tryd.pinned (OpenSpec.ofChange binBackSpec)

/-- ITS FALSE NEIGHBOUR: 'it returns false'. Refute it at one input. -/
def binBackWrong : ChangeSpec := { name := "binBack", fn := fun _ => fun
  | [d1, d2] => { results := [.lit (.bool false)], args := [d1, d2] }
  | _ => none }
def BinBackWrongFalsely : Prop := binBackRow.holds Tryd.pinned (OpenSpec.ofChange binBackWrong)

/-- 'targumlaw11.BinThrees': WHATEVER THE INPUT: true; the input reads as it did. -/
def binThreesSpec : ChangeSpec := { name := "binThrees", fn := fun _ => fun
  | [d1, d2] => { results := [.lit (.bool true)], args := [d1, d2] }
  | _ => none }
def binThreesRow : OpenClaim := { program := "ythhhmmogefpcgaadoor", sum := "f210fc66a58b9fefd5fac30c5450fa7f58ffeb82662479351e19587e6c252888", func := "targum/targumlaw11.BinThrees", spec := "binThrees", inPlace := ["internal/abi.NoEscape", "internal/bytealg.MakeNoZero"], named := ["targum/bin.signs"], apart := false, laid := [("targum/bin.signs", laid_targum_bin_signs)] }
def BinThreesSaid : Prop := binThreesRow.holds Tryd.pinned (OpenSpec.ofChange binThreesSpec)

/-- ITS FALSE NEIGHBOUR: 'it returns false'. Refute it at one input. -/
def binThreesWrong : ChangeSpec := { name := "binThrees", fn := fun _ => fun
  | [d1, d2] => { results := [.lit (.bool false)], args := [d1, d2] }
  | _ => none }
def BinThreesWrongFalsely : Prop := binThreesRow.holds Tryd.pinned (OpenSpec.ofChange binThreesWrong)

/-- 'targumlaw11.BinBlanks': WHATEVER THE INPUT: true; the input reads as it did. -/
def binBlanksSpec : ChangeSpec := { name := "binBlanks", fn := fun _ => fun
  | [d1, d2, d3, d4] => { results := [.lit (.bool true)], args := [d1, d2, d3, d4] }
  | _ => none }
def binBlanksRow : OpenClaim := { program := "ythhhmmogefpcgaadoor", sum := "f210fc66a58b9fefd5fac30c5450fa7f58ffeb82662479351e19587e6c252888", func := "targum/targumlaw11.BinBlanks", spec := "binBlanks", inPlace := ["internal/abi.NoEscape", "internal/bytealg.MakeNoZero"], named := ["targum/bin.signs"], apart := false, laid := [("targum/bin.signs", laid_targum_bin_signs)] }
def BinBlanksSaid : Prop := binBlanksRow.holds Tryd.pinned (OpenSpec.ofChange binBlanksSpec)

/-- ITS FALSE NEIGHBOUR: 'it returns false'. Refute it at one input. -/
def binBlanksWrong : ChangeSpec := { name := "binBlanks", fn := fun _ => fun
  | [d1, d2, d3, d4] => { results := [.lit (.bool false)], args := [d1, d2, d3, d4] }
  | _ => none }
def BinBlanksWrongFalsely : Prop := binBlanksRow.holds Tryd.pinned (OpenSpec.ofChange binBlanksWrong)

/-- 'targumlaw11.BinApart': WHATEVER THE INPUT: true; the input reads as it did. -/
def binApartSpec : ChangeSpec := { name := "binApart", fn := fun _ => fun
  | [d1, d2, d3] => { results := [.lit (.bool true)], args := [d1, d2, d3] }
  | _ => none }
def binApartRow : OpenClaim := { program := "ythhhmmogefpcgaadoor", sum := "f210fc66a58b9fefd5fac30c5450fa7f58ffeb82662479351e19587e6c252888", func := "targum/targumlaw11.BinApart", spec := "binApart", inPlace := ["internal/abi.NoEscape", "internal/bytealg.MakeNoZero"], named := ["targum/bin.signs"], apart := false, laid := [("targum/bin.signs", laid_targum_bin_signs)] }
def BinApartSaid : Prop := binApartRow.holds Tryd.pinned (OpenSpec.ofChange binApartSpec)

/-- ITS FALSE NEIGHBOUR: 'it returns false'. Refute it at one input. -/
def binApartWrong : ChangeSpec := { name := "binApart", fn := fun _ => fun
  | [d1, d2, d3] => { results := [.lit (.bool false)], args := [d1, d2, d3] }
  | _ => none }
def BinApartWrongFalsely : Prop := binApartRow.holds Tryd.pinned (OpenSpec.ofChange binApartWrong)

/- THE SECOND FORM. 'bulk': how many values and letters a reading holds, each counted each time it is reached (what is shared counts as often as it is met; a slice's spare places count too). A statement '..UptoSaid' is the law's where the arguments, and the package variables that the reading takes, are together of bulk at most 1048576: NARROWER than '..Said'. Prove '..Said' where nothing that the law and all that it calls make is longer than what came in: it says more and counts as full. Else prove '..UptoSaid'. A law counts once. -/
mutual
def uptoBulk {H : Type} : DataW H → Nat
  | .lit (.string bytes) => bytes.length + 1
  | .lit _ => 1
  | .nil => 1
  | .ptr d => uptoBulk d + 1
  | .slice elems spare => uptoBulkAll elems + uptoBulkAll spare + 1
  | .agg parts => uptoBulkAll parts + 1
  | .iface _ d => uptoBulk d + 1
  | .map entries => uptoBulkEntries entries + 1
  | .held _ => 1
def uptoBulkAll {H : Type} : List (DataW H) → Nat
  | [] => 0
  | d :: r => uptoBulk d + uptoBulkAll r
def uptoBulkEntries {H : Type} : List (Lit × DataW H) → Nat
  | [] => 0
  | x :: r => uptoBulkEntry x + uptoBulkEntries r
def uptoBulkEntry {H : Type} : Lit × DataW H → Nat
  | (.string bytes, d) => bytes.length + uptoBulk d + 1
  | (_, d) => uptoBulk d + 1
 end
def uptoSmall : (H : Type) → List (DataW H) → Bool := fun _ ds => decide (uptoBulkAll ds ≤ 1048576)
def OpenSpec.upto (s : _root_.Go.ChangeSpec) : _root_.Go.OpenSpec := { _root_.Go.OpenSpec.ofChange s with cond := some uptoSmall }

/-- 'targumlaw11.BinBack', WHERE WHAT IT READS IS OF BULK AT MOST 1048576: true; the input reads as it did. -/
def binBackUptoRow : OpenClaim := { program := "ythhhmmogefpcgaadoor", sum := "f210fc66a58b9fefd5fac30c5450fa7f58ffeb82662479351e19587e6c252888", func := "targum/targumlaw11.BinBack", spec := "binBack", inPlace := ["internal/abi.NoEscape", "internal/bytealg.MakeNoZero"], named := ["targum/bin.signs"], apart := false, laid := [("targum/bin.signs", laid_targum_bin_signs)], narrowed := true }
def BinBackUptoSaid : Prop := binBackUptoRow.holds Tryd.pinned (OpenSpec.upto binBackSpec)

/-- 'targumlaw11.BinThrees', WHERE WHAT IT READS IS OF BULK AT MOST 1048576: true; the input reads as it did. -/
def binThreesUptoRow : OpenClaim := { program := "ythhhmmogefpcgaadoor", sum := "f210fc66a58b9fefd5fac30c5450fa7f58ffeb82662479351e19587e6c252888", func := "targum/targumlaw11.BinThrees", spec := "binThrees", inPlace := ["internal/abi.NoEscape", "internal/bytealg.MakeNoZero"], named := ["targum/bin.signs"], apart := false, laid := [("targum/bin.signs", laid_targum_bin_signs)], narrowed := true }
def BinThreesUptoSaid : Prop := binThreesUptoRow.holds Tryd.pinned (OpenSpec.upto binThreesSpec)

/-- 'targumlaw11.BinBlanks', WHERE WHAT IT READS IS OF BULK AT MOST 1048576: true; the input reads as it did. -/
def binBlanksUptoRow : OpenClaim := { program := "ythhhmmogefpcgaadoor", sum := "f210fc66a58b9fefd5fac30c5450fa7f58ffeb82662479351e19587e6c252888", func := "targum/targumlaw11.BinBlanks", spec := "binBlanks", inPlace := ["internal/abi.NoEscape", "internal/bytealg.MakeNoZero"], named := ["targum/bin.signs"], apart := false, laid := [("targum/bin.signs", laid_targum_bin_signs)], narrowed := true }
def BinBlanksUptoSaid : Prop := binBlanksUptoRow.holds Tryd.pinned (OpenSpec.upto binBlanksSpec)

/-- 'targumlaw11.BinApart', WHERE WHAT IT READS IS OF BULK AT MOST 1048576: true; the input reads as it did. -/
def binApartUptoRow : OpenClaim := { program := "ythhhmmogefpcgaadoor", sum := "f210fc66a58b9fefd5fac30c5450fa7f58ffeb82662479351e19587e6c252888", func := "targum/targumlaw11.BinApart", spec := "binApart", inPlace := ["internal/abi.NoEscape", "internal/bytealg.MakeNoZero"], named := ["targum/bin.signs"], apart := false, laid := [("targum/bin.signs", laid_targum_bin_signs)], narrowed := true }
def BinApartUptoSaid : Prop := binApartUptoRow.holds Tryd.pinned (OpenSpec.upto binApartSpec)

end Rows
end Go.Proofs.YthhhmmogefpcgaaDoor
