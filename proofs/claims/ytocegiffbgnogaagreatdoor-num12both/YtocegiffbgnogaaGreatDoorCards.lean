/-
  DERIVED. GIVEN WITH THE SEED: THE CARDS: each row of YtocegiffbgnogaaGreatDoorRows.lean that lists a variable, with what it lists TIED to the program's text (the seventh form; the later family's looks); each row that meets fmt, with fmt's text TOLD by the authors' own Lean function (tested against real Go, not proved from fmt's source: count such statements apart). THE CARD IS WHAT COUNTS. Prove the row's statement (the work); the ties are given (YtocegiffbgnogaaGreatDoorTie.lean); close each card by the builder's one call (the guide's Derived/Test/ToyasCard.lean, 'card_holds'). Laid BY PROGRAM, IN A SANDBOX (cutbox-door.mjs). By AI agents, Wed Nov 11 2026. No macro, syntax, notation, axiom, sorry.
-/
import Derived.Test.YtocegiffbgnogaaGreatDoorRows
import GoSem.ClaimSeven
namespace Go.Proofs.YtocegiffbgnogaaGreatDoor
namespace Rows

/-- THE TIED CARD OF 'targumlaw8.Num12Both'. -/
def num12BothCard : Claim7 := { stood := { row := num12BothRow, standIns := [], harness := (true, "83405bc3b819b25095b129d55da9d205eca0884f8c89985cb0c4f38ce5cf7034"), looks := false }, kinds := [], alts := [], laidByText := true, laidKinds := [.data, .data, .data, .data, .pinned], laidTests := true, laidLooks := .later }
def Num12BothCardSaid : Prop := Claim7.holds Tryz.pinned (.plain (OpenSpec.ofChange num12BothSpec)) num12BothCard

/-- THE SECOND FORM's CARD OF 'targumlaw8.Num12Both'. -/
def num12BothUptoCard : Claim7 := { stood := { row := num12BothUptoRow, standIns := [], harness := (true, "83405bc3b819b25095b129d55da9d205eca0884f8c89985cb0c4f38ce5cf7034"), looks := false }, kinds := [], alts := [], laidByText := true, laidKinds := [.data, .data, .data, .data, .pinned], laidTests := true, laidLooks := .later }
def Num12BothUptoCardSaid : Prop := Claim7.holds Tryz.pinned (.plain (OpenSpec.upto num12BothSpec)) num12BothUptoCard
end Rows
end Go.Proofs.YtocegiffbgnogaaGreatDoor
