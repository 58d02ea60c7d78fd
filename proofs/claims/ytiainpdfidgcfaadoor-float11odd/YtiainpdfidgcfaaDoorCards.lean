/-
  DERIVED. GIVEN WITH THE SEED: THE CARDS: each row of YtiainpdfidgcfaaDoorRows.lean that lists a variable, with what it lists TIED to the program's text (the seventh form; the later family's looks); each row that meets fmt, with fmt's text TOLD by the authors' own Lean function (tested against real Go, not proved from fmt's source: count such statements apart). THE CARD IS WHAT COUNTS. Prove the row's statement (the work); the ties are given (YtiainpdfidgcfaaDoorTie.lean); close each card by the builder's one call (the guide's Derived/Test/ToyasCard.lean, 'card_holds'). Laid BY PROGRAM, IN A SANDBOX (cutbox-door.mjs). By AI agents, Wed Nov 11 2026. No macro, syntax, notation, axiom, sorry.
-/
import Derived.Test.YtiainpdfidgcfaaDoorRows
import GoSem.ClaimSeven
namespace Go.Proofs.YtiainpdfidgcfaaDoor
namespace Rows

/-- THE TIED CARD OF 'targumlaw7.Float11Odd'. -/
def float11OddCard : Claim7 := { stood := { row := float11OddRow, standIns := [], harness := (true, "1a375b592fa125c70456566ab81eb6ca41a07e4a013f056bfe1dd31507f05e77"), looks := false }, kinds := [], alts := [], laidByText := true, laidKinds := [.data, .data, .data, .data, .pinned], laidTests := true, laidLooks := .later }
def Float11OddCardSaid : Prop := Claim7.holds Tryd.pinned (.plain (OpenSpec.ofChange float11OddSpec)) float11OddCard

/-- THE SECOND FORM's CARD OF 'targumlaw7.Float11Odd'. -/
def float11OddUptoCard : Claim7 := { stood := { row := float11OddUptoRow, standIns := [], harness := (true, "1a375b592fa125c70456566ab81eb6ca41a07e4a013f056bfe1dd31507f05e77"), looks := false }, kinds := [], alts := [], laidByText := true, laidKinds := [.data, .data, .data, .data, .pinned], laidTests := true, laidLooks := .later }
def Float11OddUptoCardSaid : Prop := Claim7.holds Tryd.pinned (.plain (OpenSpec.upto float11OddSpec)) float11OddUptoCard
end Rows
end Go.Proofs.YtiainpdfidgcfaaDoor
