/-
  DERIVED. GIVEN WITH THE SEED: THE CARDS: each row of YtipgipgehnhgkaaGreatDoorRows.lean that lists a variable, with what it lists TIED to the program's text (the seventh form; the later family's looks); each row that meets fmt, with fmt's text TOLD by the authors' own Lean function (tested against real Go, not proved from fmt's source: count such statements apart). THE CARD IS WHAT COUNTS. Prove the row's statement (the work); the ties are given (YtipgipgehnhgkaaGreatDoorTie.lean); close each card by the builder's one call (the guide's Derived/Test/ToyasCard.lean, 'card_holds'). Laid BY PROGRAM, IN A SANDBOX (cutbox-door.mjs). By AI agents, Wed Nov 11 2026. No macro, syntax, notation, axiom, sorry.
-/
import Derived.Test.YtipgipgehnhgkaaGreatDoorRows
import GoSem.ClaimSeven
namespace Go.Proofs.YtipgipgehnhgkaaGreatDoor
namespace Rows

/-- THE TIED CARD OF 'targumlaw13.ResolveTells'. -/
def resolveTellsCard : Claim7 := { stood := { row := resolveTellsRow, standIns := [], harness := (true, "c0f23bd83f634de8fb69da5f8ca8aea23a248654b774ed2b5bb4e096fab66936"), looks := false }, kinds := [], alts := [], laidByText := true, laidKinds := [.data, .data, .data, .data, .pinned], laidTests := true, laidLooks := .later }
def ResolveTellsCardSaid : Prop := Claim7.holds Tryz.pinned (.plain (OpenSpec.ofChange resolveTellsSpec)) resolveTellsCard

/-- THE TIED CARD OF 'targumlaw13.ResolveStays'. -/
def resolveStaysCard : Claim7 := { stood := { row := resolveStaysRow, standIns := [], harness := (true, "c0f23bd83f634de8fb69da5f8ca8aea23a248654b774ed2b5bb4e096fab66936"), looks := false }, kinds := [], alts := [], laidByText := true, laidKinds := [.data, .data, .data, .data, .pinned], laidTests := true, laidLooks := .later }
def ResolveStaysCardSaid : Prop := Claim7.holds Tryz.pinned (.plain (OpenSpec.ofChange resolveStaysSpec)) resolveStaysCard

/-- THE TIED CARD OF 'targumlaw13.ResolveTurns'. -/
def resolveTurnsCard : Claim7 := { stood := { row := resolveTurnsRow, standIns := [], harness := (true, "c0f23bd83f634de8fb69da5f8ca8aea23a248654b774ed2b5bb4e096fab66936"), looks := false }, kinds := [], alts := [], laidByText := true, laidKinds := [.data, .data, .data, .data, .pinned], laidTests := true, laidLooks := .later }
def ResolveTurnsCardSaid : Prop := Claim7.holds Tryz.pinned (.plain (OpenSpec.ofChange resolveTurnsSpec)) resolveTurnsCard

/-- THE SECOND FORM's CARD OF 'targumlaw13.ResolveTells'. -/
def resolveTellsUptoCard : Claim7 := { stood := { row := resolveTellsUptoRow, standIns := [], harness := (true, "c0f23bd83f634de8fb69da5f8ca8aea23a248654b774ed2b5bb4e096fab66936"), looks := false }, kinds := [], alts := [], laidByText := true, laidKinds := [.data, .data, .data, .data, .pinned], laidTests := true, laidLooks := .later }
def ResolveTellsUptoCardSaid : Prop := Claim7.holds Tryz.pinned (.plain (OpenSpec.upto resolveTellsSpec)) resolveTellsUptoCard

/-- THE SECOND FORM's CARD OF 'targumlaw13.ResolveStays'. -/
def resolveStaysUptoCard : Claim7 := { stood := { row := resolveStaysUptoRow, standIns := [], harness := (true, "c0f23bd83f634de8fb69da5f8ca8aea23a248654b774ed2b5bb4e096fab66936"), looks := false }, kinds := [], alts := [], laidByText := true, laidKinds := [.data, .data, .data, .data, .pinned], laidTests := true, laidLooks := .later }
def ResolveStaysUptoCardSaid : Prop := Claim7.holds Tryz.pinned (.plain (OpenSpec.upto resolveStaysSpec)) resolveStaysUptoCard

/-- THE SECOND FORM's CARD OF 'targumlaw13.ResolveTurns'. -/
def resolveTurnsUptoCard : Claim7 := { stood := { row := resolveTurnsUptoRow, standIns := [], harness := (true, "c0f23bd83f634de8fb69da5f8ca8aea23a248654b774ed2b5bb4e096fab66936"), looks := false }, kinds := [], alts := [], laidByText := true, laidKinds := [.data, .data, .data, .data, .pinned], laidTests := true, laidLooks := .later }
def ResolveTurnsUptoCardSaid : Prop := Claim7.holds Tryz.pinned (.plain (OpenSpec.upto resolveTurnsSpec)) resolveTurnsUptoCard
end Rows
end Go.Proofs.YtipgipgehnhgkaaGreatDoor
