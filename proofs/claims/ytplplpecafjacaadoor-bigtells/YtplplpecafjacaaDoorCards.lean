/-
  DERIVED. GIVEN WITH THE SEED: THE CARDS: each row of YtplplpecafjacaaDoorRows.lean that lists a variable, with what it lists TIED to the program's text (the seventh form; the later family's looks); each row that meets fmt, with fmt's text TOLD by the authors' own Lean function (tested against real Go, not proved from fmt's source: count such statements apart). THE CARD IS WHAT COUNTS. Prove the row's statement (the work); the ties are given (YtplplpecafjacaaDoorTie.lean); close each card by the builder's one call (the guide's Derived/Test/ToyasCard.lean, 'card_holds'). Laid BY PROGRAM, IN A SANDBOX (cutbox-door.mjs). By AI agents, Wed Nov 11 2026. No macro, syntax, notation, axiom, sorry.
-/
import Derived.Test.YtplplpecafjacaaDoorRows
import GoSem.ClaimSeven
namespace Go.Proofs.YtplplpecafjacaaDoor
namespace Rows

/-- THE TIED CARD OF 'targumlaw4.BigTells'. -/
def bigTellsCard : Claim7 := { stood := { row := bigTellsRow, standIns := [], harness := (true, "013be04ee5a935fc3182ce27f55a8e4b2d8b215fbf4b56ddcc057597baac097f"), looks := false }, kinds := [], alts := [], laidByText := true, laidKinds := [.data, .data, .data, .data, .pinned], laidTests := true, laidLooks := .later }
def BigTellsCardSaid : Prop := Claim7.holds Tryd.pinned (.plain (OpenSpec.ofChange bigTellsSpec)) bigTellsCard

/-- THE TIED CARD OF 'targumlaw4.BigDigits'. -/
def bigDigitsCard : Claim7 := { stood := { row := bigDigitsRow, standIns := [], harness := (true, "013be04ee5a935fc3182ce27f55a8e4b2d8b215fbf4b56ddcc057597baac097f"), looks := false }, kinds := [], alts := [], laidByText := true, laidKinds := [.data, .data, .data, .data, .pinned], laidTests := true, laidLooks := .later }
def BigDigitsCardSaid : Prop := Claim7.holds Tryd.pinned (.plain (OpenSpec.ofChange bigDigitsSpec)) bigDigitsCard

/-- THE TIED CARD OF 'targumlaw4.BigSums'. -/
def bigSumsCard : Claim7 := { stood := { row := bigSumsRow, standIns := [], harness := (true, "013be04ee5a935fc3182ce27f55a8e4b2d8b215fbf4b56ddcc057597baac097f"), looks := false }, kinds := [], alts := [], laidByText := true, laidKinds := [.data, .data, .data, .data, .pinned], laidTests := true, laidLooks := .later }
def BigSumsCardSaid : Prop := Claim7.holds Tryd.pinned (.plain (OpenSpec.ofChange bigSumsSpec)) bigSumsCard

/-- THE TIED CARD OF 'targumlaw4.BigBases'. -/
def bigBasesCard : Claim7 := { stood := { row := bigBasesRow, standIns := [], harness := (true, "013be04ee5a935fc3182ce27f55a8e4b2d8b215fbf4b56ddcc057597baac097f"), looks := false }, kinds := [], alts := [], laidByText := true, laidKinds := [.data, .data, .data, .data, .pinned], laidTests := true, laidLooks := .later }
def BigBasesCardSaid : Prop := Claim7.holds Tryd.pinned (.plain (OpenSpec.ofChange bigBasesSpec)) bigBasesCard

/-- THE TIED CARD OF 'targumlaw4.BigTimes'. -/
def bigTimesCard : Claim7 := { stood := { row := bigTimesRow, standIns := [], harness := (true, "013be04ee5a935fc3182ce27f55a8e4b2d8b215fbf4b56ddcc057597baac097f"), looks := false }, kinds := [], alts := [], laidByText := true, laidKinds := [.data, .data, .data, .data, .pinned], laidTests := true, laidLooks := .later }
def BigTimesCardSaid : Prop := Claim7.holds Tryd.pinned (.plain (OpenSpec.ofChange bigTimesSpec)) bigTimesCard

/-- THE TIED CARD OF 'targumlaw4.BigOrder'. -/
def bigOrderCard : Claim7 := { stood := { row := bigOrderRow, standIns := [], harness := (true, "013be04ee5a935fc3182ce27f55a8e4b2d8b215fbf4b56ddcc057597baac097f"), looks := false }, kinds := [], alts := [], laidByText := true, laidKinds := [.data, .data, .data, .data, .pinned], laidTests := true, laidLooks := .later }
def BigOrderCardSaid : Prop := Claim7.holds Tryd.pinned (.plain (OpenSpec.ofChange bigOrderSpec)) bigOrderCard

/-- THE SECOND FORM's CARD OF 'targumlaw4.BigTells'. -/
def bigTellsUptoCard : Claim7 := { stood := { row := bigTellsUptoRow, standIns := [], harness := (true, "013be04ee5a935fc3182ce27f55a8e4b2d8b215fbf4b56ddcc057597baac097f"), looks := false }, kinds := [], alts := [], laidByText := true, laidKinds := [.data, .data, .data, .data, .pinned], laidTests := true, laidLooks := .later }
def BigTellsUptoCardSaid : Prop := Claim7.holds Tryd.pinned (.plain (OpenSpec.upto bigTellsSpec)) bigTellsUptoCard

/-- THE SECOND FORM's CARD OF 'targumlaw4.BigDigits'. -/
def bigDigitsUptoCard : Claim7 := { stood := { row := bigDigitsUptoRow, standIns := [], harness := (true, "013be04ee5a935fc3182ce27f55a8e4b2d8b215fbf4b56ddcc057597baac097f"), looks := false }, kinds := [], alts := [], laidByText := true, laidKinds := [.data, .data, .data, .data, .pinned], laidTests := true, laidLooks := .later }
def BigDigitsUptoCardSaid : Prop := Claim7.holds Tryd.pinned (.plain (OpenSpec.upto bigDigitsSpec)) bigDigitsUptoCard

/-- THE SECOND FORM's CARD OF 'targumlaw4.BigSums'. -/
def bigSumsUptoCard : Claim7 := { stood := { row := bigSumsUptoRow, standIns := [], harness := (true, "013be04ee5a935fc3182ce27f55a8e4b2d8b215fbf4b56ddcc057597baac097f"), looks := false }, kinds := [], alts := [], laidByText := true, laidKinds := [.data, .data, .data, .data, .pinned], laidTests := true, laidLooks := .later }
def BigSumsUptoCardSaid : Prop := Claim7.holds Tryd.pinned (.plain (OpenSpec.upto bigSumsSpec)) bigSumsUptoCard

/-- THE SECOND FORM's CARD OF 'targumlaw4.BigBases'. -/
def bigBasesUptoCard : Claim7 := { stood := { row := bigBasesUptoRow, standIns := [], harness := (true, "013be04ee5a935fc3182ce27f55a8e4b2d8b215fbf4b56ddcc057597baac097f"), looks := false }, kinds := [], alts := [], laidByText := true, laidKinds := [.data, .data, .data, .data, .pinned], laidTests := true, laidLooks := .later }
def BigBasesUptoCardSaid : Prop := Claim7.holds Tryd.pinned (.plain (OpenSpec.upto bigBasesSpec)) bigBasesUptoCard

/-- THE SECOND FORM's CARD OF 'targumlaw4.BigTimes'. -/
def bigTimesUptoCard : Claim7 := { stood := { row := bigTimesUptoRow, standIns := [], harness := (true, "013be04ee5a935fc3182ce27f55a8e4b2d8b215fbf4b56ddcc057597baac097f"), looks := false }, kinds := [], alts := [], laidByText := true, laidKinds := [.data, .data, .data, .data, .pinned], laidTests := true, laidLooks := .later }
def BigTimesUptoCardSaid : Prop := Claim7.holds Tryd.pinned (.plain (OpenSpec.upto bigTimesSpec)) bigTimesUptoCard

/-- THE SECOND FORM's CARD OF 'targumlaw4.BigOrder'. -/
def bigOrderUptoCard : Claim7 := { stood := { row := bigOrderUptoRow, standIns := [], harness := (true, "013be04ee5a935fc3182ce27f55a8e4b2d8b215fbf4b56ddcc057597baac097f"), looks := false }, kinds := [], alts := [], laidByText := true, laidKinds := [.data, .data, .data, .data, .pinned], laidTests := true, laidLooks := .later }
def BigOrderUptoCardSaid : Prop := Claim7.holds Tryd.pinned (.plain (OpenSpec.upto bigOrderSpec)) bigOrderUptoCard
end Rows
end Go.Proofs.YtplplpecafjacaaDoor
