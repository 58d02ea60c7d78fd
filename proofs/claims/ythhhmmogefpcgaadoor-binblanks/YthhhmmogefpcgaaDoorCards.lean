/-
  DERIVED. GIVEN WITH THE SEED: THE CARDS: each row of YthhhmmogefpcgaaDoorRows.lean that lists a variable, with what it lists TIED to the program's text (the seventh form; the later family's looks); each row that meets fmt, with fmt's text TOLD by the authors' own Lean function (tested against real Go, not proved from fmt's source: count such statements apart). THE CARD IS WHAT COUNTS. Prove the row's statement (the work); the ties are given (YthhhmmogefpcgaaDoorTie.lean); close each card by the builder's one call (the guide's Derived/Test/ToyasCard.lean, 'card_holds'). Laid BY PROGRAM, IN A SANDBOX (cutbox-door.mjs). By AI agents, Wed Nov 11 2026. No macro, syntax, notation, axiom, sorry.
-/
import Derived.Test.YthhhmmogefpcgaaDoorRows
import GoSem.ClaimSeven
namespace Go.Proofs.YthhhmmogefpcgaaDoor
namespace Rows

/-- THE TIED CARD OF 'targumlaw11.BinBack'. -/
def binBackCard : Claim7 := { stood := { row := binBackRow, standIns := [], harness := (true, "3daffd271260d02f26870de23b8fe6dbc35a0622714f17a3a04a5776aa24472d"), looks := false }, kinds := [], alts := [], laidByText := true, laidKinds := [.data], laidTests := true, laidLooks := .later }
def BinBackCardSaid : Prop := Claim7.holds Tryd.pinned (.plain (OpenSpec.ofChange binBackSpec)) binBackCard

/-- THE TIED CARD OF 'targumlaw11.BinThrees'. -/
def binThreesCard : Claim7 := { stood := { row := binThreesRow, standIns := [], harness := (true, "3daffd271260d02f26870de23b8fe6dbc35a0622714f17a3a04a5776aa24472d"), looks := false }, kinds := [], alts := [], laidByText := true, laidKinds := [.data], laidTests := true, laidLooks := .later }
def BinThreesCardSaid : Prop := Claim7.holds Tryd.pinned (.plain (OpenSpec.ofChange binThreesSpec)) binThreesCard

/-- THE TIED CARD OF 'targumlaw11.BinBlanks'. -/
def binBlanksCard : Claim7 := { stood := { row := binBlanksRow, standIns := [], harness := (true, "3daffd271260d02f26870de23b8fe6dbc35a0622714f17a3a04a5776aa24472d"), looks := false }, kinds := [], alts := [], laidByText := true, laidKinds := [.data], laidTests := true, laidLooks := .later }
def BinBlanksCardSaid : Prop := Claim7.holds Tryd.pinned (.plain (OpenSpec.ofChange binBlanksSpec)) binBlanksCard

/-- THE TIED CARD OF 'targumlaw11.BinApart'. -/
def binApartCard : Claim7 := { stood := { row := binApartRow, standIns := [], harness := (true, "3daffd271260d02f26870de23b8fe6dbc35a0622714f17a3a04a5776aa24472d"), looks := false }, kinds := [], alts := [], laidByText := true, laidKinds := [.data], laidTests := true, laidLooks := .later }
def BinApartCardSaid : Prop := Claim7.holds Tryd.pinned (.plain (OpenSpec.ofChange binApartSpec)) binApartCard

/-- THE SECOND FORM's CARD OF 'targumlaw11.BinBack'. -/
def binBackUptoCard : Claim7 := { stood := { row := binBackUptoRow, standIns := [], harness := (true, "3daffd271260d02f26870de23b8fe6dbc35a0622714f17a3a04a5776aa24472d"), looks := false }, kinds := [], alts := [], laidByText := true, laidKinds := [.data], laidTests := true, laidLooks := .later }
def BinBackUptoCardSaid : Prop := Claim7.holds Tryd.pinned (.plain (OpenSpec.upto binBackSpec)) binBackUptoCard

/-- THE SECOND FORM's CARD OF 'targumlaw11.BinThrees'. -/
def binThreesUptoCard : Claim7 := { stood := { row := binThreesUptoRow, standIns := [], harness := (true, "3daffd271260d02f26870de23b8fe6dbc35a0622714f17a3a04a5776aa24472d"), looks := false }, kinds := [], alts := [], laidByText := true, laidKinds := [.data], laidTests := true, laidLooks := .later }
def BinThreesUptoCardSaid : Prop := Claim7.holds Tryd.pinned (.plain (OpenSpec.upto binThreesSpec)) binThreesUptoCard

/-- THE SECOND FORM's CARD OF 'targumlaw11.BinBlanks'. -/
def binBlanksUptoCard : Claim7 := { stood := { row := binBlanksUptoRow, standIns := [], harness := (true, "3daffd271260d02f26870de23b8fe6dbc35a0622714f17a3a04a5776aa24472d"), looks := false }, kinds := [], alts := [], laidByText := true, laidKinds := [.data], laidTests := true, laidLooks := .later }
def BinBlanksUptoCardSaid : Prop := Claim7.holds Tryd.pinned (.plain (OpenSpec.upto binBlanksSpec)) binBlanksUptoCard

/-- THE SECOND FORM's CARD OF 'targumlaw11.BinApart'. -/
def binApartUptoCard : Claim7 := { stood := { row := binApartUptoRow, standIns := [], harness := (true, "3daffd271260d02f26870de23b8fe6dbc35a0622714f17a3a04a5776aa24472d"), looks := false }, kinds := [], alts := [], laidByText := true, laidKinds := [.data], laidTests := true, laidLooks := .later }
def BinApartUptoCardSaid : Prop := Claim7.holds Tryd.pinned (.plain (OpenSpec.upto binApartSpec)) binApartUptoCard
end Rows
end Go.Proofs.YthhhmmogefpcgaaDoor
