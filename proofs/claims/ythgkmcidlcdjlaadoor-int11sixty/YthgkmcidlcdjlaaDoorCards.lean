/-
  DERIVED. GIVEN WITH THE SEED: THE CARDS: each row of YthgkmcidlcdjlaaDoorRows.lean that lists a variable, with what it lists TIED to the program's text (the seventh form; the later family's looks); each row that meets fmt, with fmt's text TOLD by the authors' own Lean function (tested against real Go, not proved from fmt's source: count such statements apart). THE CARD IS WHAT COUNTS. Prove the row's statement (the work); the ties are given (YthgkmcidlcdjlaaDoorTie.lean); close each card by the builder's one call (the guide's Derived/Test/ToyasCard.lean, 'card_holds'). Laid BY PROGRAM, IN A SANDBOX (cutbox-door.mjs). By AI agents, Wed Nov 11 2026. No macro, syntax, notation, axiom, sorry.
-/
import Derived.Test.YthgkmcidlcdjlaaDoorRows
import GoSem.ClaimSeven
namespace Go.Proofs.YthgkmcidlcdjlaaDoor
namespace Rows

/-- THE TIED CARD OF 'targumlaw6.Int11Tells'. -/
def int11TellsCard : Claim7 := { stood := { row := int11TellsRow, standIns := [], harness := (true, "6c262e43a2bdd89986477feec308d00fffcc4efb96077747ba2b8084ab2e7e07"), looks := false }, kinds := [], alts := [], laidByText := true, laidKinds := [.data, .pinned], laidTests := true, laidLooks := .later }
def Int11TellsCardSaid : Prop := Claim7.holds Tryd.pinned (.plain (OpenSpec.ofChange int11TellsSpec)) int11TellsCard

/-- THE TIED CARD OF 'targumlaw6.Int11Bases'. -/
def int11BasesCard : Claim7 := { stood := { row := int11BasesRow, standIns := [], harness := (true, "6c262e43a2bdd89986477feec308d00fffcc4efb96077747ba2b8084ab2e7e07"), looks := false }, kinds := [], alts := [], laidByText := true, laidKinds := [.data, .pinned], laidTests := true, laidLooks := .later }
def Int11BasesCardSaid : Prop := Claim7.holds Tryd.pinned (.plain (OpenSpec.ofChange int11BasesSpec)) int11BasesCard

/-- THE TIED CARD OF 'targumlaw6.Int11Sixty'. -/
def int11SixtyCard : Claim7 := { stood := { row := int11SixtyRow, standIns := [], harness := (true, "6c262e43a2bdd89986477feec308d00fffcc4efb96077747ba2b8084ab2e7e07"), looks := false }, kinds := [], alts := [], laidByText := true, laidKinds := [.data, .pinned], laidTests := true, laidLooks := .later }
def Int11SixtyCardSaid : Prop := Claim7.holds Tryd.pinned (.plain (OpenSpec.ofChange int11SixtySpec)) int11SixtyCard

/-- THE TIED CARD OF 'targumlaw6.Int11Gaps'. -/
def int11GapsCard : Claim7 := { stood := { row := int11GapsRow, standIns := [], harness := (true, "6c262e43a2bdd89986477feec308d00fffcc4efb96077747ba2b8084ab2e7e07"), looks := false }, kinds := [], alts := [], laidByText := true, laidKinds := [.data, .pinned], laidTests := true, laidLooks := .later }
def Int11GapsCardSaid : Prop := Claim7.holds Tryd.pinned (.plain (OpenSpec.ofChange int11GapsSpec)) int11GapsCard

/-- THE TIED CARD OF 'targumlaw6.Int11Apart'. -/
def int11ApartCard : Claim7 := { stood := { row := int11ApartRow, standIns := [], harness := (true, "6c262e43a2bdd89986477feec308d00fffcc4efb96077747ba2b8084ab2e7e07"), looks := false }, kinds := [], alts := [], laidByText := true, laidKinds := [.data, .pinned], laidTests := true, laidLooks := .later }
def Int11ApartCardSaid : Prop := Claim7.holds Tryd.pinned (.plain (OpenSpec.ofChange int11ApartSpec)) int11ApartCard

/-- THE SECOND FORM's CARD OF 'targumlaw6.Int11Tells'. -/
def int11TellsUptoCard : Claim7 := { stood := { row := int11TellsUptoRow, standIns := [], harness := (true, "6c262e43a2bdd89986477feec308d00fffcc4efb96077747ba2b8084ab2e7e07"), looks := false }, kinds := [], alts := [], laidByText := true, laidKinds := [.data, .pinned], laidTests := true, laidLooks := .later }
def Int11TellsUptoCardSaid : Prop := Claim7.holds Tryd.pinned (.plain (OpenSpec.upto int11TellsSpec)) int11TellsUptoCard

/-- THE SECOND FORM's CARD OF 'targumlaw6.Int11Bases'. -/
def int11BasesUptoCard : Claim7 := { stood := { row := int11BasesUptoRow, standIns := [], harness := (true, "6c262e43a2bdd89986477feec308d00fffcc4efb96077747ba2b8084ab2e7e07"), looks := false }, kinds := [], alts := [], laidByText := true, laidKinds := [.data, .pinned], laidTests := true, laidLooks := .later }
def Int11BasesUptoCardSaid : Prop := Claim7.holds Tryd.pinned (.plain (OpenSpec.upto int11BasesSpec)) int11BasesUptoCard

/-- THE SECOND FORM's CARD OF 'targumlaw6.Int11Sixty'. -/
def int11SixtyUptoCard : Claim7 := { stood := { row := int11SixtyUptoRow, standIns := [], harness := (true, "6c262e43a2bdd89986477feec308d00fffcc4efb96077747ba2b8084ab2e7e07"), looks := false }, kinds := [], alts := [], laidByText := true, laidKinds := [.data, .pinned], laidTests := true, laidLooks := .later }
def Int11SixtyUptoCardSaid : Prop := Claim7.holds Tryd.pinned (.plain (OpenSpec.upto int11SixtySpec)) int11SixtyUptoCard

/-- THE SECOND FORM's CARD OF 'targumlaw6.Int11Gaps'. -/
def int11GapsUptoCard : Claim7 := { stood := { row := int11GapsUptoRow, standIns := [], harness := (true, "6c262e43a2bdd89986477feec308d00fffcc4efb96077747ba2b8084ab2e7e07"), looks := false }, kinds := [], alts := [], laidByText := true, laidKinds := [.data, .pinned], laidTests := true, laidLooks := .later }
def Int11GapsUptoCardSaid : Prop := Claim7.holds Tryd.pinned (.plain (OpenSpec.upto int11GapsSpec)) int11GapsUptoCard

/-- THE SECOND FORM's CARD OF 'targumlaw6.Int11Apart'. -/
def int11ApartUptoCard : Claim7 := { stood := { row := int11ApartUptoRow, standIns := [], harness := (true, "6c262e43a2bdd89986477feec308d00fffcc4efb96077747ba2b8084ab2e7e07"), looks := false }, kinds := [], alts := [], laidByText := true, laidKinds := [.data, .pinned], laidTests := true, laidLooks := .later }
def Int11ApartUptoCardSaid : Prop := Claim7.holds Tryd.pinned (.plain (OpenSpec.upto int11ApartSpec)) int11ApartUptoCard
end Rows
end Go.Proofs.YthgkmcidlcdjlaaDoor
