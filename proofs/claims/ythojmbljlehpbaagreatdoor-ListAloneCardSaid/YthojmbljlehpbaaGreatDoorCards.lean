/-
  DERIVED. GIVEN WITH THE SEED: THE CARDS: each row of YthojmbljlehpbaaGreatDoorRows.lean that lists a variable, with what it lists TIED to the program's text (the seventh form; the later family's looks); each row that meets fmt, with fmt's text TOLD by the authors' own Lean function (tested against real Go, not proved from fmt's source: count such statements apart). THE CARD IS WHAT COUNTS. Prove the row's statement (the work); the ties are given (YthojmbljlehpbaaGreatDoorTie.lean); close each card by the builder's one call (the guide's Derived/Test/ToyasCard.lean, 'card_holds'). Laid BY PROGRAM, IN A SANDBOX (cutbox-door.mjs). By AI agents, Wed Nov 11 2026. No macro, syntax, notation, axiom, sorry.
-/
import Derived.Test.YthojmbljlehpbaaGreatDoorRows
import GoSem.ClaimSeven
namespace Go.Proofs.YthojmbljlehpbaaGreatDoor
namespace Rows

/-- THE TIED CARD OF 'switchbacklaw22.ListPrints'. -/
def listPrintsCard : Claim7 := { stood := { row := listPrintsRow, standIns := [], harness := (true, "4af421e0084dd859bb33dd8b9c6fe81606f65bd833b4304c31932d8523dcc27b"), looks := true }, kinds := [], alts := [], laidByText := true, laidKinds := [.data, .data, .data, .data, .sentinel, .sentinel, .data], laidTests := true, laidLooks := .later }
def ListPrintsCardSaid : Prop := Claim7.holds Tryz.pinned (.plain (OpenSpec.ofChange listPrintsSpec)) listPrintsCard

/-- THE TIED CARD OF 'switchbacklaw22.ListParses'. -/
def listParsesCard : Claim7 := { stood := { row := listParsesRow, standIns := [], harness := (true, "4af421e0084dd859bb33dd8b9c6fe81606f65bd833b4304c31932d8523dcc27b"), looks := true }, kinds := [], alts := [], laidByText := true, laidKinds := [.data, .data, .data, .data, .sentinel, .sentinel, .data], laidTests := true, laidLooks := .later }
def ListParsesCardSaid : Prop := Claim7.holds Tryz.pinned (.plain (OpenSpec.ofChange listParsesSpec)) listParsesCard

/-- THE TIED CARD OF 'switchbacklaw22.ListShows'. -/
def listShowsCard : Claim7 := { stood := { row := listShowsRow, standIns := [], harness := (true, "4af421e0084dd859bb33dd8b9c6fe81606f65bd833b4304c31932d8523dcc27b"), looks := true }, kinds := [], alts := [], laidByText := true, laidKinds := [.data, .data, .data, .data, .sentinel, .sentinel, .data], laidTests := true, laidLooks := .later }
def ListShowsCardSaid : Prop := Claim7.holds Tryz.pinned (.plain (OpenSpec.ofChange listShowsSpec)) listShowsCard

/-- THE TIED CARD OF 'switchbacklaw22.ListBack'. -/
def listBackCard : Claim7 := { stood := { row := listBackRow, standIns := [], harness := (true, "4af421e0084dd859bb33dd8b9c6fe81606f65bd833b4304c31932d8523dcc27b"), looks := true }, kinds := [], alts := [], laidByText := true, laidKinds := [.data, .data, .data, .data, .sentinel, .sentinel, .data], laidTests := true, laidLooks := .later }
def ListBackCardSaid : Prop := Claim7.holds Tryz.pinned (.plain (OpenSpec.ofChange listBackSpec)) listBackCard

/-- THE TIED CARD OF 'switchbacklaw22.ListAgain'. -/
def listAgainCard : Claim7 := { stood := { row := listAgainRow, standIns := [], harness := (true, "4af421e0084dd859bb33dd8b9c6fe81606f65bd833b4304c31932d8523dcc27b"), looks := true }, kinds := [], alts := [], laidByText := true, laidKinds := [.data, .data, .data, .data, .sentinel, .sentinel, .data], laidTests := true, laidLooks := .later }
def ListAgainCardSaid : Prop := Claim7.holds Tryz.pinned (.plain (OpenSpec.ofChange listAgainSpec)) listAgainCard

/-- THE TIED CARD OF 'switchbacklaw22.ListBlanks'. -/
def listBlanksCard : Claim7 := { stood := { row := listBlanksRow, standIns := [], harness := (true, "4af421e0084dd859bb33dd8b9c6fe81606f65bd833b4304c31932d8523dcc27b"), looks := true }, kinds := [], alts := [], laidByText := true, laidKinds := [.data, .data, .data, .data, .sentinel, .sentinel, .data], laidTests := true, laidLooks := .later }
def ListBlanksCardSaid : Prop := Claim7.holds Tryz.pinned (.plain (OpenSpec.ofChange listBlanksSpec)) listBlanksCard

/-- THE TIED CARD OF 'switchbacklaw22.ListLines'. -/
def listLinesCard : Claim7 := { stood := { row := listLinesRow, standIns := [], harness := (true, "4af421e0084dd859bb33dd8b9c6fe81606f65bd833b4304c31932d8523dcc27b"), looks := true }, kinds := [], alts := [], laidByText := true, laidKinds := [.data, .data, .data, .data, .sentinel, .sentinel, .data], laidTests := true, laidLooks := .later }
def ListLinesCardSaid : Prop := Claim7.holds Tryz.pinned (.plain (OpenSpec.ofChange listLinesSpec)) listLinesCard

/-- THE TIED CARD OF 'switchbacklaw22.ListAlone'. -/
def listAloneCard : Claim7 := { stood := { row := listAloneRow, standIns := [], harness := (true, "4af421e0084dd859bb33dd8b9c6fe81606f65bd833b4304c31932d8523dcc27b"), looks := true }, kinds := [], alts := [], laidByText := true, laidKinds := [.data, .data, .data, .data, .sentinel, .sentinel, .data], laidTests := true, laidLooks := .later }
def ListAloneCardSaid : Prop := Claim7.holds Tryz.pinned (.plain (OpenSpec.ofChange listAloneSpec)) listAloneCard

/-- THE TIED CARD OF 'switchbacklaw22.ListWords'. -/
def listWordsCard : Claim7 := { stood := { row := listWordsRow, standIns := [], harness := (true, "4af421e0084dd859bb33dd8b9c6fe81606f65bd833b4304c31932d8523dcc27b"), looks := true }, kinds := [], alts := [], laidByText := true, laidKinds := [.data, .data, .data, .data, .sentinel, .sentinel, .data], laidTests := true, laidLooks := .later }
def ListWordsCardSaid : Prop := Claim7.holds Tryz.pinned (.plain (OpenSpec.ofChange listWordsSpec)) listWordsCard

/-- THE SECOND FORM's CARD OF 'switchbacklaw22.ListPrints'. -/
def listPrintsUptoCard : Claim7 := { stood := { row := listPrintsUptoRow, standIns := [], harness := (true, "4af421e0084dd859bb33dd8b9c6fe81606f65bd833b4304c31932d8523dcc27b"), looks := true }, kinds := [], alts := [], laidByText := true, laidKinds := [.data, .data, .data, .data, .sentinel, .sentinel, .data], laidTests := true, laidLooks := .later }
def ListPrintsUptoCardSaid : Prop := Claim7.holds Tryz.pinned (.plain (OpenSpec.upto listPrintsSpec)) listPrintsUptoCard

/-- THE SECOND FORM's CARD OF 'switchbacklaw22.ListParses'. -/
def listParsesUptoCard : Claim7 := { stood := { row := listParsesUptoRow, standIns := [], harness := (true, "4af421e0084dd859bb33dd8b9c6fe81606f65bd833b4304c31932d8523dcc27b"), looks := true }, kinds := [], alts := [], laidByText := true, laidKinds := [.data, .data, .data, .data, .sentinel, .sentinel, .data], laidTests := true, laidLooks := .later }
def ListParsesUptoCardSaid : Prop := Claim7.holds Tryz.pinned (.plain (OpenSpec.upto listParsesSpec)) listParsesUptoCard

/-- THE SECOND FORM's CARD OF 'switchbacklaw22.ListShows'. -/
def listShowsUptoCard : Claim7 := { stood := { row := listShowsUptoRow, standIns := [], harness := (true, "4af421e0084dd859bb33dd8b9c6fe81606f65bd833b4304c31932d8523dcc27b"), looks := true }, kinds := [], alts := [], laidByText := true, laidKinds := [.data, .data, .data, .data, .sentinel, .sentinel, .data], laidTests := true, laidLooks := .later }
def ListShowsUptoCardSaid : Prop := Claim7.holds Tryz.pinned (.plain (OpenSpec.upto listShowsSpec)) listShowsUptoCard

/-- THE SECOND FORM's CARD OF 'switchbacklaw22.ListBack'. -/
def listBackUptoCard : Claim7 := { stood := { row := listBackUptoRow, standIns := [], harness := (true, "4af421e0084dd859bb33dd8b9c6fe81606f65bd833b4304c31932d8523dcc27b"), looks := true }, kinds := [], alts := [], laidByText := true, laidKinds := [.data, .data, .data, .data, .sentinel, .sentinel, .data], laidTests := true, laidLooks := .later }
def ListBackUptoCardSaid : Prop := Claim7.holds Tryz.pinned (.plain (OpenSpec.upto listBackSpec)) listBackUptoCard

/-- THE SECOND FORM's CARD OF 'switchbacklaw22.ListAgain'. -/
def listAgainUptoCard : Claim7 := { stood := { row := listAgainUptoRow, standIns := [], harness := (true, "4af421e0084dd859bb33dd8b9c6fe81606f65bd833b4304c31932d8523dcc27b"), looks := true }, kinds := [], alts := [], laidByText := true, laidKinds := [.data, .data, .data, .data, .sentinel, .sentinel, .data], laidTests := true, laidLooks := .later }
def ListAgainUptoCardSaid : Prop := Claim7.holds Tryz.pinned (.plain (OpenSpec.upto listAgainSpec)) listAgainUptoCard

/-- THE SECOND FORM's CARD OF 'switchbacklaw22.ListBlanks'. -/
def listBlanksUptoCard : Claim7 := { stood := { row := listBlanksUptoRow, standIns := [], harness := (true, "4af421e0084dd859bb33dd8b9c6fe81606f65bd833b4304c31932d8523dcc27b"), looks := true }, kinds := [], alts := [], laidByText := true, laidKinds := [.data, .data, .data, .data, .sentinel, .sentinel, .data], laidTests := true, laidLooks := .later }
def ListBlanksUptoCardSaid : Prop := Claim7.holds Tryz.pinned (.plain (OpenSpec.upto listBlanksSpec)) listBlanksUptoCard

/-- THE SECOND FORM's CARD OF 'switchbacklaw22.ListLines'. -/
def listLinesUptoCard : Claim7 := { stood := { row := listLinesUptoRow, standIns := [], harness := (true, "4af421e0084dd859bb33dd8b9c6fe81606f65bd833b4304c31932d8523dcc27b"), looks := true }, kinds := [], alts := [], laidByText := true, laidKinds := [.data, .data, .data, .data, .sentinel, .sentinel, .data], laidTests := true, laidLooks := .later }
def ListLinesUptoCardSaid : Prop := Claim7.holds Tryz.pinned (.plain (OpenSpec.upto listLinesSpec)) listLinesUptoCard

/-- THE SECOND FORM's CARD OF 'switchbacklaw22.ListAlone'. -/
def listAloneUptoCard : Claim7 := { stood := { row := listAloneUptoRow, standIns := [], harness := (true, "4af421e0084dd859bb33dd8b9c6fe81606f65bd833b4304c31932d8523dcc27b"), looks := true }, kinds := [], alts := [], laidByText := true, laidKinds := [.data, .data, .data, .data, .sentinel, .sentinel, .data], laidTests := true, laidLooks := .later }
def ListAloneUptoCardSaid : Prop := Claim7.holds Tryz.pinned (.plain (OpenSpec.upto listAloneSpec)) listAloneUptoCard

/-- THE SECOND FORM's CARD OF 'switchbacklaw22.ListWords'. -/
def listWordsUptoCard : Claim7 := { stood := { row := listWordsUptoRow, standIns := [], harness := (true, "4af421e0084dd859bb33dd8b9c6fe81606f65bd833b4304c31932d8523dcc27b"), looks := true }, kinds := [], alts := [], laidByText := true, laidKinds := [.data, .data, .data, .data, .sentinel, .sentinel, .data], laidTests := true, laidLooks := .later }
def ListWordsUptoCardSaid : Prop := Claim7.holds Tryz.pinned (.plain (OpenSpec.upto listWordsSpec)) listWordsUptoCard
end Rows
end Go.Proofs.YthojmbljlehpbaaGreatDoor
