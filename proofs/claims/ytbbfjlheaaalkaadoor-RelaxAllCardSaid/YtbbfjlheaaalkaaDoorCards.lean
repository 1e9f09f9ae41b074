/-
  DERIVED. GIVEN WITH THE SEED: THE CARDS: each row of YtbbfjlheaaalkaaDoorRows.lean that lists a variable, with what it lists TIED to the program's text (the seventh form; the later family's looks); each row that meets fmt, with fmt's text TOLD by the authors' own Lean function (tested against real Go, not proved from fmt's source: count such statements apart). THE CARD IS WHAT COUNTS. Prove the row's statement (the work); the ties are given (YtbbfjlheaaalkaaDoorTie.lean); close each card by the builder's one call (the guide's Derived/Test/ToyasCard.lean, 'card_holds'). Laid BY PROGRAM, IN A SANDBOX (cutbox-door.mjs). By AI agents, Wed Nov 11 2026. No macro, syntax, notation, axiom, sorry.
-/
import Derived.Test.YtbbfjlheaaalkaaDoorRows
import GoSem.ClaimSeven
namespace Go.Proofs.YtbbfjlheaaalkaaDoor
namespace Rows

/-- THE TIED CARD OF 'switchbacklaw17.RelaxAnswers'. -/
def relaxAnswersCard : Claim7 := { stood := { row := relaxAnswersRow, standIns := [], harness := (true, "65997d3555bbd35771936ccea5e0e65e7653f7847f3081d9b063ec85d45a0da7"), looks := false }, kinds := [], alts := [], laidByText := true, laidKinds := [.data], laidTests := true, laidLooks := .later }
def RelaxAnswersCardSaid : Prop := Claim7.holds Tryd.pinned (.plain (OpenSpec.ofChange relaxAnswersSpec)) relaxAnswersCard

/-- THE TIED CARD OF 'switchbacklaw17.RelaxAll'. -/
def relaxAllCard : Claim7 := { stood := { row := relaxAllRow, standIns := [], harness := (true, "65997d3555bbd35771936ccea5e0e65e7653f7847f3081d9b063ec85d45a0da7"), looks := false }, kinds := [], alts := [], laidByText := true, laidKinds := [.data], laidTests := true, laidLooks := .later }
def RelaxAllCardSaid : Prop := Claim7.holds Tryd.pinned (.plain (OpenSpec.ofChange relaxAllSpec)) relaxAllCard

/-- THE TIED CARD OF 'switchbacklaw17.RelaxLabels'. -/
def relaxLabelsCard : Claim7 := { stood := { row := relaxLabelsRow, standIns := [], harness := (true, "65997d3555bbd35771936ccea5e0e65e7653f7847f3081d9b063ec85d45a0da7"), looks := false }, kinds := [], alts := [], laidByText := true, laidKinds := [.data], laidTests := true, laidLooks := .later }
def RelaxLabelsCardSaid : Prop := Claim7.holds Tryd.pinned (.plain (OpenSpec.ofChange relaxLabelsSpec)) relaxLabelsCard

/-- THE SECOND FORM's CARD OF 'switchbacklaw17.RelaxAnswers'. -/
def relaxAnswersUptoCard : Claim7 := { stood := { row := relaxAnswersUptoRow, standIns := [], harness := (true, "65997d3555bbd35771936ccea5e0e65e7653f7847f3081d9b063ec85d45a0da7"), looks := false }, kinds := [], alts := [], laidByText := true, laidKinds := [.data], laidTests := true, laidLooks := .later }
def RelaxAnswersUptoCardSaid : Prop := Claim7.holds Tryd.pinned (.plain (OpenSpec.upto relaxAnswersSpec)) relaxAnswersUptoCard

/-- THE SECOND FORM's CARD OF 'switchbacklaw17.RelaxAll'. -/
def relaxAllUptoCard : Claim7 := { stood := { row := relaxAllUptoRow, standIns := [], harness := (true, "65997d3555bbd35771936ccea5e0e65e7653f7847f3081d9b063ec85d45a0da7"), looks := false }, kinds := [], alts := [], laidByText := true, laidKinds := [.data], laidTests := true, laidLooks := .later }
def RelaxAllUptoCardSaid : Prop := Claim7.holds Tryd.pinned (.plain (OpenSpec.upto relaxAllSpec)) relaxAllUptoCard

/-- THE SECOND FORM's CARD OF 'switchbacklaw17.RelaxLabels'. -/
def relaxLabelsUptoCard : Claim7 := { stood := { row := relaxLabelsUptoRow, standIns := [], harness := (true, "65997d3555bbd35771936ccea5e0e65e7653f7847f3081d9b063ec85d45a0da7"), looks := false }, kinds := [], alts := [], laidByText := true, laidKinds := [.data], laidTests := true, laidLooks := .later }
def RelaxLabelsUptoCardSaid : Prop := Claim7.holds Tryd.pinned (.plain (OpenSpec.upto relaxLabelsSpec)) relaxLabelsUptoCard
end Rows
end Go.Proofs.YtbbfjlheaaalkaaDoor
