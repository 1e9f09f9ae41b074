/-
  DERIVED. GIVEN WITH THE SEED: THE CARDS: each row of YtopceggmdieppaaDoorRows.lean that lists a variable, with what it lists TIED to the program's text (the seventh form; the later family's looks); each row that meets fmt, with fmt's text TOLD by the authors' own Lean function (tested against real Go, not proved from fmt's source: count such statements apart). THE CARD IS WHAT COUNTS. Prove the row's statement (the work); the ties are given (YtopceggmdieppaaDoorTie.lean); close each card by the builder's one call (the guide's Derived/Test/ToyasCard.lean, 'card_holds'). Laid BY PROGRAM, IN A SANDBOX (cutbox-door.mjs). By AI agents, Wed Nov 11 2026. No macro, syntax, notation, axiom, sorry.
-/
import Derived.Test.YtopceggmdieppaaDoorRows
import GoSem.ClaimSeven
namespace Go.Proofs.YtopceggmdieppaaDoor
namespace Rows

/-- THE TIED CARD OF 'switchbacklaw17.RelaxAnswers'. -/
def relaxAnswersCard : Claim7 := { stood := { row := relaxAnswersRow, standIns := [], harness := (true, "704bd6db641c2e434f4446ba65a345ce489ca62893583f2ed862e109949fea22"), looks := true }, kinds := [], alts := [], laidByText := true, laidKinds := [.data], laidTests := true, laidLooks := .later }
def RelaxAnswersCardSaid : Prop := Claim7.holds Tryd.pinned (.plain (OpenSpec.ofChange relaxAnswersSpec)) relaxAnswersCard

/-- THE TIED CARD OF 'switchbacklaw17.RelaxAll'. -/
def relaxAllCard : Claim7 := { stood := { row := relaxAllRow, standIns := [], harness := (true, "704bd6db641c2e434f4446ba65a345ce489ca62893583f2ed862e109949fea22"), looks := true }, kinds := [], alts := [], laidByText := true, laidKinds := [.data], laidTests := true, laidLooks := .later }
def RelaxAllCardSaid : Prop := Claim7.holds Tryd.pinned (.plain (OpenSpec.ofChange relaxAllSpec)) relaxAllCard

/-- THE TIED CARD OF 'switchbacklaw17.RelaxLabels'. -/
def relaxLabelsCard : Claim7 := { stood := { row := relaxLabelsRow, standIns := [], harness := (true, "704bd6db641c2e434f4446ba65a345ce489ca62893583f2ed862e109949fea22"), looks := true }, kinds := [], alts := [], laidByText := true, laidKinds := [.data], laidTests := true, laidLooks := .later }
def RelaxLabelsCardSaid : Prop := Claim7.holds Tryd.pinned (.plain (OpenSpec.ofChange relaxLabelsSpec)) relaxLabelsCard

/-- THE TIED CARD OF 'switchbacklaw18.EmuRuns'. -/
def emuRunsCard : Claim7 := { stood := { row := emuRunsRow, standIns := [], harness := (true, "704bd6db641c2e434f4446ba65a345ce489ca62893583f2ed862e109949fea22"), looks := true }, kinds := [], alts := [], laidByText := true, laidKinds := [.data], laidTests := true, laidLooks := .later }
def EmuRunsCardSaid : Prop := Claim7.holds Tryd.pinned (.plain (OpenSpec.ofChange emuRunsSpec)) emuRunsCard

/-- THE TIED CARD OF 'switchbacklaw18.EmuRegisters'. -/
def emuRegistersCard : Claim7 := { stood := { row := emuRegistersRow, standIns := [], harness := (true, "704bd6db641c2e434f4446ba65a345ce489ca62893583f2ed862e109949fea22"), looks := true }, kinds := [], alts := [], laidByText := true, laidKinds := [.data], laidTests := true, laidLooks := .later }
def EmuRegistersCardSaid : Prop := Claim7.holds Tryd.pinned (.plain (OpenSpec.ofChange emuRegistersSpec)) emuRegistersCard

/-- THE TIED CARD OF 'switchbacklaw18.EmuIdle'. -/
def emuIdleCard : Claim7 := { stood := { row := emuIdleRow, standIns := [], harness := (true, "704bd6db641c2e434f4446ba65a345ce489ca62893583f2ed862e109949fea22"), looks := true }, kinds := [], alts := [], laidByText := true, laidKinds := [.data], laidTests := true, laidLooks := .later }
def EmuIdleCardSaid : Prop := Claim7.holds Tryd.pinned (.plain (OpenSpec.ofChange emuIdleSpec)) emuIdleCard

/-- THE SECOND FORM's CARD OF 'switchbacklaw17.RelaxAnswers'. -/
def relaxAnswersUptoCard : Claim7 := { stood := { row := relaxAnswersUptoRow, standIns := [], harness := (true, "704bd6db641c2e434f4446ba65a345ce489ca62893583f2ed862e109949fea22"), looks := true }, kinds := [], alts := [], laidByText := true, laidKinds := [.data], laidTests := true, laidLooks := .later }
def RelaxAnswersUptoCardSaid : Prop := Claim7.holds Tryd.pinned (.plain (OpenSpec.upto relaxAnswersSpec)) relaxAnswersUptoCard

/-- THE SECOND FORM's CARD OF 'switchbacklaw17.RelaxAll'. -/
def relaxAllUptoCard : Claim7 := { stood := { row := relaxAllUptoRow, standIns := [], harness := (true, "704bd6db641c2e434f4446ba65a345ce489ca62893583f2ed862e109949fea22"), looks := true }, kinds := [], alts := [], laidByText := true, laidKinds := [.data], laidTests := true, laidLooks := .later }
def RelaxAllUptoCardSaid : Prop := Claim7.holds Tryd.pinned (.plain (OpenSpec.upto relaxAllSpec)) relaxAllUptoCard

/-- THE SECOND FORM's CARD OF 'switchbacklaw17.RelaxLabels'. -/
def relaxLabelsUptoCard : Claim7 := { stood := { row := relaxLabelsUptoRow, standIns := [], harness := (true, "704bd6db641c2e434f4446ba65a345ce489ca62893583f2ed862e109949fea22"), looks := true }, kinds := [], alts := [], laidByText := true, laidKinds := [.data], laidTests := true, laidLooks := .later }
def RelaxLabelsUptoCardSaid : Prop := Claim7.holds Tryd.pinned (.plain (OpenSpec.upto relaxLabelsSpec)) relaxLabelsUptoCard

/-- THE SECOND FORM's CARD OF 'switchbacklaw18.EmuRuns'. -/
def emuRunsUptoCard : Claim7 := { stood := { row := emuRunsUptoRow, standIns := [], harness := (true, "704bd6db641c2e434f4446ba65a345ce489ca62893583f2ed862e109949fea22"), looks := true }, kinds := [], alts := [], laidByText := true, laidKinds := [.data], laidTests := true, laidLooks := .later }
def EmuRunsUptoCardSaid : Prop := Claim7.holds Tryd.pinned (.plain (OpenSpec.upto emuRunsSpec)) emuRunsUptoCard

/-- THE SECOND FORM's CARD OF 'switchbacklaw18.EmuRegisters'. -/
def emuRegistersUptoCard : Claim7 := { stood := { row := emuRegistersUptoRow, standIns := [], harness := (true, "704bd6db641c2e434f4446ba65a345ce489ca62893583f2ed862e109949fea22"), looks := true }, kinds := [], alts := [], laidByText := true, laidKinds := [.data], laidTests := true, laidLooks := .later }
def EmuRegistersUptoCardSaid : Prop := Claim7.holds Tryd.pinned (.plain (OpenSpec.upto emuRegistersSpec)) emuRegistersUptoCard

/-- THE SECOND FORM's CARD OF 'switchbacklaw18.EmuIdle'. -/
def emuIdleUptoCard : Claim7 := { stood := { row := emuIdleUptoRow, standIns := [], harness := (true, "704bd6db641c2e434f4446ba65a345ce489ca62893583f2ed862e109949fea22"), looks := true }, kinds := [], alts := [], laidByText := true, laidKinds := [.data], laidTests := true, laidLooks := .later }
def EmuIdleUptoCardSaid : Prop := Claim7.holds Tryd.pinned (.plain (OpenSpec.upto emuIdleSpec)) emuIdleUptoCard
end Rows
end Go.Proofs.YtopceggmdieppaaDoor
