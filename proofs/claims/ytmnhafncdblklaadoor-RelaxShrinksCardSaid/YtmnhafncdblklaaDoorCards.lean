/-
  DERIVED. GIVEN WITH THE SEED: THE CARDS: each row of YtmnhafncdblklaaDoorRows.lean that lists a variable, with what it lists TIED to the program's text (the seventh form; the later family's looks); each row that meets fmt, with fmt's text TOLD by the authors' own Lean function (tested against real Go, not proved from fmt's source: count such statements apart). THE CARD IS WHAT COUNTS. Prove the row's statement (the work); the ties are given (YtmnhafncdblklaaDoorTie.lean); close each card by the builder's one call (the guide's Derived/Test/ToyasCard.lean, 'card_holds'). Laid BY PROGRAM, IN A SANDBOX (cutbox-door.mjs). By AI agents, Wed Nov 11 2026. No macro, syntax, notation, axiom, sorry.
-/
import Derived.Test.YtmnhafncdblklaaDoorRows
import GoSem.ClaimSeven
namespace Go.Proofs.YtmnhafncdblklaaDoor
namespace Rows

/-- THE TIED CARD OF 'switchbacklaw17.RelaxAnswers'. -/
def relaxAnswersCard : Claim7 := { stood := { row := relaxAnswersRow, standIns := [], harness := (true, "922709c07e9ada83c64db456bea973d84e0b17c3b252185fbb7d7cbf02c66edb"), looks := false }, kinds := [], alts := [], laidByText := true, laidKinds := [.data], laidTests := true, laidLooks := .later }
def RelaxAnswersCardSaid : Prop := Claim7.holds Tryd.pinned (.plain (OpenSpec.ofChange relaxAnswersSpec)) relaxAnswersCard

/-- THE TIED CARD OF 'switchbacklaw17.RelaxRounds'. -/
def relaxRoundsCard : Claim7 := { stood := { row := relaxRoundsRow, standIns := [], harness := (true, "922709c07e9ada83c64db456bea973d84e0b17c3b252185fbb7d7cbf02c66edb"), looks := false }, kinds := [], alts := [], laidByText := true, laidKinds := [.data], laidTests := true, laidLooks := .later }
def RelaxRoundsCardSaid : Prop := Claim7.holds Tryd.pinned (.plain (OpenSpec.ofChange relaxRoundsSpec)) relaxRoundsCard

/-- THE TIED CARD OF 'switchbacklaw17.RelaxBack'. -/
def relaxBackCard : Claim7 := { stood := { row := relaxBackRow, standIns := [], harness := (true, "922709c07e9ada83c64db456bea973d84e0b17c3b252185fbb7d7cbf02c66edb"), looks := false }, kinds := [], alts := [], laidByText := true, laidKinds := [.data], laidTests := true, laidLooks := .later }
def RelaxBackCardSaid : Prop := Claim7.holds Tryd.pinned (.plain (OpenSpec.ofChange relaxBackSpec)) relaxBackCard

/-- THE TIED CARD OF 'switchbacklaw17.RelaxLeast'. -/
def relaxLeastCard : Claim7 := { stood := { row := relaxLeastRow, standIns := [], harness := (true, "922709c07e9ada83c64db456bea973d84e0b17c3b252185fbb7d7cbf02c66edb"), looks := false }, kinds := [], alts := [], laidByText := true, laidKinds := [.data], laidTests := true, laidLooks := .later }
def RelaxLeastCardSaid : Prop := Claim7.holds Tryd.pinned (.plain (OpenSpec.ofChange relaxLeastSpec)) relaxLeastCard

/-- THE TIED CARD OF 'switchbacklaw17.RelaxAll'. -/
def relaxAllCard : Claim7 := { stood := { row := relaxAllRow, standIns := [], harness := (true, "922709c07e9ada83c64db456bea973d84e0b17c3b252185fbb7d7cbf02c66edb"), looks := false }, kinds := [], alts := [], laidByText := true, laidKinds := [.data], laidTests := true, laidLooks := .later }
def RelaxAllCardSaid : Prop := Claim7.holds Tryd.pinned (.plain (OpenSpec.ofChange relaxAllSpec)) relaxAllCard

/-- THE TIED CARD OF 'switchbacklaw17.RelaxLabels'. -/
def relaxLabelsCard : Claim7 := { stood := { row := relaxLabelsRow, standIns := [], harness := (true, "922709c07e9ada83c64db456bea973d84e0b17c3b252185fbb7d7cbf02c66edb"), looks := false }, kinds := [], alts := [], laidByText := true, laidKinds := [.data], laidTests := true, laidLooks := .later }
def RelaxLabelsCardSaid : Prop := Claim7.holds Tryd.pinned (.plain (OpenSpec.ofChange relaxLabelsSpec)) relaxLabelsCard

/-- THE TIED CARD OF 'switchbacklaw17.RelaxShrinks'. -/
def relaxShrinksCard : Claim7 := { stood := { row := relaxShrinksRow, standIns := [], harness := (true, "922709c07e9ada83c64db456bea973d84e0b17c3b252185fbb7d7cbf02c66edb"), looks := false }, kinds := [], alts := [], laidByText := true, laidKinds := [.data], laidTests := true, laidLooks := .later }
def RelaxShrinksCardSaid : Prop := Claim7.holds Tryd.pinned (.plain (OpenSpec.ofChange relaxShrinksSpec)) relaxShrinksCard

/-- THE SECOND FORM's CARD OF 'switchbacklaw17.RelaxAnswers'. -/
def relaxAnswersUptoCard : Claim7 := { stood := { row := relaxAnswersUptoRow, standIns := [], harness := (true, "922709c07e9ada83c64db456bea973d84e0b17c3b252185fbb7d7cbf02c66edb"), looks := false }, kinds := [], alts := [], laidByText := true, laidKinds := [.data], laidTests := true, laidLooks := .later }
def RelaxAnswersUptoCardSaid : Prop := Claim7.holds Tryd.pinned (.plain (OpenSpec.upto relaxAnswersSpec)) relaxAnswersUptoCard

/-- THE SECOND FORM's CARD OF 'switchbacklaw17.RelaxRounds'. -/
def relaxRoundsUptoCard : Claim7 := { stood := { row := relaxRoundsUptoRow, standIns := [], harness := (true, "922709c07e9ada83c64db456bea973d84e0b17c3b252185fbb7d7cbf02c66edb"), looks := false }, kinds := [], alts := [], laidByText := true, laidKinds := [.data], laidTests := true, laidLooks := .later }
def RelaxRoundsUptoCardSaid : Prop := Claim7.holds Tryd.pinned (.plain (OpenSpec.upto relaxRoundsSpec)) relaxRoundsUptoCard

/-- THE SECOND FORM's CARD OF 'switchbacklaw17.RelaxBack'. -/
def relaxBackUptoCard : Claim7 := { stood := { row := relaxBackUptoRow, standIns := [], harness := (true, "922709c07e9ada83c64db456bea973d84e0b17c3b252185fbb7d7cbf02c66edb"), looks := false }, kinds := [], alts := [], laidByText := true, laidKinds := [.data], laidTests := true, laidLooks := .later }
def RelaxBackUptoCardSaid : Prop := Claim7.holds Tryd.pinned (.plain (OpenSpec.upto relaxBackSpec)) relaxBackUptoCard

/-- THE SECOND FORM's CARD OF 'switchbacklaw17.RelaxLeast'. -/
def relaxLeastUptoCard : Claim7 := { stood := { row := relaxLeastUptoRow, standIns := [], harness := (true, "922709c07e9ada83c64db456bea973d84e0b17c3b252185fbb7d7cbf02c66edb"), looks := false }, kinds := [], alts := [], laidByText := true, laidKinds := [.data], laidTests := true, laidLooks := .later }
def RelaxLeastUptoCardSaid : Prop := Claim7.holds Tryd.pinned (.plain (OpenSpec.upto relaxLeastSpec)) relaxLeastUptoCard

/-- THE SECOND FORM's CARD OF 'switchbacklaw17.RelaxAll'. -/
def relaxAllUptoCard : Claim7 := { stood := { row := relaxAllUptoRow, standIns := [], harness := (true, "922709c07e9ada83c64db456bea973d84e0b17c3b252185fbb7d7cbf02c66edb"), looks := false }, kinds := [], alts := [], laidByText := true, laidKinds := [.data], laidTests := true, laidLooks := .later }
def RelaxAllUptoCardSaid : Prop := Claim7.holds Tryd.pinned (.plain (OpenSpec.upto relaxAllSpec)) relaxAllUptoCard

/-- THE SECOND FORM's CARD OF 'switchbacklaw17.RelaxLabels'. -/
def relaxLabelsUptoCard : Claim7 := { stood := { row := relaxLabelsUptoRow, standIns := [], harness := (true, "922709c07e9ada83c64db456bea973d84e0b17c3b252185fbb7d7cbf02c66edb"), looks := false }, kinds := [], alts := [], laidByText := true, laidKinds := [.data], laidTests := true, laidLooks := .later }
def RelaxLabelsUptoCardSaid : Prop := Claim7.holds Tryd.pinned (.plain (OpenSpec.upto relaxLabelsSpec)) relaxLabelsUptoCard

/-- THE SECOND FORM's CARD OF 'switchbacklaw17.RelaxShrinks'. -/
def relaxShrinksUptoCard : Claim7 := { stood := { row := relaxShrinksUptoRow, standIns := [], harness := (true, "922709c07e9ada83c64db456bea973d84e0b17c3b252185fbb7d7cbf02c66edb"), looks := false }, kinds := [], alts := [], laidByText := true, laidKinds := [.data], laidTests := true, laidLooks := .later }
def RelaxShrinksUptoCardSaid : Prop := Claim7.holds Tryd.pinned (.plain (OpenSpec.upto relaxShrinksSpec)) relaxShrinksUptoCard
end Rows
end Go.Proofs.YtmnhafncdblklaaDoor
