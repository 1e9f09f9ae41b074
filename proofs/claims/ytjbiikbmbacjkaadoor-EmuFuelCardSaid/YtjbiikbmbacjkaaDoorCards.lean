/-
  DERIVED. GIVEN WITH THE SEED: THE CARDS: each row of YtjbiikbmbacjkaaDoorRows.lean that lists a variable, with what it lists TIED to the program's text (the seventh form; the later family's looks); each row that meets fmt, with fmt's text TOLD by the authors' own Lean function (tested against real Go, not proved from fmt's source: count such statements apart). THE CARD IS WHAT COUNTS. Prove the row's statement (the work); the ties are given (YtjbiikbmbacjkaaDoorTie.lean); close each card by the builder's one call (the guide's Derived/Test/ToyasCard.lean, 'card_holds'). Laid BY PROGRAM, IN A SANDBOX (cutbox-door.mjs). By AI agents, Wed Nov 11 2026. No macro, syntax, notation, axiom, sorry.
-/
import Derived.Test.YtjbiikbmbacjkaaDoorRows
import GoSem.ClaimSeven
namespace Go.Proofs.YtjbiikbmbacjkaaDoor
namespace Rows

/-- THE TIED CARD OF 'switchbacklaw18.EmuRuns'. -/
def emuRunsCard : Claim7 := { stood := { row := emuRunsRow, standIns := [], harness := (true, "e409e7673669dcca7772eb736a0b0acd7ceb1ae75f7750f771cb950bb3f834ca"), looks := true }, kinds := [], alts := [], laidByText := true, laidKinds := [.data], laidTests := true, laidLooks := .later }
def EmuRunsCardSaid : Prop := Claim7.holds Tryd.pinned (.plain (OpenSpec.ofChange emuRunsSpec)) emuRunsCard

/-- THE TIED CARD OF 'switchbacklaw18.EmuFuel'. -/
def emuFuelCard : Claim7 := { stood := { row := emuFuelRow, standIns := [], harness := (true, "e409e7673669dcca7772eb736a0b0acd7ceb1ae75f7750f771cb950bb3f834ca"), looks := true }, kinds := [], alts := [], laidByText := true, laidKinds := [.data], laidTests := true, laidLooks := .later }
def EmuFuelCardSaid : Prop := Claim7.holds Tryd.pinned (.plain (OpenSpec.ofChange emuFuelSpec)) emuFuelCard

/-- THE TIED CARD OF 'switchbacklaw18.EmuKinds'. -/
def emuKindsCard : Claim7 := { stood := { row := emuKindsRow, standIns := [], harness := (true, "e409e7673669dcca7772eb736a0b0acd7ceb1ae75f7750f771cb950bb3f834ca"), looks := true }, kinds := [], alts := [], laidByText := true, laidKinds := [.data], laidTests := true, laidLooks := .later }
def EmuKindsCardSaid : Prop := Claim7.holds Tryd.pinned (.plain (OpenSpec.ofChange emuKindsSpec)) emuKindsCard

/-- THE TIED CARD OF 'switchbacklaw18.EmuAny'. -/
def emuAnyCard : Claim7 := { stood := { row := emuAnyRow, standIns := [], harness := (true, "e409e7673669dcca7772eb736a0b0acd7ceb1ae75f7750f771cb950bb3f834ca"), looks := true }, kinds := [], alts := [], laidByText := true, laidKinds := [.data], laidTests := true, laidLooks := .later }
def EmuAnyCardSaid : Prop := Claim7.holds Tryd.pinned (.plain (OpenSpec.ofChange emuAnySpec)) emuAnyCard

/-- THE TIED CARD OF 'switchbacklaw18.EmuBehind'. -/
def emuBehindCard : Claim7 := { stood := { row := emuBehindRow, standIns := [], harness := (true, "e409e7673669dcca7772eb736a0b0acd7ceb1ae75f7750f771cb950bb3f834ca"), looks := true }, kinds := [], alts := [], laidByText := true, laidKinds := [.data], laidTests := true, laidLooks := .later }
def EmuBehindCardSaid : Prop := Claim7.holds Tryd.pinned (.plain (OpenSpec.ofChange emuBehindSpec)) emuBehindCard

/-- THE TIED CARD OF 'switchbacklaw18.EmuRegisters'. -/
def emuRegistersCard : Claim7 := { stood := { row := emuRegistersRow, standIns := [], harness := (true, "e409e7673669dcca7772eb736a0b0acd7ceb1ae75f7750f771cb950bb3f834ca"), looks := true }, kinds := [], alts := [], laidByText := true, laidKinds := [.data], laidTests := true, laidLooks := .later }
def EmuRegistersCardSaid : Prop := Claim7.holds Tryd.pinned (.plain (OpenSpec.ofChange emuRegistersSpec)) emuRegistersCard

/-- THE TIED CARD OF 'switchbacklaw18.EmuIdle'. -/
def emuIdleCard : Claim7 := { stood := { row := emuIdleRow, standIns := [], harness := (true, "e409e7673669dcca7772eb736a0b0acd7ceb1ae75f7750f771cb950bb3f834ca"), looks := true }, kinds := [], alts := [], laidByText := true, laidKinds := [.data], laidTests := true, laidLooks := .later }
def EmuIdleCardSaid : Prop := Claim7.holds Tryd.pinned (.plain (OpenSpec.ofChange emuIdleSpec)) emuIdleCard

/-- THE TIED CARD OF 'switchbacklaw18.EmuNoughts'. -/
def emuNoughtsCard : Claim7 := { stood := { row := emuNoughtsRow, standIns := [], harness := (true, "e409e7673669dcca7772eb736a0b0acd7ceb1ae75f7750f771cb950bb3f834ca"), looks := true }, kinds := [], alts := [], laidByText := true, laidKinds := [.data], laidTests := true, laidLooks := .later }
def EmuNoughtsCardSaid : Prop := Claim7.holds Tryd.pinned (.plain (OpenSpec.ofChange emuNoughtsSpec)) emuNoughtsCard

/-- THE SECOND FORM's CARD OF 'switchbacklaw18.EmuRuns'. -/
def emuRunsUptoCard : Claim7 := { stood := { row := emuRunsUptoRow, standIns := [], harness := (true, "e409e7673669dcca7772eb736a0b0acd7ceb1ae75f7750f771cb950bb3f834ca"), looks := true }, kinds := [], alts := [], laidByText := true, laidKinds := [.data], laidTests := true, laidLooks := .later }
def EmuRunsUptoCardSaid : Prop := Claim7.holds Tryd.pinned (.plain (OpenSpec.upto emuRunsSpec)) emuRunsUptoCard

/-- THE SECOND FORM's CARD OF 'switchbacklaw18.EmuFuel'. -/
def emuFuelUptoCard : Claim7 := { stood := { row := emuFuelUptoRow, standIns := [], harness := (true, "e409e7673669dcca7772eb736a0b0acd7ceb1ae75f7750f771cb950bb3f834ca"), looks := true }, kinds := [], alts := [], laidByText := true, laidKinds := [.data], laidTests := true, laidLooks := .later }
def EmuFuelUptoCardSaid : Prop := Claim7.holds Tryd.pinned (.plain (OpenSpec.upto emuFuelSpec)) emuFuelUptoCard

/-- THE SECOND FORM's CARD OF 'switchbacklaw18.EmuKinds'. -/
def emuKindsUptoCard : Claim7 := { stood := { row := emuKindsUptoRow, standIns := [], harness := (true, "e409e7673669dcca7772eb736a0b0acd7ceb1ae75f7750f771cb950bb3f834ca"), looks := true }, kinds := [], alts := [], laidByText := true, laidKinds := [.data], laidTests := true, laidLooks := .later }
def EmuKindsUptoCardSaid : Prop := Claim7.holds Tryd.pinned (.plain (OpenSpec.upto emuKindsSpec)) emuKindsUptoCard

/-- THE SECOND FORM's CARD OF 'switchbacklaw18.EmuAny'. -/
def emuAnyUptoCard : Claim7 := { stood := { row := emuAnyUptoRow, standIns := [], harness := (true, "e409e7673669dcca7772eb736a0b0acd7ceb1ae75f7750f771cb950bb3f834ca"), looks := true }, kinds := [], alts := [], laidByText := true, laidKinds := [.data], laidTests := true, laidLooks := .later }
def EmuAnyUptoCardSaid : Prop := Claim7.holds Tryd.pinned (.plain (OpenSpec.upto emuAnySpec)) emuAnyUptoCard

/-- THE SECOND FORM's CARD OF 'switchbacklaw18.EmuBehind'. -/
def emuBehindUptoCard : Claim7 := { stood := { row := emuBehindUptoRow, standIns := [], harness := (true, "e409e7673669dcca7772eb736a0b0acd7ceb1ae75f7750f771cb950bb3f834ca"), looks := true }, kinds := [], alts := [], laidByText := true, laidKinds := [.data], laidTests := true, laidLooks := .later }
def EmuBehindUptoCardSaid : Prop := Claim7.holds Tryd.pinned (.plain (OpenSpec.upto emuBehindSpec)) emuBehindUptoCard

/-- THE SECOND FORM's CARD OF 'switchbacklaw18.EmuRegisters'. -/
def emuRegistersUptoCard : Claim7 := { stood := { row := emuRegistersUptoRow, standIns := [], harness := (true, "e409e7673669dcca7772eb736a0b0acd7ceb1ae75f7750f771cb950bb3f834ca"), looks := true }, kinds := [], alts := [], laidByText := true, laidKinds := [.data], laidTests := true, laidLooks := .later }
def EmuRegistersUptoCardSaid : Prop := Claim7.holds Tryd.pinned (.plain (OpenSpec.upto emuRegistersSpec)) emuRegistersUptoCard

/-- THE SECOND FORM's CARD OF 'switchbacklaw18.EmuIdle'. -/
def emuIdleUptoCard : Claim7 := { stood := { row := emuIdleUptoRow, standIns := [], harness := (true, "e409e7673669dcca7772eb736a0b0acd7ceb1ae75f7750f771cb950bb3f834ca"), looks := true }, kinds := [], alts := [], laidByText := true, laidKinds := [.data], laidTests := true, laidLooks := .later }
def EmuIdleUptoCardSaid : Prop := Claim7.holds Tryd.pinned (.plain (OpenSpec.upto emuIdleSpec)) emuIdleUptoCard

/-- THE SECOND FORM's CARD OF 'switchbacklaw18.EmuNoughts'. -/
def emuNoughtsUptoCard : Claim7 := { stood := { row := emuNoughtsUptoRow, standIns := [], harness := (true, "e409e7673669dcca7772eb736a0b0acd7ceb1ae75f7750f771cb950bb3f834ca"), looks := true }, kinds := [], alts := [], laidByText := true, laidKinds := [.data], laidTests := true, laidLooks := .later }
def EmuNoughtsUptoCardSaid : Prop := Claim7.holds Tryd.pinned (.plain (OpenSpec.upto emuNoughtsSpec)) emuNoughtsUptoCard
end Rows
end Go.Proofs.YtjbiikbmbacjkaaDoor
