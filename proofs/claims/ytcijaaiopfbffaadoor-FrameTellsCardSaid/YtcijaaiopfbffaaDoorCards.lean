/-
  DERIVED. GIVEN WITH THE SEED: THE CARDS: each row of YtcijaaiopfbffaaDoorRows.lean that lists a variable, with what it lists TIED to the program's text (the seventh form; the later family's looks); each row that meets fmt, with fmt's text TOLD by the authors' own Lean function (tested against real Go, not proved from fmt's source: count such statements apart). THE CARD IS WHAT COUNTS. Prove the row's statement (the work); the ties are given (YtcijaaiopfbffaaDoorTie.lean); close each card by the builder's one call (the guide's Derived/Test/ToyasCard.lean, 'card_holds'). Laid BY PROGRAM, IN A SANDBOX (cutbox-door.mjs). By AI agents, Wed Nov 11 2026. No macro, syntax, notation, axiom, sorry.
-/
import Derived.Test.YtcijaaiopfbffaaDoorRows
import GoSem.ClaimSeven
namespace Go.Proofs.YtcijaaiopfbffaaDoor
namespace Rows

/-- THE TIED CARD OF 'switchbacklaw13.LiveTells'. -/
def liveTellsCard : Claim7 := { stood := { row := liveTellsRow, standIns := [], harness := (true, "aaf453120c190e18204e0f9079254f127b53b9d3fe9e11f9eb89ce23686d9003"), looks := false }, kinds := [], alts := [], laidByText := true, laidKinds := [.data], laidTests := true, laidLooks := .later }
def LiveTellsCardSaid : Prop := Claim7.holds Tryd.pinned (.plain (OpenSpec.ofChange liveTellsSpec)) liveTellsCard

/-- THE TIED CARD OF 'switchbacklaw13.LiveSteps'. -/
def liveStepsCard : Claim7 := { stood := { row := liveStepsRow, standIns := [], harness := (true, "aaf453120c190e18204e0f9079254f127b53b9d3fe9e11f9eb89ce23686d9003"), looks := false }, kinds := [], alts := [], laidByText := true, laidKinds := [.data], laidTests := true, laidLooks := .later }
def LiveStepsCardSaid : Prop := Claim7.holds Tryd.pinned (.plain (OpenSpec.ofChange liveStepsSpec)) liveStepsCard

/-- THE TIED CARD OF 'switchbacklaw13.LiveNoMore'. -/
def liveNoMoreCard : Claim7 := { stood := { row := liveNoMoreRow, standIns := [], harness := (true, "aaf453120c190e18204e0f9079254f127b53b9d3fe9e11f9eb89ce23686d9003"), looks := false }, kinds := [], alts := [], laidByText := true, laidKinds := [.data], laidTests := true, laidLooks := .later }
def LiveNoMoreCardSaid : Prop := Claim7.holds Tryd.pinned (.plain (OpenSpec.ofChange liveNoMoreSpec)) liveNoMoreCard

/-- THE TIED CARD OF 'switchbacklaw13.LiveRenamed'. -/
def liveRenamedCard : Claim7 := { stood := { row := liveRenamedRow, standIns := [], harness := (true, "aaf453120c190e18204e0f9079254f127b53b9d3fe9e11f9eb89ce23686d9003"), looks := false }, kinds := [], alts := [], laidByText := true, laidKinds := [.data], laidTests := true, laidLooks := .later }
def LiveRenamedCardSaid : Prop := Claim7.holds Tryd.pinned (.plain (OpenSpec.ofChange liveRenamedSpec)) liveRenamedCard

/-- THE TIED CARD OF 'switchbacklaw19.FrameTells'. -/
def frameTellsCard : Claim7 := { stood := { row := frameTellsRow, standIns := [], harness := (true, "aaf453120c190e18204e0f9079254f127b53b9d3fe9e11f9eb89ce23686d9003"), looks := false }, kinds := [], alts := [], laidByText := true, laidKinds := [.data], laidTests := true, laidLooks := .later }
def FrameTellsCardSaid : Prop := Claim7.holds Tryd.pinned (.plain (OpenSpec.ofChange frameTellsSpec)) frameTellsCard

/-- THE TIED CARD OF 'switchbacklaw19.FrameSmall'. -/
def frameSmallCard : Claim7 := { stood := { row := frameSmallRow, standIns := [], harness := (true, "aaf453120c190e18204e0f9079254f127b53b9d3fe9e11f9eb89ce23686d9003"), looks := false }, kinds := [], alts := [], laidByText := true, laidKinds := [.data], laidTests := true, laidLooks := .later }
def FrameSmallCardSaid : Prop := Claim7.holds Tryd.pinned (.plain (OpenSpec.ofChange frameSmallSpec)) frameSmallCard

/-- THE SECOND FORM's CARD OF 'switchbacklaw13.LiveTells'. -/
def liveTellsUptoCard : Claim7 := { stood := { row := liveTellsUptoRow, standIns := [], harness := (true, "aaf453120c190e18204e0f9079254f127b53b9d3fe9e11f9eb89ce23686d9003"), looks := false }, kinds := [], alts := [], laidByText := true, laidKinds := [.data], laidTests := true, laidLooks := .later }
def LiveTellsUptoCardSaid : Prop := Claim7.holds Tryd.pinned (.plain (OpenSpec.upto liveTellsSpec)) liveTellsUptoCard

/-- THE SECOND FORM's CARD OF 'switchbacklaw13.LiveSteps'. -/
def liveStepsUptoCard : Claim7 := { stood := { row := liveStepsUptoRow, standIns := [], harness := (true, "aaf453120c190e18204e0f9079254f127b53b9d3fe9e11f9eb89ce23686d9003"), looks := false }, kinds := [], alts := [], laidByText := true, laidKinds := [.data], laidTests := true, laidLooks := .later }
def LiveStepsUptoCardSaid : Prop := Claim7.holds Tryd.pinned (.plain (OpenSpec.upto liveStepsSpec)) liveStepsUptoCard

/-- THE SECOND FORM's CARD OF 'switchbacklaw13.LiveNoMore'. -/
def liveNoMoreUptoCard : Claim7 := { stood := { row := liveNoMoreUptoRow, standIns := [], harness := (true, "aaf453120c190e18204e0f9079254f127b53b9d3fe9e11f9eb89ce23686d9003"), looks := false }, kinds := [], alts := [], laidByText := true, laidKinds := [.data], laidTests := true, laidLooks := .later }
def LiveNoMoreUptoCardSaid : Prop := Claim7.holds Tryd.pinned (.plain (OpenSpec.upto liveNoMoreSpec)) liveNoMoreUptoCard

/-- THE SECOND FORM's CARD OF 'switchbacklaw13.LiveRenamed'. -/
def liveRenamedUptoCard : Claim7 := { stood := { row := liveRenamedUptoRow, standIns := [], harness := (true, "aaf453120c190e18204e0f9079254f127b53b9d3fe9e11f9eb89ce23686d9003"), looks := false }, kinds := [], alts := [], laidByText := true, laidKinds := [.data], laidTests := true, laidLooks := .later }
def LiveRenamedUptoCardSaid : Prop := Claim7.holds Tryd.pinned (.plain (OpenSpec.upto liveRenamedSpec)) liveRenamedUptoCard

/-- THE SECOND FORM's CARD OF 'switchbacklaw19.FrameTells'. -/
def frameTellsUptoCard : Claim7 := { stood := { row := frameTellsUptoRow, standIns := [], harness := (true, "aaf453120c190e18204e0f9079254f127b53b9d3fe9e11f9eb89ce23686d9003"), looks := false }, kinds := [], alts := [], laidByText := true, laidKinds := [.data], laidTests := true, laidLooks := .later }
def FrameTellsUptoCardSaid : Prop := Claim7.holds Tryd.pinned (.plain (OpenSpec.upto frameTellsSpec)) frameTellsUptoCard

/-- THE SECOND FORM's CARD OF 'switchbacklaw19.FrameSmall'. -/
def frameSmallUptoCard : Claim7 := { stood := { row := frameSmallUptoRow, standIns := [], harness := (true, "aaf453120c190e18204e0f9079254f127b53b9d3fe9e11f9eb89ce23686d9003"), looks := false }, kinds := [], alts := [], laidByText := true, laidKinds := [.data], laidTests := true, laidLooks := .later }
def FrameSmallUptoCardSaid : Prop := Claim7.holds Tryd.pinned (.plain (OpenSpec.upto frameSmallSpec)) frameSmallUptoCard
end Rows
end Go.Proofs.YtcijaaiopfbffaaDoor
