/- What every row of live gives a walk: the table of bits lies as the program lays it; a world for the witness; a graph opened. -/
import Derived.Test.YtcijaaiopfbffaaDoorCards
import Derived.Test.YtcijaaiopfbffaaDoorTie
import Derived.Test.YtcijaaiopfbffaaDoorMo
import Derived.ProofKit
import Derived.OpenShut
import Derived.LaidMore
import Derived.Lay
import Derived.SevenTiedAt
import Derived.SizedLaws
import Derived.Deep.DeepHandedRow
import Derived.Deep.DeepWitnessRowRef
import Derived.Lib.LaidTab
import Derived.Lib.TrailingZeros
import Derived.Shelf.Spec.TrailingZeros
namespace Go.Proofs.YtcijaaiopfbffaaDoor
open Go.ChangeShapes Go.WideShapes Go.ChangeAt Go.RowKit Go.Shelf

theorem own : ownKnob Tryd.prog.godebug = none := by kernel_rfl
theorem laidOut : laidOutB Tryd.prog = true := by kernel_rfl
/-- The list that every row of this seat bears. -/
def laidAll : List (String × DataW Unit) := [("math/bits.deBruijn64tab", Rows.laid_math_bits_deBruijn64tab)]
theorem gTab : Tryd.prog.globalNamed "math/bits.deBruijn64tab" = some 0 := by kernel_rfl
theorem tab_data : (Rows.laid_math_bits_deBruijn64tab : DataW Unit) = Lib.tabData .u8 (Lib.deBruijn64tab.map fun (k : Nat) => (k : Int)) := by kernel_rfl
theorem tab_len : (Lib.deBruijn64tab.map fun (k : Nat) => (k : Int)).length = 64 := by kernel_rfl
theorem tab_of {W : World} (hL0 : laidMetH Tryd.prog laidAll W) : TabAt 0 Lib.deBruijn64tab W ∧ 0 < W.heap.size := by
  rw [MakeChecks.laidMetH_plain _ _ _ (by kernel_rfl)] at hL0
  unfold laidAll at hL0
  rw [tab_data] at hL0
  have h := Lib.tabIs_of_head (P := Tryd.prog) gTab (show (Tryd.prog.globals[0]?).map (·.type) = some 136 by kernel_rfl) Tryd.underlying136 Tryd.underlying5 (by kernel_rfl) (by kernel_rfl) hL0
  have key : TabAt 0 Lib.deBruijn64tab W := fun j hj => by
    have h2 := Lib.TabIs.cell h gTab j (by rw [List.length_map]; exact hj)
    rw [h2]
    congr 2
    simp [List.getD, hj]
  exact ⟨key, World.block_lt_of_cell? W _ (key 0 (by decide))⟩
/-- A world for the witness. -/
noncomputable def laidWorld (os : Os) : World := World.laidAll Tryd.prog os laidAll
theorem laid_met (os : Os) (args : Array Value) : laidMetH Tryd.prog laidAll ((laidWorld os).forCall (fun _ _ => 0) ⟨#[], args, []⟩).memory := by
  rw [MakeChecks.laidMetH_plain _ _ _ (by kernel_rfl)]
  exact laidMet_laidAll _ (by kernel_rfl) (by kernel_rfl)
theorem wt_at {H : Type} {ts : List TypeId} {ds : List (DataW H)} (h : (DataW.weightsEach Tryd.prog ts ds).all (· ≤ reachBytes) = true) {j : Nat} {t : TypeId} {d : DataW H} (ht : ts[j]? = some t) (hd : ds[j]? = some d) : Graph.Wt t d := fun n hn => by
  simpa using List.all_eq_true.1 h _ (DataW.weights_mem_each ht hd n hn)
theorem arr4 {cs : Array Value} (h : cs.size = 4) : ∃ c0 c1 c2 c3, cs = #[c0, c1, c2, c3] := by
  obtain ⟨l⟩ := cs
  match l, h with
  | [c0, c1, c2, c3], _ => exact ⟨c0, c1, c2, c3, rfl⟩
set_option maxRecDepth 1000000 in
open Go.Proofs.YtcijaaiopfbffaaDoor.Graph in
/-- A graph, opened. -/
theorem graph_in {H : Type} {enc : TypeId × Value → H} {w : World} {base : Nat} {sp : Nat → Bool} {held : Bool} {r : Reach} {b0 : Nat} {v : Value} {d : DataW H} {p : List MemPlace} (hv : Value.okWide Tryd.prog w r b0 26 v) (h : DataW.Trod enc Tryd.prog w base sp held 26 v d p) (hw : Wt 26 d) :
    ∃ x vp va vb, v = grV x vp va vb ∧ GrL w vp va vb x ∧ SmG x := by
  obtain ⟨cs, rfl, hcs⟩ := okWide_struct Tryd.underlying26 hv
  rw [cells_gr] at hcs
  obtain ⟨fuel, hf⟩ := h
  obtain ⟨c0, c1, c2, c3, rfl⟩ := arr4 hcs
  obtain ⟨x, vp, va, vb, rfl, rfl, rfl, rfl, hgr, hsm⟩ := gr_of hf hw
  exact ⟨x, _, _, _, rfl, hgr, hsm⟩
end Go.Proofs.YtcijaaiopfbffaaDoor
