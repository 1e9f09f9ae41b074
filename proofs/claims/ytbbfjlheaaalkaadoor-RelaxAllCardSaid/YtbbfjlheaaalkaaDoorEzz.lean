/- What every row of the seat of layer enc gives a walk: the table of forms lies as the program lays it; and a world for the witness. -/
import Derived.Test.YtbbfjlheaaalkaaDoorEl
import Derived.Test.YtbbfjlheaaalkaaDoorCards
import Derived.Test.YtbbfjlheaaalkaaDoorTie
import Derived.ProofKit
import Derived.OpenShut
import Derived.LaidMore
import Derived.Lay
import Derived.SevenTiedAt
import Derived.Deep.DeepHandedRow
import Derived.Deep.DeepWitnessRowRef
namespace Go.Proofs.YtbbfjlheaaalkaaDoor
open Go.ChangeShapes Go.WideShapes Go.ChangeAt Go.RowKit

theorem own : ownKnob Tryd.prog.godebug = none := by kernel_rfl
/-- The list that every row of this seat bears. -/
def laidAll : List (String × DataW Unit) := [("switchback/enc.forms", Rows.laid_switchback_enc_forms)]
theorem gForms : Tryd.prog.globalNamed "switchback/enc.forms" = some 0 := by kernel_rfl
theorem gFormsT : (Tryd.prog.globals[0]?).map (·.type) = some 93 := by kernel_rfl
theorem cellsInt : Tryd.prog.cellsOf 3 = 1 := by kernel_rfl
theorem forms_data : (Rows.laid_switchback_enc_forms : DataW Unit) = .agg (Enc.formL.map fun n => .lit (.int .i64 n)) := by kernel_rfl
theorem int_of_trod {w : World} {base : Nat} {sp : Nat → Bool} {held : Bool} {fuel : Nat} {c : Value} {n : Int} {p : List MemPlace} (h : DataW.trod (fun _ => ()) Tryd.prog w base sp held fuel 3 [c] = some ((.lit (.int .i64 n) : DataW Unit), p)) : c = .int .i64 n := by
  cases fuel with
  | zero => simp [DataW.trod] at h
  | succ fuel =>
    cases c <;> simp [DataW.trod, Tryd.underlying3] at h
    rename_i k' m
    obtain ⟨⟨rfl, _⟩, rfl, _⟩ := h
    rfl
theorem chunks1 {α : Type} {f : α → Value} : ∀ (L : List α) (cs : List Value), cs.length = L.length → (∀ (i : Nat) (a : α), L[i]? = some a → cs[i]? = some (f a)) → cs = L.map f := by
  intro L cs hl h
  refine List.ext_getElem? fun i => ?_
  rw [List.getElem?_map]
  cases ha : L[i]? with
  | none =>
    have : L.length ≤ i := List.getElem?_eq_none_iff.1 ha
    rw [List.getElem?_eq_none (by omega)]; rfl
  | some a => exact h i a ha
theorem forms_of {W : World} (hL0 : laidMetH Tryd.prog laidAll W) : Enc.FormsAt W := by
  rw [MakeChecks.laidMetH_plain _ _ _ (by kernel_rfl)] at hL0
  obtain ⟨ps, ⟨g, t, cs, fuel, p, q, hg, ht, hvar, hd, _, _⟩, _⟩ := hL0
  obtain rfl : g = 0 := Option.some.inj (hg.symm.trans gForms)
  obtain rfl : t = 93 := Option.some.inj (ht.symm.trans gFormsT)
  rw [forms_data] at hd
  obtain ⟨xs, m, _, hx, hl, hlen, hf⟩ := DataW.trod_array Tryd.underlying93 hd
  have hmap : Enc.formL.map (fun n => (.lit (.int .i64 n) : DataW Unit)) = xs.map (·.1) := by
    have := congrArg Prod.fst hx
    simpa using this
  have hcells : cs.toList = Enc.formL.map fun n => Value.int .i64 n := by
    refine chunks1 _ _ (by rw [hl]; kernel_rfl) (fun i a ha => ?_)
    have hi : i < 49 := by
      have := (List.getElem?_eq_some_iff.1 ha).1
      exact Nat.lt_of_lt_of_le this (by decide)
    have h1 := hf i hi
    rw [cellsInt] at h1
    have h2 : (xs.map (·.1))[i]? = some (.lit (.int .i64 a)) := by rw [← hmap, List.getElem?_map, ha]; rfl
    rw [List.getElem?_map] at h2
    obtain ⟨⟨y, py⟩, hy, hy2⟩ := Option.map_eq_some_iff.1 h2
    simp only at hy2
    subst hy2
    rw [hy] at h1
    have hlc : i < cs.toList.length := by rw [hl]; exact Nat.lt_of_lt_of_le hi (by decide +kernel)
    rw [Nat.mul_one, List.drop_eq_getElem_cons hlc, List.take_succ_cons, List.take_zero] at h1
    rw [List.getElem?_eq_getElem hlc, int_of_trod h1]
  unfold World.var? at hvar
  rw [gForms] at hvar
  simp only [Option.bind_some] at hvar
  split at hvar
  · rename_i cs' t fr hh
    cases hvar
    refine ⟨t, fr, ?_⟩
    rw [hh]
    have : cs = Enc.formCells := by
      unfold Enc.formCells
      rw [← hcells]
    rw [this]
  · cases hvar

/-- A world for the witness. -/
noncomputable def laidWorld (os : Os) : World := World.laidAll Tryd.prog os laidAll
theorem laid_met (os : Os) (args : Array Value) : laidMetH Tryd.prog laidAll ((laidWorld os).forCall (fun _ _ => 0) ⟨#[], args, []⟩).memory := by
  rw [MakeChecks.laidMetH_plain _ _ _ (by kernel_rfl)]
  exact laidMet_laidAll _ (by kernel_rfl) (by kernel_rfl)
end Go.Proofs.YtbbfjlheaaalkaaDoor
