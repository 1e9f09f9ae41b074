/- What every row of the parser's seat gives a walk: the operators' table lies as the program lays it; and a world for the witness. -/
import Derived.Test.YteggenldmkbhiaaDoorWH
import Derived.Test.YteggenldmkbhiaaDoorCards
import Derived.Test.YteggenldmkbhiaaDoorTie
import Derived.ProofKit
import Derived.OpenShut
import Derived.LaidMore
import Derived.Lay
import Derived.SevenTiedAt
import Derived.Deep.DeepHandedRow
import Derived.Deep.DeepWitnessRowRef
namespace Go.Proofs.YteggenldmkbhiaaDoor
open Go.ChangeShapes Go.WideShapes Go.ChangeAt Go.RowKit

theorem own : ownKnob Tryd.prog.godebug = none := by kernel_rfl
/-- The list that every row of this seat bears. -/
def laidAll : List (String × DataW Unit) := [("switchback/parse.operators", Rows.laid_switchback_parse_operators)]
theorem gOps : Tryd.prog.globalNamed "switchback/parse.operators" = some 0 := by kernel_rfl
theorem gOpsT : (Tryd.prog.globals[0]?).map (·.type) = some 86 := by kernel_rfl
theorem cells80 : Tryd.prog.cellsOf 80 = 4 := by kernel_rfl
theorem cells9 : Tryd.prog.cellsOf 9 = 1 := by kernel_rfl
theorem cells3 : Tryd.prog.cellsOf 3 = 1 := by kernel_rfl
def opD (a : Parse.Bs × Int × Int × Nat) : DataW Unit := .agg [.lit (.string a.1), .lit (.int .i64 a.2.1), .lit (.int .i64 a.2.2.1), .lit (.int .i64 (a.2.2.2 : Int))]
theorem ops_data : (Rows.laid_switchback_parse_operators : DataW Unit) = .agg (Parse.opL.map opD) := by kernel_rfl
theorem str_of_trod {w : World} {base : Nat} {sp : Nat → Bool} {held : Bool} {fuel : Nat} {c : Value} {b : Parse.Bs} {p : List MemPlace} (h : DataW.trod (fun _ => ()) Tryd.prog w base sp held fuel 9 [c] = some ((.lit (.string b) : DataW Unit), p)) : c = .string ⟨b.toArray⟩ := by
  cases fuel with
  | zero => simp [DataW.trod] at h
  | succ fuel =>
    cases c <;> simp [DataW.trod, Tryd.underlying9] at h
    rename_i s
    obtain ⟨_, rfl, _⟩ := h
    rfl
theorem int_of_trod {w : World} {base : Nat} {sp : Nat → Bool} {held : Bool} {fuel : Nat} {c : Value} {n : Int} {p : List MemPlace} (h : DataW.trod (fun _ => ()) Tryd.prog w base sp held fuel 3 [c] = some ((.lit (.int .i64 n) : DataW Unit), p)) : c = .int .i64 n := by
  cases fuel with
  | zero => simp [DataW.trod] at h
  | succ fuel =>
    cases c <;> simp [DataW.trod, Tryd.underlying3] at h
    rename_i k' m
    obtain ⟨⟨rfl, _⟩, rfl, _⟩ := h
    rfl
theorem op_of_trod {w : World} {base : Nat} {sp : Nat → Bool} {held : Bool} {m : Nat} {cs : List Value} {a : Parse.Bs × Int × Int × Nat} {p : List MemPlace} (h : DataW.trod (fun _ => ()) Tryd.prog w base sp held m 80 cs = some (opD a, p)) : cs = Parse.opRow a := by
  obtain ⟨xs, n, _, hx, hl, hlen, hf⟩ := DataW.trod_struct Tryd.underlying80 h
  rw [cells80] at hl
  obtain ⟨c0, c1, c2, c3, rfl⟩ : ∃ c0 c1 c2 c3, cs = [c0, c1, c2, c3] := by
    match cs, hl with
    | [a, b, c, d], _ => exact ⟨a, b, c, d, rfl⟩
  obtain ⟨⟨y0, p0⟩, ⟨y1, p1⟩, ⟨y2, p2⟩, ⟨y3, p3⟩, rfl⟩ : ∃ y0 y1 y2 y3, xs = [y0, y1, y2, y3] := by
    match xs, hlen with
    | [a, b, c, d], _ => exact ⟨a, b, c, d, rfl⟩
  have e0 : DataW.trod (fun _ => ()) Tryd.prog w base sp held n 9 ((([c0, c1, c2, c3] : List Value).drop 0).take (Tryd.prog.cellsOf 9)) = some (y0, p0) := hf 0 _ rfl
  have e1 : DataW.trod (fun _ => ()) Tryd.prog w base sp held n 3 ((([c0, c1, c2, c3] : List Value).drop 1).take (Tryd.prog.cellsOf 3)) = some (y1, p1) := hf 1 _ rfl
  have e2 : DataW.trod (fun _ => ()) Tryd.prog w base sp held n 3 ((([c0, c1, c2, c3] : List Value).drop 2).take (Tryd.prog.cellsOf 3)) = some (y2, p2) := hf 2 _ rfl
  have e3 : DataW.trod (fun _ => ()) Tryd.prog w base sp held n 3 ((([c0, c1, c2, c3] : List Value).drop 3).take (Tryd.prog.cellsOf 3)) = some (y3, p3) := hf 3 _ rfl
  rw [cells9] at e0
  rw [cells3] at e1 e2 e3
  simp only [opD, Prod.mk.injEq, DataW.agg.injEq, List.map_cons, List.map_nil, List.cons.injEq, and_true] at hx
  obtain ⟨⟨rfl, rfl, rfl, rfl⟩, _⟩ := hx
  have f0 := str_of_trod (c := c0) e0
  have f1 := int_of_trod (c := c1) e1
  have f2 := int_of_trod (c := c2) e2
  have f3 := int_of_trod (c := c3) e3
  subst f0 f1 f2 f3
  rfl
theorem chunks {α : Type} {f : α → List Value} (_hf : ∀ a, (f a).length = 4) : ∀ (L : List α) (cs : List Value), cs.length = L.length * 4 → (∀ i a, L[i]? = some a → (cs.drop (i * 4)).take 4 = f a) → cs = L.flatMap f := by
  intro L
  induction L with
  | nil => intro cs h _; simpa using List.eq_nil_of_length_eq_zero (by simpa using h)
  | cons a L ih =>
    intro cs h hr
    have h0 := hr 0 a rfl
    simp only [Nat.zero_mul, List.drop_zero] at h0
    have h1 := ih (cs.drop 4) (by rw [List.length_drop, h, List.length_cons]; omega) (fun i b hb => by
      rw [List.drop_drop, show 4 + i * 4 = (i + 1) * 4 by omega]
      exact hr (i + 1) b (by simpa using hb))
    rw [List.flatMap_cons, ← h0, ← h1, List.take_append_drop]
theorem ops_of {W : World} (hL0 : laidMetH Tryd.prog laidAll W) : Parse.OpsAt W := by
  rw [MakeChecks.laidMetH_plain _ _ _ (by kernel_rfl)] at hL0
  obtain ⟨ps, ⟨g, t, cs, fuel, p, q, hg, ht, hvar, hd, _, _⟩, _⟩ := hL0
  obtain rfl : g = 0 := Option.some.inj (hg.symm.trans gOps)
  obtain rfl : t = 86 := Option.some.inj (ht.symm.trans gOpsT)
  rw [ops_data] at hd
  obtain ⟨xs, m, _, hx, hl, hlen, hf⟩ := DataW.trod_array Tryd.underlying86 hd
  have hmap : Parse.opL.map opD = xs.map (·.1) := by
    have := congrArg Prod.fst hx
    simpa using this
  have hcells : cs.toList = Parse.opL.flatMap Parse.opRow := by
    refine chunks (fun _ => rfl) _ _ (by rw [hl]; kernel_rfl) (fun i a ha => ?_)
    have hi : i < 18 := by
      have := (List.getElem?_eq_some_iff.1 ha).1
      exact Nat.lt_of_lt_of_le this (by decide)
    have h1 := hf i hi
    rw [cells80] at h1
    have h2 : (xs.map (·.1))[i]? = some (opD a) := by rw [← hmap, List.getElem?_map, ha]; rfl
    rw [List.getElem?_map] at h2
    obtain ⟨⟨y, py⟩, hy, hy2⟩ := Option.map_eq_some_iff.1 h2
    simp only at hy2
    subst hy2
    rw [hy] at h1
    exact op_of_trod h1
  unfold World.var? at hvar
  rw [gOps] at hvar
  simp only [Option.bind_some] at hvar
  split at hvar
  · rename_i cs' t fr hh
    cases hvar
    refine ⟨t, fr, ?_⟩
    rw [hh]
    have : cs = Parse.opCells := by
      unfold Parse.opCells
      rw [← hcells]
    rw [this]
  · cases hvar

/-- A world for the witness. -/
noncomputable def laidWorld (os : Os) : World := World.laidAll Tryd.prog os laidAll
theorem laid_met (os : Os) (args : Array Value) : laidMetH Tryd.prog laidAll ((laidWorld os).forCall (fun _ _ => 0) ⟨#[], args, []⟩).memory := by
  rw [MakeChecks.laidMetH_plain _ _ _ (by kernel_rfl)]
  exact laidMet_laidAll _ (by kernel_rfl) (by kernel_rfl)
end Go.Proofs.YteggenldmkbhiaaDoor
