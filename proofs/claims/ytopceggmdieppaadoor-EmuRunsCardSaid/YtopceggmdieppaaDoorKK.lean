/- What every row of the seat of layer enc gives a walk: the table of forms lies as the program lays it; and a world for the witness. -/
import Derived.Test.YtopceggmdieppaaDoorGB
import Derived.Test.YtopceggmdieppaaDoorCards
import Derived.Test.YtopceggmdieppaaDoorTie
import Derived.ProofKit
import Derived.OpenShut
import Derived.LaidMore
import Derived.Lay
import Derived.SevenTiedAt
import Derived.Deep.DeepHandedRow
import Derived.Deep.DeepWitnessRowRef
import Derived.Test.YtopceggmdieppaaDoorProg
import Derived.SizedLaws
import Derived.Test.YtopceggmdieppaaDoorGK
import Derived.Lib.SmallJoins
namespace Go.Proofs.YtopceggmdieppaaDoor
open Go.ChangeShapes Go.WideShapes Go.ChangeAt Go.RowKit

theorem own : ownKnob Tryd.prog.godebug = none := by kernel_rfl
/-- The list that every row of this seat bears. -/
def laidAll : List (String × DataW Unit) := [("switchback/enc.forms", Rows.laid_switchback_enc_forms)]
theorem gForms : Tryd.prog.globalNamed "switchback/enc.forms" = some 0 := by kernel_rfl
theorem gFormsT : (Tryd.prog.globals[0]?).map (·.type) = some 162 := by kernel_rfl
theorem cellsInt : Tryd.prog.cellsOf 3 = 1 := by kernel_rfl
theorem forms_data : (Rows.laid_switchback_enc_forms : DataW Unit) = .agg (Enc.formL.map fun n => .lit (.int .i64 n)) := by kernel_rfl
theorem int_of_trod {w : World} {base : Nat} {sp : Nat → Bool} {held : Bool} {fuel : Nat} {c : Value} {n : Int} {p : List MemPlace} (h : DataW.trod (fun _ => ()) Tryd.prog w base sp held fuel 3 [c] = some ((.lit (.int .i64 n) : DataW Unit), p)) : c = .int .i64 n := by
  cases fuel with
  | zero => simp [DataW.trod] at h
  | succ fuel =>
    cases c <;> simp [DataW.trod, Tryd.underlying3] at h
    rename_i k' m
    obtain ⟨⟨rfl, _⟩, rfl, _⟩ := h
    rfl
theorem chunks1 {α : Type} {f : α → Value} : ∀ (L : List α) (cs : List Value), cs.length = L.length → (∀ (i : Nat) (a : α), L[i]? = some a → cs[i]? = some (f a)) → cs = L.map f := by
  intro L cs hl h
  refine List.ext_getElem? fun i => ?_
  rw [List.getElem?_map]
  cases ha : L[i]? with
  | none =>
    have : L.length ≤ i := List.getElem?_eq_none_iff.1 ha
    rw [List.getElem?_eq_none (by omega)]; rfl
  | some a => exact h i a ha
theorem forms_of {W : World} (hL0 : laidMetH Tryd.prog laidAll W) : Enc.FormsAt W := by
  rw [MakeChecks.laidMetH_plain _ _ _ (by kernel_rfl)] at hL0
  obtain ⟨ps, ⟨g, t, cs, fuel, p, q, hg, ht, hvar, hd, _, _⟩, _⟩ := hL0
  obtain rfl : g = 0 := Option.some.inj (hg.symm.trans gForms)
  obtain rfl : t = 162 := Option.some.inj (ht.symm.trans gFormsT)
  rw [forms_data] at hd
  obtain ⟨xs, m, _, hx, hl, hlen, hf⟩ := DataW.trod_array Tryd.underlying162 hd
  have hmap : Enc.formL.map (fun n => (.lit (.int .i64 n) : DataW Unit)) = xs.map (·.1) := by
    have := congrArg Prod.fst hx
    simpa using this
  have hcells : cs.toList = Enc.formL.map fun n => Value.int .i64 n := by
    refine chunks1 _ _ (by rw [hl]; kernel_rfl) (fun i a ha => ?_)
    have hi : i < 49 := by
      have := (List.getElem?_eq_some_iff.1 ha).1
      exact Nat.lt_of_lt_of_le this (by decide)
    have h1 := hf i hi
    rw [cellsInt] at h1
    have h2 : (xs.map (·.1))[i]? = some (.lit (.int .i64 a)) := by rw [← hmap, List.getElem?_map, ha]; rfl
    rw [List.getElem?_map] at h2
    obtain ⟨⟨y, py⟩, hy, hy2⟩ := Option.map_eq_some_iff.1 h2
    simp only at hy2
    subst hy2
    rw [hy] at h1
    have hlc : i < cs.toList.length := by rw [hl]; exact Nat.lt_of_lt_of_le hi (by decide +kernel)
    rw [Nat.mul_one, List.drop_eq_getElem_cons hlc, List.take_succ_cons, List.take_zero] at h1
    rw [List.getElem?_eq_getElem hlc, int_of_trod h1]
  unfold World.var? at hvar
  rw [gForms] at hvar
  simp only [Option.bind_some] at hvar
  split at hvar
  · rename_i cs' t fr hh
    cases hvar
    refine ⟨t, fr, ?_⟩
    rw [hh]
    have : cs = Enc.formCells := by
      unfold Enc.formCells
      rw [← hcells]
    rw [this]
  · cases hvar

/-- A world for the witness. -/
noncomputable def laidWorld (os : Os) : World := World.laidAll Tryd.prog os laidAll
theorem laid_met (os : Os) (args : Array Value) : laidMetH Tryd.prog laidAll ((laidWorld os).forCall (fun _ _ => 0) ⟨#[], args, []⟩).memory := by
  rw [MakeChecks.laidMetH_plain _ _ _ (by kernel_rfl)]
  exact laidMet_laidAll _ (by kernel_rfl) (by kernel_rfl)
end Go.Proofs.YtopceggmdieppaaDoor
namespace Go.Proofs.YtopceggmdieppaaDoor.Graph
open Go.RowKit Go.ChangeShapes

theorem choose_list {α : Type} : ∀ {n : Nat} {R : Nat → α → Prop}, (∀ i, i < n → ∃ x, R i x) → ∃ l : List α, l.length = n ∧ ∀ i x, l[i]? = some x → R i x := by
  intro n
  induction n with
  | zero => intro R _; exact ⟨[], rfl, fun i x h => by simp at h⟩
  | succ n ih =>
    intro R h
    obtain ⟨l, h1, h2⟩ := ih (R := R) (fun i hi => h i (by omega))
    obtain ⟨x, hx⟩ := h n (by omega)
    refine ⟨l ++ [x], by simp [h1], fun i y hy => ?_⟩
    rcases Nat.lt_or_ge i l.length with h3 | h3
    · rw [List.getElem?_append_left h3] at hy; exact h2 i y hy
    · rw [List.getElem?_append_right h3] at hy
      have h4 : i - l.length = 0 := by
        rcases Nat.eq_zero_or_pos (i - l.length) with h | h
        · exact h
        · rw [List.getElem?_eq_none (by simp; omega)] at hy; cases hy
      rw [h4] at hy
      simp at hy
      subst hy
      have : i = n := by omega
      subst this
      exact hx
/-- Nothing that a datum holds weighs more than there may be. -/
def Wt {H : Type} (t : TypeId) (d : DataW H) : Prop := ∀ n ∈ DataW.weights Tryd.prog t d, n ≤ reachBytes
theorem wt_part {H : Type} {t : TypeId} {fs : Array Field} (hu : Tryd.prog.underlying t = some (.struct fs)) {parts : List (DataW H)} (hw : Wt t (.agg parts)) {j : Nat} {ti : TypeId} {d : DataW H} (ht : (fs.toList.map (·.type))[j]? = some ti) (hd : parts[j]? = some d) : Wt ti d := fun n hn =>
  hw n (by simp only [DataW.weights, hu]; exact DataW.weights_mem_each ht hd n hn)
theorem mem_all {H : Type} {e : TypeId} : ∀ {l : List (DataW H)} {d : DataW H}, d ∈ l → ∀ n ∈ d.weights Tryd.prog e, n ∈ DataW.weightsAll Tryd.prog e l
  | _ :: _, _, .head _, n, hn => by simp only [DataW.weightsAll, List.mem_append]; exact .inl hn
  | _ :: _, _, .tail _ h, n, hn => by simp only [DataW.weightsAll, List.mem_append]; exact .inr (mem_all h n hn)
section
variable {H : Type} {enc : TypeId × Value → H} {w : World} {base : Nat} {sp : Nat → Bool} {held : Bool} {fuel : Nat} {cs : List Value} {y : DataW H × List MemPlace}

theorem mapM_cells {a : Addr} {n : Nat} {ecs : List Value} (h : (List.range n).mapM (fun i => w.cell? (a.add i)) = some ecs) : ecs.length = n ∧ ∀ j, j < n → w.cell? (a.add j) = ecs[j]? := by
  refine ⟨by simpa using mapM_some_length h, fun j hj => ?_⟩
  exact mapM_some_get h j j (by simp [hj])
/-- A slice, opened. -/
theorem open_sl {t e : TypeId} {sz by_ : Nat} (ht : Tryd.prog.underlying t = some (.slice e)) (hc : Tryd.prog.cellsOf e = sz) (hby : Tryd.prog.bytesOf e = by_) (hsz : 0 < sz) (h : DataW.trod enc Tryd.prog w base sp held fuel t cs = some y) (hw : Wt t y.1) :
    ∃ v n, cs = [v] ∧ (SlR w sz v n fun _ b o => ∃ ecs : List Value, ecs.length = sz ∧ (∀ j, j < sz → w.cell? ⟨b, o + j, none⟩ = ecs[j]?) ∧ ∃ m z, DataW.trod enc Tryd.prog w base sp held m e ecs = some z ∧ Wt e z.1) ∧ n * by_ ≤ reachBytes := by
  rcases DataW.trod_slice ht h with ⟨rfl, _⟩ | ⟨a, len, cap, elems, rest, m, _, rfl, rfl, _, hlc, hcm, hel, hat, _⟩
  · exact ⟨_, 0, rfl, .inl ⟨rfl, none, 0, rfl⟩, by simp⟩
  · have hwl : ∀ z ∈ elems, Wt e z.1 := fun z hz n hn => hw n (by
      simp only [DataW.weights, ht]
      exact List.mem_cons_of_mem _ (List.mem_append_left _ (mem_all (List.mem_map_of_mem hz) n hn)))
    have hw0 : len * by_ ≤ reachBytes := by
      have h0 := hw (((elems.map (·.1)).length + (rest.map (·.1)).length) * Tryd.prog.bytesOf e) (by simp only [DataW.weights, ht]; exact List.mem_cons_self)
      rw [hby, List.length_map, hel] at h0
      exact Nat.le_trans (Nat.mul_le_mul_right _ (Nat.le_add_right _ _)) h0
    refine ⟨_, len, rfl, ?_, hw0⟩
    rcases Nat.eq_zero_or_pos len with h0 | h0
    · subst h0; exact .inl ⟨rfl, some a, cap, rfl⟩
    · have hone : ∀ i, i < len → ∃ ecs : List Value, ecs.length = sz ∧ (∀ j, j < sz → w.cell? ((a.add (i * sz)).add j) = ecs[j]?) ∧ ∃ z, DataW.trod enc Tryd.prog w base sp held m e ecs = some z ∧ Wt e z.1 := by
        intro i hi
        have h1 := hat i hi
        rw [hc, List.getElem?_eq_getElem (by omega)] at h1
        obtain ⟨ecs, h2, h3⟩ := Option.bind_eq_some_iff.1 h1
        unfold World.cells? at h2
        split at h2
        · obtain ⟨h4, h5⟩ := mapM_cells h2
          exact ⟨ecs, h4, h5, _, h3, hwl _ (List.getElem_mem _)⟩
        · cases h2
      obtain ⟨b, off, spot⟩ := a
      obtain ⟨e0, h4, h5, _⟩ := hone 0 h0
      have h6 := h5 0 hsz
      rw [List.getElem?_eq_getElem (by omega)] at h6
      have hspot : spot = none := by simpa [Addr.add] using World.cell?_spot h6
      subst hspot
      have hlt : b < w.heap.size := by
        have := World.block_lt_of_cell? w _ h6
        simpa [Addr.add] using this
      refine .inr ⟨b, off, cap, rfl, h0, ⟨hlc, hcm⟩, hlt, fun i hi => ?_⟩
      obtain ⟨ecs, h7, h8, z, h9⟩ := hone i hi
      refine ⟨ecs, h7, fun j hj => ?_, m, z, h9⟩
      have := h8 j hj
      rw [Go.WideShapes.add_plain, Go.WideShapes.add_plain] at this
      exact this
theorem cells_i64 : Tryd.prog.cellsOf 3 = 1 := by kernel_rfl
theorem cells_u32 : Tryd.prog.cellsOf 37 = 1 := by kernel_rfl
theorem int_of {c : Value} (h : DataW.trod enc Tryd.prog w base sp held fuel 3 [c] = some y) : ∃ x, c = .int .i64 x := by
  cases fuel with
  | zero => simp [DataW.trod] at h
  | succ fuel =>
    cases c <;> simp [DataW.trod, Tryd.underlying3] at h
    obtain ⟨⟨rfl, _⟩, _⟩ := h
    exact ⟨_, rfl⟩
theorem u32_of {c : Value} (h : DataW.trod enc Tryd.prog w base sp held fuel 37 [c] = some y) : ∃ x, c = .int .u32 x ∧ (0 ≤ x ∧ x ≤ 4294967295) := by
  cases fuel with
  | zero => simp [DataW.trod] at h
  | succ fuel =>
    cases c <;> simp [DataW.trod, Tryd.underlying37] at h
    obtain ⟨⟨rfl, h1⟩, _⟩ := h
    exact ⟨_, rfl, bounds_u32 h1⟩
theorem ints_of (h : DataW.trod enc Tryd.prog w base sp held fuel 25 cs = some y) (hw : Wt 25 y.1) : ∃ v l, cs = [v] ∧ IntsR w v l ∧ l.length * 8 ≤ reachBytes := by
  obtain ⟨v, n, rfl, hs, hby⟩ := open_sl Tryd.underlying25 cells_i64 (by kernel_rfl : Tryd.prog.bytesOf 3 = 8) (by decide) h hw
  rcases hs with ⟨rfl, p, c, rfl⟩ | ⟨b, o, c, rfl, h1, h2, h3, h4⟩
  · exact ⟨_, [], rfl, .inl ⟨rfl, p, c, rfl⟩, by simp⟩
  · obtain ⟨l, hl, hr⟩ := choose_list (R := fun i (x : Int) => w.cell? ⟨b, o + i * 1, none⟩ = some (.int .i64 x)) (n := n) (fun i hi => by
      obtain ⟨ecs, g1, g2, m, z, g3, _⟩ := h4 i hi
      match ecs, g1 with
      | [c0], _ =>
        obtain ⟨x, rfl⟩ := int_of g3
        exact ⟨x, by simpa using g2 0 (by omega)⟩)
    exact ⟨_, l, rfl, .inr ⟨b, o, c, by rw [hl], by omega, by omega, h3, fun i _ x hx => hr i x hx⟩, by rw [hl]; exact hby⟩
theorem words_of (h : DataW.trod enc Tryd.prog w base sp held fuel 24 cs = some y) (hw : Wt 24 y.1) : ∃ v l, cs = [v] ∧ WordsR w v l ∧ l.length * 4 ≤ reachBytes := by
  obtain ⟨v, n, rfl, hs, hby⟩ := open_sl Tryd.underlying24 cells_u32 (by kernel_rfl : Tryd.prog.bytesOf 37 = 4) (by decide) h hw
  rcases hs with ⟨rfl, p, c, rfl⟩ | ⟨b, o, c, rfl, h1, h2, h3, h4⟩
  · exact ⟨_, [], rfl, .inl ⟨rfl, p, c, rfl⟩, by simp⟩
  · obtain ⟨l, hl, hr⟩ := choose_list (R := fun i (x : Int) => w.cell? ⟨b, o + i * 1, none⟩ = some (.int .u32 x)) (n := n) (fun i hi => by
      obtain ⟨ecs, g1, g2, m, z, g3, _⟩ := h4 i hi
      match ecs, g1 with
      | [c0], _ =>
        obtain ⟨x, rfl, _⟩ := u32_of g3
        exact ⟨x, by simpa using g2 0 (by omega)⟩)
    exact ⟨_, l, rfl, .inr ⟨b, o, c, by rw [hl], by omega, by omega, h3, fun i _ x hx => hr i x hx⟩, by rw [hl]; exact hby⟩
theorem cells_ints : Tryd.prog.cellsOf 25 = 1 := by kernel_rfl
theorem cells_words : Tryd.prog.cellsOf 24 = 1 := by kernel_rfl
end
end Go.Proofs.YtopceggmdieppaaDoor.Graph
namespace Go.Proofs.YtopceggmdieppaaDoor.Emu
open Go.RowKit Go.ChangeShapes Go.WideShapes Go.ChangeAt Go.Proofs.YtopceggmdieppaaDoor.Graph Go.Proofs.YtopceggmdieppaaDoor.Enc Go.Joins

set_option maxRecDepth 1000000 in
theorem laidOut : laidOutB Tryd.prog = true := by kernel_rfl
set_option maxRecDepth 1000000 in
theorem wt_at {H : Type} {ts : List TypeId} {ds : List (DataW H)} (h : (DataW.weightsEach Tryd.prog ts ds).all (· ≤ reachBytes) = true) {j : Nat} {t : TypeId} {d : DataW H} (ht : ts[j]? = some t) (hd : ds[j]? = some d) : Wt t d := fun n hn => by
  simpa using List.all_eq_true.1 h _ (DataW.weights_mem_each ht hd n hn)
section
variable {H : Type} {enc : TypeId × Value → H} {w : World} {base : Nat} {sp : Nat → Bool} {held : Bool}
set_option maxRecDepth 1000000 in
theorem int_in {fuel : Nat} {c : Value} {y : DataW H × List MemPlace} (h : DataW.trod enc Tryd.prog w base sp held fuel 3 [c] = some y) : ∃ x, c = .int .i64 x ∧ inR x := by
  cases fuel with
  | zero => simp [DataW.trod] at h
  | succ fuel =>
    cases c <;> simp [DataW.trod, Tryd.underlying3] at h
    obtain ⟨⟨rfl, h1⟩, _⟩ := h
    exact ⟨_, rfl, bounds_i64 h1⟩
set_option maxRecDepth 1000000 in
theorem ints_at_ {fuel : Nat} {cs : List Value} {y : DataW H × List MemPlace} (h : DataW.trod enc Tryd.prog w base sp held fuel 25 cs = some y) (hw : Wt 25 y.1) : ∃ v l, cs = [v] ∧ IntsR w v l ∧ l.length * 8 ≤ reachBytes ∧ ∀ x ∈ l, inR x := by
  obtain ⟨v, n, rfl, hs, hby⟩ := open_sl Tryd.underlying25 cells_i64 (by kernel_rfl : Tryd.prog.bytesOf 3 = 8) (by decide) h hw
  rcases hs with ⟨rfl, p, c, rfl⟩ | ⟨b, o, c, rfl, h1, h2, h3, h4⟩
  · exact ⟨_, [], rfl, .inl ⟨rfl, p, c, rfl⟩, by simp, by simp⟩
  · obtain ⟨l, hl, hr⟩ := choose_list (R := fun i (x : Int) => w.cell? ⟨b, o + i * 1, none⟩ = some (.int .i64 x) ∧ inR x) (n := n) (fun i hi => by
      obtain ⟨ecs, g1, g2, m, z, g3, _⟩ := h4 i hi
      match ecs, g1 with
      | [c0], _ =>
        obtain ⟨x, rfl, hx⟩ := int_in g3
        exact ⟨x, by simpa using g2 0 (by omega), hx⟩)
    exact ⟨_, l, rfl, .inr ⟨b, o, c, by rw [hl], by omega, by omega, h3, fun i _ x hx => (hr i x hx).1⟩, by rw [hl]; exact hby, fun x hx => by
      obtain ⟨i, hi⟩ := List.mem_iff_getElem?.1 hx
      exact (hr i x hi).2⟩
set_option maxRecDepth 1000000 in
theorem words_at_ {fuel : Nat} {cs : List Value} {y : DataW H × List MemPlace} (h : DataW.trod enc Tryd.prog w base sp held fuel 24 cs = some y) (hw : Wt 24 y.1) : ∃ v l, cs = [v] ∧ WordsR w v l ∧ l.length * 4 ≤ reachBytes ∧ ∀ x ∈ l, 0 ≤ x ∧ x ≤ 4294967295 := by
  obtain ⟨v, n, rfl, hs, hby⟩ := open_sl Tryd.underlying24 cells_u32 (by kernel_rfl : Tryd.prog.bytesOf 37 = 4) (by decide) h hw
  rcases hs with ⟨rfl, p, c, rfl⟩ | ⟨b, o, c, rfl, h1, h2, h3, h4⟩
  · exact ⟨_, [], rfl, .inl ⟨rfl, p, c, rfl⟩, by simp, by simp⟩
  · obtain ⟨l, hl, hr⟩ := choose_list (R := fun i (x : Int) => w.cell? ⟨b, o + i * 1, none⟩ = some (.int .u32 x) ∧ (0 ≤ x ∧ x ≤ 4294967295)) (n := n) (fun i hi => by
      obtain ⟨ecs, g1, g2, m, z, g3, _⟩ := h4 i hi
      match ecs, g1 with
      | [c0], _ =>
        obtain ⟨x, rfl, hx⟩ := u32_of g3
        exact ⟨x, by simpa using g2 0 (by omega), hx⟩)
    exact ⟨_, l, rfl, .inr ⟨b, o, c, by rw [hl], by omega, by omega, h3, fun i _ x hx => (hr i x hx).1⟩, by rw [hl]; exact hby, fun x hx => by
      obtain ⟨i, hi⟩ := List.mem_iff_getElem?.1 hx
      exact (hr i x hi).2⟩
set_option maxRecDepth 1000000 in
theorem ints_in {r : Reach} {b0 : Nat} {v : Value} {d : DataW H} {p : List MemPlace} (hv : Value.okWide Tryd.prog w r b0 25 v) (h : DataW.Trod enc Tryd.prog w base sp held 25 v d p) (hw : Wt 25 d) :
    ∃ l, IntsR w v l ∧ l.length * 8 ≤ reachBytes ∧ ∀ x ∈ l, inR x := by
  obtain ⟨fuel, hf⟩ := h
  obtain ⟨v', l, hv', hl, hs, hn⟩ := ints_at_ hf hw
  obtain ⟨ap, an, ac, rfl⟩ := okWide_slice Tryd.underlying25 hv
  obtain rfl : (Value.slice ap an ac) = v' := by simpa [Value.cells] using hv'
  exact ⟨l, hl, hs, hn⟩
set_option maxRecDepth 1000000 in
theorem words_in {r : Reach} {b0 : Nat} {v : Value} {d : DataW H} {p : List MemPlace} (hv : Value.okWide Tryd.prog w r b0 24 v) (h : DataW.Trod enc Tryd.prog w base sp held 24 v d p) (hw : Wt 24 d) :
    ∃ l, WordsR w v l ∧ l.length * 4 ≤ reachBytes ∧ ∀ x ∈ l, 0 ≤ x ∧ x ≤ 4294967295 := by
  obtain ⟨fuel, hf⟩ := h
  obtain ⟨v', l, hv', hl, hs, hn⟩ := words_at_ hf hw
  obtain ⟨ap, an, ac, rfl⟩ := okWide_slice Tryd.underlying24 hv
  obtain rfl : (Value.slice ap an ac) = v' := by simpa [Value.cells] using hv'
  exact ⟨l, hl, hs, hn⟩
set_option maxRecDepth 1000000 in
theorem cells_img : Tryd.prog.cellsOf 48 = 4 := by kernel_rfl
set_option maxRecDepth 1000000 in
theorem image_in {r : Reach} {b0 : Nat} {v : Value} {d : DataW H} {p : List MemPlace} (hv : Value.okWide Tryd.prog w r b0 48 v) (h : DataW.Trod enc Tryd.prog w base sp held 48 v d p) (hw : Wt 48 d) :
    ∃ m vw vk vd, v = .agg #[vw, vk, vd, .int .i64 m.entry] ∧ ImgR w m vw vk vd ∧ SmI m := by
  obtain ⟨v0, v1, v2, v3, y0, y1, y2, y3, n, rfl, rfl, rfl, h0, h1, h2, h3⟩ := open_agg4 Tryd.underlying48 (by kernel_rfl) cells_img hv h
  have w0 : Wt 24 y0.1 := wt_part Tryd.underlying48 hw (j := 0) rfl rfl
  have w1 : Wt 25 y1.1 := wt_part Tryd.underlying48 hw (j := 1) rfl rfl
  have w2 : Wt 24 y2.1 := wt_part Tryd.underlying48 hw (j := 2) rfl rfl
  obtain ⟨x0, l0, e0, r0, s0, t0⟩ := words_at_ h0 w0
  obtain ⟨x1, l1, e1, r1, s1, _⟩ := ints_at_ h1 w1
  obtain ⟨x2, l2, e2, r2, s2, t2⟩ := words_at_ h2 w2
  obtain ⟨x3, rfl, r3⟩ := int_in h3
  injection e0 with e0 _
  injection e1 with e1 _
  injection e2 with e2 _
  subst e0 e1 e2
  unfold reachBytes at s0 s1 s2
  exact ⟨⟨l0, l1, l2, x3⟩, _, _, _, rfl, ⟨r0, r1, r2⟩, ⟨t0, t2, r3, by simp only; omega, by simp only; omega, by simp only; omega⟩⟩
end
end Go.Proofs.YtopceggmdieppaaDoor.Emu
