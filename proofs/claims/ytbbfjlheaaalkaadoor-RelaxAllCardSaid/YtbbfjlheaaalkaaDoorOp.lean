/- Lists of numbers that a caller hands over, opened. -/
import Derived.Test.YtbbfjlheaaalkaaDoorMp
import Derived.Test.YtbbfjlheaaalkaaDoorProg
import Derived.OpenShut
import Derived.ProofKit
import Derived.SizedLaws
namespace Go.Proofs.YtbbfjlheaaalkaaDoor.Graph
open Go.RowKit Go.ChangeShapes

theorem choose_list {α : Type} : ∀ {n : Nat} {R : Nat → α → Prop}, (∀ i, i < n → ∃ x, R i x) → ∃ l : List α, l.length = n ∧ ∀ i x, l[i]? = some x → R i x := by
  intro n
  induction n with
  | zero => intro R _; exact ⟨[], rfl, fun i x h => by simp at h⟩
  | succ n ih =>
    intro R h
    obtain ⟨l, h1, h2⟩ := ih (R := R) (fun i hi => h i (by omega))
    obtain ⟨x, hx⟩ := h n (by omega)
    refine ⟨l ++ [x], by simp [h1], fun i y hy => ?_⟩
    rcases Nat.lt_or_ge i l.length with h3 | h3
    · rw [List.getElem?_append_left h3] at hy; exact h2 i y hy
    · rw [List.getElem?_append_right h3] at hy
      have h4 : i - l.length = 0 := by
        rcases Nat.eq_zero_or_pos (i - l.length) with h | h
        · exact h
        · rw [List.getElem?_eq_none (by simp; omega)] at hy; cases hy
      rw [h4] at hy
      simp at hy
      subst hy
      have : i = n := by omega
      subst this
      exact hx
/-- Nothing that a datum holds weighs more than there may be. -/
def Wt {H : Type} (t : TypeId) (d : DataW H) : Prop := ∀ n ∈ DataW.weights Tryd.prog t d, n ≤ reachBytes
theorem wt_part {H : Type} {t : TypeId} {fs : Array Field} (hu : Tryd.prog.underlying t = some (.struct fs)) {parts : List (DataW H)} (hw : Wt t (.agg parts)) {j : Nat} {ti : TypeId} {d : DataW H} (ht : (fs.toList.map (·.type))[j]? = some ti) (hd : parts[j]? = some d) : Wt ti d := fun n hn =>
  hw n (by simp only [DataW.weights, hu]; exact DataW.weights_mem_each ht hd n hn)
theorem mem_all {H : Type} {e : TypeId} : ∀ {l : List (DataW H)} {d : DataW H}, d ∈ l → ∀ n ∈ d.weights Tryd.prog e, n ∈ DataW.weightsAll Tryd.prog e l
  | _ :: _, _, .head _, n, hn => by simp only [DataW.weightsAll, List.mem_append]; exact .inl hn
  | _ :: _, _, .tail _ h, n, hn => by simp only [DataW.weightsAll, List.mem_append]; exact .inr (mem_all h n hn)
section
variable {H : Type} {enc : TypeId × Value → H} {w : World} {base : Nat} {sp : Nat → Bool} {held : Bool} {fuel : Nat} {cs : List Value} {y : DataW H × List MemPlace}

theorem mapM_cells {a : Addr} {n : Nat} {ecs : List Value} (h : (List.range n).mapM (fun i => w.cell? (a.add i)) = some ecs) : ecs.length = n ∧ ∀ j, j < n → w.cell? (a.add j) = ecs[j]? := by
  refine ⟨by simpa using mapM_some_length h, fun j hj => ?_⟩
  exact mapM_some_get h j j (by simp [hj])
/-- A slice, opened. -/
theorem open_sl {t e : TypeId} {sz by_ : Nat} (ht : Tryd.prog.underlying t = some (.slice e)) (hc : Tryd.prog.cellsOf e = sz) (hby : Tryd.prog.bytesOf e = by_) (hsz : 0 < sz) (h : DataW.trod enc Tryd.prog w base sp held fuel t cs = some y) (hw : Wt t y.1) :
    ∃ v n, cs = [v] ∧ (SlR w sz v n fun _ b o => ∃ ecs : List Value, ecs.length = sz ∧ (∀ j, j < sz → w.cell? ⟨b, o + j, none⟩ = ecs[j]?) ∧ ∃ m z, DataW.trod enc Tryd.prog w base sp held m e ecs = some z ∧ Wt e z.1) ∧ n * by_ ≤ reachBytes := by
  rcases DataW.trod_slice ht h with ⟨rfl, _⟩ | ⟨a, len, cap, elems, rest, m, _, rfl, rfl, _, hlc, hcm, hel, hat, _⟩
  · exact ⟨_, 0, rfl, .inl ⟨rfl, none, 0, rfl⟩, by simp⟩
  · have hwl : ∀ z ∈ elems, Wt e z.1 := fun z hz n hn => hw n (by
      simp only [DataW.weights, ht]
      exact List.mem_cons_of_mem _ (List.mem_append_left _ (mem_all (List.mem_map_of_mem hz) n hn)))
    have hw0 : len * by_ ≤ reachBytes := by
      have h0 := hw (((elems.map (·.1)).length + (rest.map (·.1)).length) * Tryd.prog.bytesOf e) (by simp only [DataW.weights, ht]; exact List.mem_cons_self)
      rw [hby, List.length_map, hel] at h0
      exact Nat.le_trans (Nat.mul_le_mul_right _ (Nat.le_add_right _ _)) h0
    refine ⟨_, len, rfl, ?_, hw0⟩
    rcases Nat.eq_zero_or_pos len with h0 | h0
    · subst h0; exact .inl ⟨rfl, some a, cap, rfl⟩
    · have hone : ∀ i, i < len → ∃ ecs : List Value, ecs.length = sz ∧ (∀ j, j < sz → w.cell? ((a.add (i * sz)).add j) = ecs[j]?) ∧ ∃ z, DataW.trod enc Tryd.prog w base sp held m e ecs = some z ∧ Wt e z.1 := by
        intro i hi
        have h1 := hat i hi
        rw [hc, List.getElem?_eq_getElem (by omega)] at h1
        obtain ⟨ecs, h2, h3⟩ := Option.bind_eq_some_iff.1 h1
        unfold World.cells? at h2
        split at h2
        · obtain ⟨h4, h5⟩ := mapM_cells h2
          exact ⟨ecs, h4, h5, _, h3, hwl _ (List.getElem_mem _)⟩
        · cases h2
      obtain ⟨b, off, spot⟩ := a
      obtain ⟨e0, h4, h5, _⟩ := hone 0 h0
      have h6 := h5 0 hsz
      rw [List.getElem?_eq_getElem (by omega)] at h6
      have hspot : spot = none := by simpa [Addr.add] using World.cell?_spot h6
      subst hspot
      have hlt : b < w.heap.size := by
        have := World.block_lt_of_cell? w _ h6
        simpa [Addr.add] using this
      refine .inr ⟨b, off, cap, rfl, h0, ⟨hlc, hcm⟩, hlt, fun i hi => ?_⟩
      obtain ⟨ecs, h7, h8, z, h9⟩ := hone i hi
      refine ⟨ecs, h7, fun j hj => ?_, m, z, h9⟩
      have := h8 j hj
      rw [Go.WideShapes.add_plain, Go.WideShapes.add_plain] at this
      exact this
theorem cells_i64 : Tryd.prog.cellsOf 3 = 1 := by kernel_rfl
theorem cells_u32 : Tryd.prog.cellsOf 37 = 1 := by kernel_rfl
theorem int_of {c : Value} (h : DataW.trod enc Tryd.prog w base sp held fuel 3 [c] = some y) : ∃ x, c = .int .i64 x := by
  cases fuel with
  | zero => simp [DataW.trod] at h
  | succ fuel =>
    cases c <;> simp [DataW.trod, Tryd.underlying3] at h
    obtain ⟨⟨rfl, _⟩, _⟩ := h
    exact ⟨_, rfl⟩
theorem u32_of {c : Value} (h : DataW.trod enc Tryd.prog w base sp held fuel 37 [c] = some y) : ∃ x, c = .int .u32 x ∧ (0 ≤ x ∧ x ≤ 4294967295) := by
  cases fuel with
  | zero => simp [DataW.trod] at h
  | succ fuel =>
    cases c <;> simp [DataW.trod, Tryd.underlying37] at h
    obtain ⟨⟨rfl, h1⟩, _⟩ := h
    exact ⟨_, rfl, bounds_u32 h1⟩
theorem ints_of (h : DataW.trod enc Tryd.prog w base sp held fuel 25 cs = some y) (hw : Wt 25 y.1) : ∃ v l, cs = [v] ∧ IntsR w v l ∧ l.length * 8 ≤ reachBytes := by
  obtain ⟨v, n, rfl, hs, hby⟩ := open_sl Tryd.underlying25 cells_i64 (by kernel_rfl : Tryd.prog.bytesOf 3 = 8) (by decide) h hw
  rcases hs with ⟨rfl, p, c, rfl⟩ | ⟨b, o, c, rfl, h1, h2, h3, h4⟩
  · exact ⟨_, [], rfl, .inl ⟨rfl, p, c, rfl⟩, by simp⟩
  · obtain ⟨l, hl, hr⟩ := choose_list (R := fun i (x : Int) => w.cell? ⟨b, o + i * 1, none⟩ = some (.int .i64 x)) (n := n) (fun i hi => by
      obtain ⟨ecs, g1, g2, m, z, g3, _⟩ := h4 i hi
      match ecs, g1 with
      | [c0], _ =>
        obtain ⟨x, rfl⟩ := int_of g3
        exact ⟨x, by simpa using g2 0 (by omega)⟩)
    exact ⟨_, l, rfl, .inr ⟨b, o, c, by rw [hl], by omega, by omega, h3, fun i _ x hx => hr i x hx⟩, by rw [hl]; exact hby⟩
theorem words_of (h : DataW.trod enc Tryd.prog w base sp held fuel 24 cs = some y) (hw : Wt 24 y.1) : ∃ v l, cs = [v] ∧ WordsR w v l ∧ l.length * 4 ≤ reachBytes := by
  obtain ⟨v, n, rfl, hs, hby⟩ := open_sl Tryd.underlying24 cells_u32 (by kernel_rfl : Tryd.prog.bytesOf 37 = 4) (by decide) h hw
  rcases hs with ⟨rfl, p, c, rfl⟩ | ⟨b, o, c, rfl, h1, h2, h3, h4⟩
  · exact ⟨_, [], rfl, .inl ⟨rfl, p, c, rfl⟩, by simp⟩
  · obtain ⟨l, hl, hr⟩ := choose_list (R := fun i (x : Int) => w.cell? ⟨b, o + i * 1, none⟩ = some (.int .u32 x)) (n := n) (fun i hi => by
      obtain ⟨ecs, g1, g2, m, z, g3, _⟩ := h4 i hi
      match ecs, g1 with
      | [c0], _ =>
        obtain ⟨x, rfl, _⟩ := u32_of g3
        exact ⟨x, by simpa using g2 0 (by omega)⟩)
    exact ⟨_, l, rfl, .inr ⟨b, o, c, by rw [hl], by omega, by omega, h3, fun i _ x hx => hr i x hx⟩, by rw [hl]; exact hby⟩
theorem cells_ints : Tryd.prog.cellsOf 25 = 1 := by kernel_rfl
theorem cells_words : Tryd.prog.cellsOf 24 = 1 := by kernel_rfl
end
end Go.Proofs.YtbbfjlheaaalkaaDoor.Graph
