/- list[Graph] of what lies; after k graphs. -/
import Derived.Test.YtacbfjinellonaaKh
namespace Go.Proofs.Ytacbfjinellonaa.Graph
open Go.RowKit

theorem grR_cell {w : World} {b o : Nat} {x : PGr} {vp va vb : Value} (h : GrR w b o x vp va vb) : ∀ r, r < 4 → ∃ v, w.cell? ⟨b, o + r, none⟩ = some v ∧ v.oneCell' = true := by
  obtain ⟨pp, pc, rfl⟩ := h.l.params.form
  obtain ⟨ap, ac, rfl⟩ := h.l.arrays.form
  obtain ⟨bp, bc, rfl⟩ := h.l.blocks.form
  intro r hr
  match r, hr with
  | 0, _ => exact ⟨_, h.cp, rfl⟩
  | 1, _ => exact ⟨_, h.temps, rfl⟩
  | 2, _ => exact ⟨_, h.ca, rfl⟩
  | 3, _ => exact ⟨_, h.cb, rfl⟩
theorem GrV.lies {w : World} {b o : Nat} {t : TypeId} {cur : Array Value} {x : PGr} {vp va vb : Value} (h : GrV cur o x vp va vb) (hb : w.heap[b]? = some (.cells cur t (0, 0))) (hl : GrL w vp va vb x) : GrR w b o x vp va vb :=
  ⟨(cell_of_block hb h.cp).1, (cell_of_block hb h.temps).1, (cell_of_block hb h.ca).1, (cell_of_block hb h.cb).1, hl⟩
/-- After k graphs: the new row B holds all of them; the first k with lists of their own, the others with those of before. -/
structure MidG (fs : List PGr) (B : Nat) (S : Nat → Prop) (w0 wr : World) (k : Nat) : Prop where
  grown : w0.grownBy wr (some B)
  row : ∃ cur t, wr.heap[B]? = some (.cells cur t (0, 0)) ∧ ∀ i x, fs[i]? = some x → ∃ vp va vb, GrV cur (i * 4) x vp va vb ∧
    (i < k → GrL (cutW (New (B + 1) wr) wr) vp va vb x) ∧ (k ≤ i → GrL (cutW S wr) vp va vb x)
theorem MidG.step {fs : List PGr} {B : Nat} {S : Nat → Prop} {w0 wr wa : World} {k : Nat} {x : PGr} {cur : Array Value} {t : TypeId} (hS : ¬ S B) (h : MidG fs B S w0 wr k) (hb : wr.heap[B]? = some (.cells cur t (0, 0))) (hx : fs[k]? = some x) (hc : CopiedF B (k * 4) x cur t wr wa) : MidG fs B S w0 wa (k + 1) := by
  obtain ⟨g, u0, u2, u3, h1, h2⟩ := hc
  obtain ⟨cur', t', hb', hins⟩ := h.row
  rw [hb] at hb'
  injection hb' with hb'
  injection hb' with e1 e2
  subst e1 e2
  have oth : ∀ b, b < wr.heap.size → b ≠ B → wa.heap[b]? = wr.heap[b]? := fun b hb hne => g.block b hb (fun e => hne (by injection e))
  have toNew : Holds2 (cutW (New (B + 1) wr) wr) (cutW (New (B + 1) wa) wa) := cut_to g.size fun b hb ⟨h1, h2⟩ => ⟨⟨h1, unf_keep h2 (oth b hb (by omega))⟩, oth b hb (by omega)⟩
  have toOld : Holds2 (cutW S wr) (cutW S wa) := cut_to g.size fun b hb h1 => ⟨h1, oth b hb (fun e => hS (e ▸ h1))⟩
  have hBr := lt_of_block hb
  have f1 : Holds2 (cutW (New wr.heap.size wa) wa) (cutW (New (B + 1) wa) wa) := new_more wa (by omega)
  refine ⟨grown_trans h.grown g, _, _, h1, fun i y hy => ?_⟩
  by_cases hik : i = k
  · subst hik
    rw [hx] at hy
    injection hy with hy
    subst hy
    obtain ⟨vp, va, vb, hv, _, _⟩ := hins i x hx
    exact ⟨u0, u2, u3, hv.set, fun _ => GrL.holds f1 h2, fun hh => by omega⟩
  · obtain ⟨vp, va, vb, hv, hn, ho⟩ := hins i y hy
    exact ⟨vp, va, vb, hv.other (by omega), fun hh => GrL.holds toNew (hn (by omega)), fun hh => GrL.holds toOld (ho (by omega))⟩
theorem MidG.done {fs : List PGr} {B : Nat} {S : Nat → Prop} {w0 wr : World} (h : MidG fs B S w0 wr fs.length) (h0 : 0 < fs.length) (hn : fs.length ≤ 9223372036854775807) : GrsR (cutW (New B wr) wr) (.slice (some ⟨B, 0, none⟩) fs.length fs.length) fs := by
  obtain ⟨cur, t, hb, hins⟩ := h.row
  refine .inr ⟨B, 0, fs.length, rfl, h0, ⟨Nat.le_refl _, hn⟩, by rw [cutW_size]; exact lt_of_block hb, fun i hi x hx => ?_⟩
  obtain ⟨vp, va, vb, hv, hnew, _⟩ := hins i x hx
  have h1 := hnew hi
  have hw := hv.lies hb (GrL.holds (cut_out _ _) h1)
  have hin : ∀ (o : Nat) (v : Value), wr.cell? ⟨B, o, none⟩ = some v → (cutW (New B wr) wr).cell? ⟨B, o, none⟩ = some v := fun o v hv => cutW_cell.2 ⟨⟨Nat.le_refl _, _, _, hb⟩, hv⟩
  rw [Nat.zero_add]
  exact ⟨vp, va, vb, hin _ _ hw.cp, hin _ _ hw.temps, hin _ _ hw.ca, hin _ _ hw.cb, GrL.holds (new_more wr (by omega)) h1⟩
theorem MidG.start {fs : List PGr} {B g o : Nat} {S : Nat → Prop} {w2 : World} {v : Value} (h : MidG fs B S w2 w2 0) (hg : g ≠ B) (hS : ¬ S g) : MidG fs B S (w2.setCell ⟨g, o, none⟩ v) (w2.setCell ⟨g, o, none⟩ v) 0 := by
  have oth : ∀ b, b ≠ g → (w2.setCell ⟨g, o, none⟩ v).heap[b]? = w2.heap[b]? := fun b hne => heap_setCell_other w2 ⟨g, o, none⟩ b v (fun e => hne e)
  have toOld : Holds2 (cutW S w2) (cutW S (w2.setCell ⟨g, o, none⟩ v)) := cut_to (by simp) fun b hb h1 => ⟨h1, oth b (fun e => hS (e ▸ h1))⟩
  obtain ⟨cur, t, hb, hins⟩ := h.row
  refine ⟨World.grownBy.refl _ _, cur, t, (oth B (fun e => hg e.symm)).trans hb, fun i x hx => ?_⟩
  obtain ⟨vp, va, vb, h1, _, h3⟩ := hins i x hx
  exact ⟨vp, va, vb, h1, fun hh => by omega, fun hh => GrL.holds toOld (h3 hh)⟩
def CopiedGs (S : Nat → Prop) (l : List PGr) (w : World) (e : Ending) (w' : World) : Prop :=
  (l.length = 0 ∧ ∃ q d, e = .returned (.slice q 0 d) ∧ Below w.heap.size w w') ∨ (0 < l.length ∧ e = .returned (.slice (some ⟨w.heap.size, 0, none⟩) l.length l.length) ∧ Below w.heap.size w w' ∧ w.heap.size < w'.heap.size ∧ MidG l w.heap.size (fun b => S b ∧ b < w.heap.size) w' w' 0)
theorem copyGs_any (S : Nat → Prop) (l : List PGr) (p : Option Addr) (c : Nat) (w : World) (h : GrsR (cutW S w) (.slice p l.length c) l) (hb : l.length * 80 ≤ reachBytes) :
    Calls Try.prog 42 #[.slice p l.length c] w (CopiedGs S l w) := by
  unfold reachBytes at hb
  rcases Nat.eq_zero_or_pos l.length with h0 | h0
  · rw [h0]
    refine (listG_any p 0 c [] w (fun _ => rfl) rfl (fun _ _ _ _ h => by cases h) (fun _ h => by cases h) (by omega) (by omega)).mono fun e w' hp => ?_
    obtain ⟨q, rfl, h1⟩ := post_below hp (fun _ => rfl)
    exact .inl ⟨h0, q, 0, rfl, h1⟩
  · obtain ⟨b, o, c', hv, hcap, hgl, hc⟩ := SlR.form2 h h0
    injection hv with hv
    subst hv
    have hall : ∀ j, j < l.length * 4 → ∃ v, w.cell? ⟨b, o + j, none⟩ = some v ∧ v.oneCell' = true := fun j hj => by
      have hi : j / 4 < l.length := by omega
      obtain ⟨vp, va, vb, h1⟩ := hc (j / 4) hi l[j / 4] (List.getElem?_eq_getElem hi)
      obtain ⟨v, h2, h3⟩ := grR_cell (GrR.holds (cut_out _ _) h1) (j % 4) (by omega)
      refine ⟨v, ?_, h3⟩
      rw [← h2]
      congr 2
      omega
    obtain ⟨hg1, hg2⟩ := cellsAt_of hall
    refine (listG_any (some ⟨b, o, none⟩) l.length c (cellsAt w b o (l.length * 4)) w (fun h => by cases h) (cellsAt_len _ _ _ _) (fun a ha j v hj => by injection ha with ha; subst ha; rw [add_none]; exact hg1 j v hj) hg2 (by omega) (by omega)).mono fun e w' hp => ?_
    rcases hp with ⟨hp, _⟩ | ⟨_, rfl, rfl⟩
    · cases hp
    · have hbl := below_alloc w (.cells (cellsAt w b o (l.length * 4)).toArray 37)
      have hnew := heap_new w (.cells (cellsAt w b o (l.length * 4)).toArray 37)
      refine .inr ⟨h0, rfl, hbl, by rw [World.size_alloc]; omega, World.grownBy.refl _ _, _, _, hnew, fun i x hx => ?_⟩
      have hi : i < l.length := by
        rcases Nat.lt_or_ge i l.length with h | h
        · exact h
        · rw [List.getElem?_eq_none h] at hx; cases hx
      obtain ⟨vp, va, vb, h1c⟩ := hc i hi x hx
      have h1 := GrR.holds (cut_out _ _) h1c
      have cp : ∀ r v, r < 4 → w.cell? ⟨b, o + i * 4 + r, none⟩ = some v → (cellsAt w b o (l.length * 4)).toArray[i * 4 + r]? = some v := fun r v hr hcell => by
        have h4 := cellsAt_is (w := w) (b := b) (o := o) (n := l.length * 4) (j := i * 4 + r) (by omega) (by rw [← Nat.add_assoc]; exact hcell)
        simpa using h4
      exact ⟨vp, va, vb, ⟨cp 0 _ (by omega) h1.cp, cp 1 _ (by omega) h1.temps, cp 2 _ (by omega) h1.ca, cp 3 _ (by omega) h1.cb⟩, fun hh => by omega, fun _ => GrL.holds (old_cut hbl) h1c.l⟩
end Go.Proofs.Ytacbfjinellonaa.Graph
