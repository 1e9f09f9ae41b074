/- Copying a block's instructions, plainly: what holds in the middle of it. -/
import Derived.Test.YtacbfjinellonaaKb
import Derived.Test.YtacbfjinellonaaIg
namespace Go.Proofs.Ytacbfjinellonaa.Graph
open Go.RowKit

theorem old_cut {S : Nat → Prop} {w w' : World} (hb : Below w.heap.size w w') : Holds2 (cutW S w) (cutW (fun b => S b ∧ b < w.heap.size) w') :=
  ⟨by rw [cutW_size, cutW_size]; exact hb.size, fun b o v hc => by
    obtain ⟨hS, hc⟩ := cutW_cell.1 hc
    have hl := World.block_lt_of_cell? w _ hc
    exact cutW_cell.2 ⟨⟨hS, hl⟩, (hb.cell (p := ⟨b, o, none⟩) hl).trans hc⟩⟩
/-- After k instructions: the new row C holds all of them; the first k with lists of their own, the others with those of before. -/
structure Mid (code : List PIns) (C : Nat) (S : Nat → Prop) (w0 wr : World) (k : Nat) : Prop where
  grown : w0.grownBy wr (some C)
  row : Unf wr C
  ins : ∀ i x, code[i]? = some x → ∃ va vr, InsR wr C (i * 8) x va vr ∧ (i < k → InsL (cutW (New (C + 1) wr) wr) va vr x) ∧ (k ≤ i → InsL (cutW S wr) va vr x)
theorem cell_set_ne (w : World) {b o b' o' : Nat} (v : Value) (h : ¬ (b' = b ∧ o' = o)) : (w.setCell ⟨b, o, none⟩ v).cell? ⟨b', o', none⟩ = w.cell? ⟨b', o', none⟩ :=
  World.cell?_setCell_other w _ _ _ (fun e => h (by injection e with e1 e2; exact ⟨e1.symm, e2.symm⟩))
theorem cell_set_same {w : World} {b o : Nat} {u : Value} (v : Value) (h : w.cell? ⟨b, o, none⟩ = some u) : (w.setCell ⟨b, o, none⟩ v).cell? ⟨b, o, none⟩ = some v :=
  World.cell?_setCell_same w _ _ h
theorem unf_keep {w w' : World} {b : Nat} (h : Unf w b) (he : w'.heap[b]? = w.heap[b]?) : Unf w' b := by
  obtain ⟨cs, t, h⟩ := h
  exact ⟨cs, t, he.trans h⟩
theorem unf_set {w : World} {b o : Nat} {v : Value} (h : Unf w b) : Unf (w.setCell ⟨b, o, none⟩ v) b := by
  obtain ⟨cs, t, h⟩ := h
  exact ⟨_, _, heap_setCell_same w b o cs t v h⟩
theorem Mid.step {code : List PIns} {C : Nat} {S : Nat → Prop} {w0 wr wa wb : World} {k : Nat} {x : PIns} {va vr : Value} {q1 q2 : Option Addr} {d1 d2 : Nat}
    (hS : ¬ S C) (h : Mid code C S w0 wr k) (hx : code[k]? = some x) (hi : InsR wr C (k * 8) x va vr) (hC : C < wr.heap.size) (_hC0 : C < w0.heap.size)
    (b1 : Below wr.heap.size wr wa) (l1 : IntsR (cutW (New wr.heap.size wa) wa) (.slice q1 x.args.length d1) x.args)
    (b2 : Below (wa.setCell ⟨C, k * 8 + 6, none⟩ (.slice q1 x.args.length d1)).heap.size (wa.setCell ⟨C, k * 8 + 6, none⟩ (.slice q1 x.args.length d1)) wb)
    (l2 : IntsR (cutW (New (wa.setCell ⟨C, k * 8 + 6, none⟩ (.slice q1 x.args.length d1)).heap.size wb) wb) (.slice q2 x.arrs.length d2) x.arrs) :
    Mid code C S w0 (wb.setCell ⟨C, k * 8 + 7, none⟩ (.slice q2 x.arrs.length d2)) (k + 1) := by
  have g1 : wr.grownBy (wa.setCell ⟨C, k * 8 + 6, none⟩ (.slice q1 x.args.length d1)) (some C) := grown_step (World.grownBy.refl _ _) b1
  have g2 : (wa.setCell ⟨C, k * 8 + 6, none⟩ (.slice q1 x.args.length d1)).grownBy (wb.setCell ⟨C, k * 8 + 7, none⟩ (.slice q2 x.arrs.length d2)) (some C) := grown_step (World.grownBy.refl _ _) b2
  have g := grown_trans g1 g2
  generalize hw4 : wa.setCell ⟨C, k * 8 + 6, none⟩ (.slice q1 x.args.length d1) = w4 at *
  generalize hw6 : wb.setCell ⟨C, k * 8 + 7, none⟩ (.slice q2 x.arrs.length d2) = w6 at *
  have hCa : C < wa.heap.size := Nat.lt_of_lt_of_le hC b1.size
  have hC4 : C < w4.heap.size := by rw [← hw4]; simpa using hCa
  have hs4 : w4.heap.size = wa.heap.size := by rw [← hw4]; simp
  have hs6 : w6.heap.size = wb.heap.size := by rw [← hw6]; simp
  -- a cell of C but the two: as it was
  have keep : ∀ o, o ≠ k * 8 + 6 → o ≠ k * 8 + 7 → w6.cell? ⟨C, o, none⟩ = wr.cell? ⟨C, o, none⟩ := fun o h1 h2 => by
    rw [← hw6, cell_set_ne wb _ (fun e => h2 e.2), b2.cell (p := ⟨C, o, none⟩) hC4, ← hw4, cell_set_ne wa _ (fun e => h1 e.2), b1.cell (p := ⟨C, o, none⟩) hC]
  have n6 : w6.cell? ⟨C, k * 8 + 6, none⟩ = some (.slice q1 x.args.length d1) := by
    rw [← hw6, cell_set_ne wb _ (fun e => by omega), b2.cell (p := ⟨C, k * 8 + 6, none⟩) hC4, ← hw4]
    exact cell_set_same _ ((b1.cell (p := ⟨C, k * 8 + 6, none⟩) hC).trans hi.ca)
  have n7 : w6.cell? ⟨C, k * 8 + 7, none⟩ = some (.slice q2 x.arrs.length d2) := by
    rw [← hw6]
    refine cell_set_same _ (u := vr) ?_
    rw [b2.cell (p := ⟨C, k * 8 + 7, none⟩) hC4, ← hw4, cell_set_ne wa _ (fun e => by omega), b1.cell (p := ⟨C, k * 8 + 7, none⟩) hC]
    exact hi.cr
  have oth : ∀ b, b < wr.heap.size → b ≠ C → w6.heap[b]? = wr.heap[b]? := fun b hb hne => g.block b hb (fun e => hne (by injection e))
  have toNew : Holds2 (cutW (New (C + 1) wr) wr) (cutW (New (C + 1) w6) w6) := cut_to g.size fun b hb ⟨h1, h2⟩ => ⟨⟨h1, unf_keep h2 (oth b hb (by omega))⟩, oth b hb (by omega)⟩
  have toOld : Holds2 (cutW S wr) (cutW S w6) := cut_to g.size fun b hb h1 => ⟨h1, oth b hb (fun e => hS (e ▸ h1))⟩
  have f1 : Holds2 (cutW (New wr.heap.size wa) wa) (cutW (New (C + 1) w6) w6) := cut_to (by rw [hs6, ← hs4]; exact b2.size) fun b hb ⟨h1, h2⟩ => by
    have hne : b ≠ C := by omega
    have e : w6.heap[b]? = wa.heap[b]? := by
      rw [← hw6, heap_setCell_other wb ⟨C, _, none⟩ b _ (fun e => hne e), b2.block b (by omega), ← hw4, heap_setCell_other wa ⟨C, _, none⟩ b _ (fun e => hne e)]
    exact ⟨⟨by omega, unf_keep h2 e⟩, e⟩
  have f2 : Holds2 (cutW (New w4.heap.size wb) wb) (cutW (New (C + 1) w6) w6) := cut_to (by omega) fun b hb ⟨h1, h2⟩ => by
    have hne : b ≠ C := by omega
    have e : w6.heap[b]? = wb.heap[b]? := by rw [← hw6, heap_setCell_other wb ⟨C, _, none⟩ b _ (fun e => hne e)]
    exact ⟨⟨by omega, unf_keep h2 e⟩, e⟩
  refine ⟨grown_trans h.grown g, ?_, fun i y hy => ?_⟩
  · rw [← hw6]
    refine unf_set (unf_keep ?_ (b2.block C hC4))
    rw [← hw4]
    exact unf_set (unf_keep h.row (b1.block C hC))
  · by_cases hik : i = k
    · subst hik
      rw [hx] at hy
      injection hy with hy
      subst hy
      have hl : InsL (cutW (New (C + 1) w6) w6) (.slice q1 x.args.length d1) (.slice q2 x.arrs.length d2) x := ⟨IntsR.holds f1 l1, IntsR.holds f2 l2, hi.l.wn⟩
      refine ⟨_, _, ⟨?_, ?_, ?_, ?_, ?_, ?_, n6, n7, InsL.holds (cut_out _ _) hl⟩, fun _ => hl, fun hh => by omega⟩
      · rw [keep _ (by omega) (by omega)]; exact hi.op
      · rw [keep _ (by omega) (by omega)]; exact hi.d
      · rw [keep _ (by omega) (by omega)]; exact hi.fa
      · rw [keep _ (by omega) (by omega)]; exact hi.fb
      · rw [keep _ (by omega) (by omega)]; exact hi.f
      · rw [keep _ (by omega) (by omega)]; exact hi.n
    · obtain ⟨ua, ur, h1, h2, h3⟩ := h.ins i y hy
      have hlist : InsL w6 ua ur y := by
        rcases Nat.lt_or_ge i k with hlt | hge
        · exact InsL.holds (cut_out _ _) (InsL.holds toNew (h2 hlt))
        · exact InsL.holds (cut_out _ _) (InsL.holds toOld (h3 hge))
      refine ⟨ua, ur, ⟨?_, ?_, ?_, ?_, ?_, ?_, ?_, ?_, hlist⟩, fun hh => InsL.holds toNew (h2 (by omega)), fun hh => InsL.holds toOld (h3 (by omega))⟩
      · rw [keep _ (by omega) (by omega)]; exact h1.op
      · rw [keep _ (by omega) (by omega)]; exact h1.d
      · rw [keep _ (by omega) (by omega)]; exact h1.fa
      · rw [keep _ (by omega) (by omega)]; exact h1.fb
      · rw [keep _ (by omega) (by omega)]; exact h1.f
      · rw [keep _ (by omega) (by omega)]; exact h1.n
      · rw [keep _ (by omega) (by omega)]; exact h1.ca
      · rw [keep _ (by omega) (by omega)]; exact h1.cr
theorem Mid.start {code : List PIns} {C g o : Nat} {S : Nat → Prop} {w2 : World} {v : Value} (h : Mid code C S w2 w2 0) (hg : g ≠ C) (hS : ¬ S g) : Mid code C S (w2.setCell ⟨g, o, none⟩ v) (w2.setCell ⟨g, o, none⟩ v) 0 := by
  have oth : ∀ b, b ≠ g → (w2.setCell ⟨g, o, none⟩ v).heap[b]? = w2.heap[b]? := fun b hne => heap_setCell_other w2 ⟨g, o, none⟩ b v (fun e => hne e)
  have keep : ∀ o', (w2.setCell ⟨g, o, none⟩ v).cell? ⟨C, o', none⟩ = w2.cell? ⟨C, o', none⟩ := fun o' => cell_set_ne w2 _ (fun e => hg e.1.symm)
  have toOld : Holds2 (cutW S w2) (cutW S (w2.setCell ⟨g, o, none⟩ v)) := cut_to (by simp) fun b hb h1 => ⟨h1, oth b (fun e => hS (e ▸ h1))⟩
  refine ⟨World.grownBy.refl _ _, unf_keep h.row (oth C (fun e => hg e.symm)), fun i x hx => ?_⟩
  obtain ⟨va, vr, h1, _, h3⟩ := h.ins i x hx
  have hl := InsL.holds toOld (h3 (Nat.zero_le _))
  exact ⟨va, vr, ⟨(keep _).trans h1.op, (keep _).trans h1.d, (keep _).trans h1.fa, (keep _).trans h1.fb, (keep _).trans h1.f, (keep _).trans h1.n, (keep _).trans h1.ca, (keep _).trans h1.cr, InsL.holds (cut_out _ _) hl⟩, fun hh => by omega, fun _ => hl⟩
end Go.Proofs.Ytacbfjinellonaa.Graph
namespace Go.Proofs.Ytacbfjinellonaa.Graph
open Go.RowKit

/-- What n places from there on hold. -/
def cellsAt (w : World) (b o n : Nat) : List Value := (List.range n).map fun j => (w.cell? ⟨b, o + j, none⟩).getD undef
theorem cellsAt_len (w : World) (b o n : Nat) : (cellsAt w b o n).length = n := by simp [cellsAt]
theorem cellsAt_get {w : World} {b o n j : Nat} (hj : j < n) : (cellsAt w b o n)[j]? = some ((w.cell? ⟨b, o + j, none⟩).getD undef) := by simp [cellsAt, hj]
theorem cellsAt_is {w : World} {b o n j : Nat} {v : Value} (hj : j < n) (h : w.cell? ⟨b, o + j, none⟩ = some v) : (cellsAt w b o n)[j]? = some v := by rw [cellsAt_get hj, h]; rfl
theorem cellsAt_of {w : World} {b o n : Nat} (hall : ∀ j, j < n → ∃ v, w.cell? ⟨b, o + j, none⟩ = some v ∧ v.oneCell' = true) :
    (∀ j v, (cellsAt w b o n)[j]? = some v → w.cell? ⟨b, o + j, none⟩ = some v) ∧ ∀ v ∈ cellsAt w b o n, v.oneCell' = true := by
  have h1 : ∀ j v, (cellsAt w b o n)[j]? = some v → w.cell? ⟨b, o + j, none⟩ = some v ∧ v.oneCell' = true := fun j v hj => by
    have hl : j < n := by
      rcases Nat.lt_or_ge j n with h | h
      · exact h
      · rw [List.getElem?_eq_none (by rw [cellsAt_len]; exact h)] at hj; cases hj
    obtain ⟨u, hu, h2⟩ := hall j hl
    rw [cellsAt_is hl hu] at hj
    injection hj with hj
    subst hj
    exact ⟨hu, h2⟩
  refine ⟨fun j v hj => (h1 j v hj).1, fun v hv => ?_⟩
  obtain ⟨j, hj⟩ := List.mem_iff_getElem?.1 hv
  exact (h1 j v hj).2
theorem insR_cell {w : World} {b o : Nat} {x : PIns} {va vr : Value} (h : InsR w b o x va vr) : ∀ r, r < 8 → ∃ v, w.cell? ⟨b, o + r, none⟩ = some v ∧ v.oneCell' = true := by
  obtain ⟨pa, ca, rfl⟩ := h.l.args.form
  obtain ⟨pr, cr, rfl⟩ := h.l.arrs.form
  intro r hr
  match r, hr with
  | 0, _ => exact ⟨_, h.op, rfl⟩
  | 1, _ => exact ⟨_, h.d, rfl⟩
  | 2, _ => exact ⟨_, h.fa, rfl⟩
  | 3, _ => exact ⟨_, h.fb, rfl⟩
  | 4, _ => exact ⟨_, h.f, rfl⟩
  | 5, _ => exact ⟨_, h.n, rfl⟩
  | 6, _ => exact ⟨_, h.ca, rfl⟩
  | 7, _ => exact ⟨_, h.cr, rfl⟩
def CopiedN (S : Nat → Prop) (l : List PIns) (w : World) (e : Ending) (w' : World) : Prop :=
  (l.length = 0 ∧ ∃ q d, e = .returned (.slice q 0 d) ∧ Below w.heap.size w w') ∨ (0 < l.length ∧ e = .returned (.slice (some ⟨w.heap.size, 0, none⟩) l.length l.length) ∧ Below w.heap.size w w' ∧ w.heap.size < w'.heap.size ∧ Mid l w.heap.size (fun b => S b ∧ b < w.heap.size) w' w' 0)
theorem copyN_any (S : Nat → Prop) (l : List PIns) (p : Option Addr) (c : Nat) (w : World) (h : CodeR (cutW S w) (.slice p l.length c) l) (hb : l.length * 96 ≤ reachBytes) :
    Calls Try.prog 97 #[.slice p l.length c] w (CopiedN S l w) := by
  unfold reachBytes at hb
  rcases Nat.eq_zero_or_pos l.length with h0 | h0
  · rw [h0]
    refine (noneN p c w).mono fun e w' hp => ?_
    obtain ⟨q, rfl, h1⟩ := hp
    exact .inl ⟨h0, q, 0, rfl, h1⟩
  · obtain ⟨b, o, c', hv, hcap, hgl, hc⟩ := SlR.form2 h h0
    injection hv with hv
    subst hv
    have hall : ∀ j, j < l.length * 8 → ∃ v, w.cell? ⟨b, o + j, none⟩ = some v ∧ v.oneCell' = true := fun j hj => by
      have hi : j / 8 < l.length := by omega
      obtain ⟨va, vr, h1⟩ := hc (j / 8) hi l[j / 8] (List.getElem?_eq_getElem hi)
      obtain ⟨v, h2, h3⟩ := insR_cell (InsR.holds (cut_out _ _) h1) (j % 8) (by omega)
      refine ⟨v, ?_, h3⟩
      rw [← h2]
      congr 2
      omega
    obtain ⟨hg1, hg2⟩ := cellsAt_of hall
    refine (listN_any (some ⟨b, o, none⟩) l.length c (cellsAt w b o (l.length * 8)) w (fun h => by cases h) (cellsAt_len _ _ _ _) (fun a ha j v hj => by injection ha with ha; subst ha; rw [add_none]; exact hg1 j v hj) hg2 (by omega) (by omega)).mono fun e w' hp => ?_
    rcases hp with ⟨hp, _⟩ | ⟨_, rfl, rfl⟩
    · cases hp
    · have hbl := below_alloc w (.cells (cellsAt w b o (l.length * 8)).toArray 70)
      have hnew := heap_new w (.cells (cellsAt w b o (l.length * 8)).toArray 70)
      refine .inr ⟨h0, rfl, hbl, by rw [World.size_alloc]; omega, World.grownBy.refl _ _, ⟨_, _, hnew⟩, fun i x hx => ?_⟩
      have hi : i < l.length := by
        rcases Nat.lt_or_ge i l.length with h | h
        · exact h
        · rw [List.getElem?_eq_none h] at hx; cases hx
      obtain ⟨va, vr, h1c⟩ := hc i hi x hx
      have h1 := InsR.holds (cut_out _ _) h1c
      have cp : ∀ r v, r < 8 → w.cell? ⟨b, o + i * 8 + r, none⟩ = some v → (w.alloc (.cells (cellsAt w b o (l.length * 8)).toArray 70)).cell? ⟨w.heap.size, i * 8 + r, none⟩ = some v := fun r v hr hcell =>
        (cell_of_block hnew (k := i * 8 + r) (v := v) (by
          have h4 := cellsAt_is (w := w) (b := b) (o := o) (n := l.length * 8) (j := i * 8 + r) (by omega) (by rw [← Nat.add_assoc]; exact hcell)
          simpa using h4)).1
      refine ⟨va, vr, ⟨cp 0 _ (by omega) h1.op, cp 1 _ (by omega) h1.d, cp 2 _ (by omega) h1.fa, cp 3 _ (by omega) h1.fb, cp 4 _ (by omega) h1.f, cp 5 _ (by omega) h1.n, cp 6 _ (by omega) h1.ca, cp 7 _ (by omega) h1.cr, h1.l.below hbl⟩, fun hh => by omega, fun _ => InsL.holds (old_cut hbl) h1c.l⟩
/-- Where all are done, the row is a list of instructions in memory of its own. -/
theorem Mid.code {code : List PIns} {C : Nat} {S : Nat → Prop} {w0 wr : World} (h : Mid code C S w0 wr code.length) (h0 : 0 < code.length) (hC : C < wr.heap.size) (hn : code.length ≤ 9223372036854775807) : CodeR (cutW (New C wr) wr) (.slice (some ⟨C, 0, none⟩) code.length code.length) code := by
  refine .inr ⟨C, 0, code.length, rfl, h0, ⟨Nat.le_refl _, hn⟩, by rw [cutW_size]; exact hC, fun i hi x hx => ?_⟩
  obtain ⟨va, vr, h1, h2, _⟩ := h.ins i x hx
  have hk : Holds2 (cutW (New (C + 1) wr) wr) (cutW (New C wr) wr) := cut_to (Nat.le_refl _) fun b _ hb => ⟨⟨by have := hb.1; omega, hb.2⟩, rfl⟩
  have hin : ∀ (o : Nat) (v : Value), wr.cell? ⟨C, o, none⟩ = some v → (cutW (New C wr) wr).cell? ⟨C, o, none⟩ = some v := fun o v hv => cutW_cell.2 ⟨⟨Nat.le_refl _, h.row⟩, hv⟩
  rw [Nat.zero_add]
  exact ⟨va, vr, hin _ _ h1.op, hin _ _ h1.d, hin _ _ h1.fa, hin _ _ h1.fb, hin _ _ h1.f, hin _ _ h1.n, hin _ _ h1.ca, hin _ _ h1.cr, InsL.holds hk (h2 hi)⟩
end Go.Proofs.Ytacbfjinellonaa.Graph
