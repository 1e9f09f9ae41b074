/- Copying a graph's blocks, plainly; list[Block], list[Array] of what lies. -/
import Derived.Test.YtacbfjinellonaaKe
namespace Go.Proofs.Ytacbfjinellonaa.Graph
open Go.RowKit

theorem blkR_cell {w : World} {b o : Nat} {x : PBlk} {vk vc vt : Value} (h : BlkR w b o x vk vc vt) : ∀ r, r < 10 → ∃ v, w.cell? ⟨b, o + r, none⟩ = some v ∧ v.oneCell' = true := by
  obtain ⟨pk, ck, rfl⟩ := h.code.form
  obtain ⟨pc, cc, rfl⟩ := h.fin.l.cases.form
  obtain ⟨pt, ct, rfl⟩ := h.fin.l.targets.form
  have e1 : ∀ k, o + 1 + k = o + (k + 1) := fun k => by omega
  have f1 := h.fin.op; have f2 := h.fin.fa; have f3 := h.fin.fb; have f4 := h.fin.n; have f5 := h.fin.to; have f6 := h.fin.els; have f7 := h.fin.cc; have f8 := h.fin.ct
  rw [e1] at f1 f2 f3 f4 f5 f6 f7 f8
  intro r hr
  match r, hr with
  | 0, _ => exact ⟨_, h.ck, rfl⟩
  | 1, _ => exact ⟨_, h.fin.kind, rfl⟩
  | 2, _ => exact ⟨_, f1, rfl⟩
  | 3, _ => exact ⟨_, f2, rfl⟩
  | 4, _ => exact ⟨_, f3, rfl⟩
  | 5, _ => exact ⟨_, f4, rfl⟩
  | 6, _ => exact ⟨_, f5, rfl⟩
  | 7, _ => exact ⟨_, f6, rfl⟩
  | 8, _ => exact ⟨_, f7, rfl⟩
  | 9, _ => exact ⟨_, f8, rfl⟩
/-- A block's ten cells, its lists apart. -/
structure BlkV (cur : Array Value) (o : Nat) (x : PBlk) (vk vc vt : Value) : Prop where
  ck : cur[o]? = some vk
  kind : cur[o + 1]? = some (.int .i64 x.fin.kind)
  op : cur[o + 2]? = some (.int .i64 x.fin.op)
  fa : cur[o + 3]? = some (.int .i64 x.fin.a)
  fb : cur[o + 4]? = some (.int .i64 x.fin.b)
  n : cur[o + 5]? = some (.int .u32 x.fin.n)
  tt : cur[o + 6]? = some (.int .i64 x.fin.to)
  els : cur[o + 7]? = some (.int .i64 x.fin.els)
  cc : cur[o + 8]? = some vc
  ct : cur[o + 9]? = some vt
theorem BlkV.lies {w : World} {b o : Nat} {t : TypeId} {cur : Array Value} {x : PBlk} {vk vc vt : Value} (h : BlkV cur o x vk vc vt) (hb : w.heap[b]? = some (.cells cur t (0, 0))) (hk : CodeR w vk x.code) (he : EndL w vc vt x.fin) : BlkR w b o x vk vc vt :=
  have e1 : ∀ k, o + 1 + k = o + (k + 1) := fun k => by omega
  ⟨(cell_of_block hb h.ck).1, hk, (cell_of_block hb h.kind).1, by rw [e1]; exact (cell_of_block hb h.op).1, by rw [e1]; exact (cell_of_block hb h.fa).1, by rw [e1]; exact (cell_of_block hb h.fb).1, by rw [e1]; exact (cell_of_block hb h.n).1, by rw [e1]; exact (cell_of_block hb h.tt).1, by rw [e1]; exact (cell_of_block hb h.els).1, by rw [e1]; exact (cell_of_block hb h.cc).1, by rw [e1]; exact (cell_of_block hb h.ct).1, he⟩
theorem BlkV.set {cur : Array Value} {o : Nat} {x : PBlk} {vk vc vt u0 u8 u9 : Value} (h : BlkV cur o x vk vc vt) : BlkV (((cur.setIfInBounds o u0).setIfInBounds (o + 8) u8).setIfInBounds (o + 9) u9) o x u0 u8 u9 := by
  have hl : o + 9 < cur.size := by
    rcases Nat.lt_or_ge (o + 9) cur.size with h2 | h2
    · exact h2
    · have := h.ct; rw [Array.getElem?_eq_none h2] at this; cases this
  have keep : ∀ r, r ≠ 0 → r ≠ 8 → r ≠ 9 → (((cur.setIfInBounds o u0).setIfInBounds (o + 8) u8).setIfInBounds (o + 9) u9)[o + r]? = cur[o + r]? := fun r h1 h2 h3 => by
    rw [Array.getElem?_setIfInBounds_ne (by omega), Array.getElem?_setIfInBounds_ne (by omega), Array.getElem?_setIfInBounds_ne (by omega)]
  refine ⟨?_, (keep 1 (by omega) (by omega) (by omega)).trans h.kind, (keep 2 (by omega) (by omega) (by omega)).trans h.op, (keep 3 (by omega) (by omega) (by omega)).trans h.fa, (keep 4 (by omega) (by omega) (by omega)).trans h.fb, (keep 5 (by omega) (by omega) (by omega)).trans h.n, (keep 6 (by omega) (by omega) (by omega)).trans h.tt, (keep 7 (by omega) (by omega) (by omega)).trans h.els, ?_, ?_⟩
  · rw [Array.getElem?_setIfInBounds_ne (by omega), Array.getElem?_setIfInBounds_ne (by omega), Array.getElem?_setIfInBounds_self_of_lt (by omega)]
  · rw [Array.getElem?_setIfInBounds_ne (by omega), Array.getElem?_setIfInBounds_self_of_lt (by simp; omega)]
  · rw [Array.getElem?_setIfInBounds_self_of_lt (by simp; omega)]
theorem BlkV.other {cur : Array Value} {o o' : Nat} {x : PBlk} {vk vc vt u0 u8 u9 : Value} (h : BlkV cur o' x vk vc vt) (hne : o' + 9 < o ∨ o + 9 < o') : BlkV (((cur.setIfInBounds o u0).setIfInBounds (o + 8) u8).setIfInBounds (o + 9) u9) o' x vk vc vt := by
  have keep : ∀ r, r < 10 → (((cur.setIfInBounds o u0).setIfInBounds (o + 8) u8).setIfInBounds (o + 9) u9)[o' + r]? = cur[o' + r]? := fun r h1 => by
    rw [Array.getElem?_setIfInBounds_ne (by omega), Array.getElem?_setIfInBounds_ne (by omega), Array.getElem?_setIfInBounds_ne (by omega)]
  exact ⟨(keep 0 (by omega)).trans h.ck, (keep 1 (by omega)).trans h.kind, (keep 2 (by omega)).trans h.op, (keep 3 (by omega)).trans h.fa, (keep 4 (by omega)).trans h.fb, (keep 5 (by omega)).trans h.n, (keep 6 (by omega)).trans h.tt, (keep 7 (by omega)).trans h.els, (keep 8 (by omega)).trans h.cc, (keep 9 (by omega)).trans h.ct⟩
/-- After k blocks: the new row B holds all of them; the first k with lists of their own, the others with those of before. -/
structure MidB (bs : List PBlk) (B : Nat) (S : Nat → Prop) (w0 wr : World) (k : Nat) : Prop where
  grown : w0.grownBy wr (some B)
  blk : ∃ cur t, wr.heap[B]? = some (.cells cur t (0, 0)) ∧ ∀ i x, bs[i]? = some x → ∃ vk vc vt, BlkV cur (i * 10) x vk vc vt ∧
    (i < k → CodeR (cutW (New (B + 1) wr) wr) vk x.code ∧ EndL (cutW (New (B + 1) wr) wr) vc vt x.fin) ∧ (k ≤ i → CodeR (cutW S wr) vk x.code ∧ EndL (cutW S wr) vc vt x.fin)
theorem MidB.step {bs : List PBlk} {B : Nat} {S : Nat → Prop} {w0 wr wa : World} {k : Nat} {x : PBlk} {cur : Array Value} {t : TypeId} (hS : ¬ S B) (h : MidB bs B S w0 wr k) (hb : wr.heap[B]? = some (.cells cur t (0, 0))) (hx : bs[k]? = some x) (hc : CopiedB B (k * 10) x cur t wr wa) : MidB bs B S w0 wa (k + 1) := by
  obtain ⟨g, u0, u8, u9, h1, h2, h3⟩ := hc
  obtain ⟨cur', t', hb', hins⟩ := h.blk
  rw [hb] at hb'
  injection hb' with hb'
  injection hb' with e1 e2
  subst e1 e2
  have oth : ∀ b, b < wr.heap.size → b ≠ B → wa.heap[b]? = wr.heap[b]? := fun b hb hne => g.block b hb (fun e => hne (by injection e))
  have toNew : Holds2 (cutW (New (B + 1) wr) wr) (cutW (New (B + 1) wa) wa) := cut_to g.size fun b hb ⟨h1, h2⟩ => ⟨⟨h1, unf_keep h2 (oth b hb (by omega))⟩, oth b hb (by omega)⟩
  have toOld : Holds2 (cutW S wr) (cutW S wa) := cut_to g.size fun b hb h1 => ⟨h1, oth b hb (fun e => hS (e ▸ h1))⟩
  have hBr := lt_of_block hb
  have f1 : Holds2 (cutW (New wr.heap.size wa) wa) (cutW (New (B + 1) wa) wa) := cut_to (Nat.le_refl _) fun b _ hn => ⟨⟨by have := hn.1; omega, hn.2⟩, rfl⟩
  refine ⟨grown_trans h.grown g, _, _, h1, fun i y hy => ?_⟩
  by_cases hik : i = k
  · subst hik
    rw [hx] at hy
    injection hy with hy
    subst hy
    obtain ⟨vk, vc, vt, hv, _, _⟩ := hins i x hx
    exact ⟨u0, u8, u9, hv.set, fun _ => ⟨CodeR.holds f1 h2, EndL.holds f1 h3⟩, fun hh => by omega⟩
  · obtain ⟨vk, vc, vt, hv, hn, ho⟩ := hins i y hy
    exact ⟨vk, vc, vt, hv.other (by omega), fun hh => ⟨CodeR.holds toNew (hn (by omega)).1, EndL.holds toNew (hn (by omega)).2⟩, fun hh => ⟨CodeR.holds toOld (ho (by omega)).1, EndL.holds toOld (ho (by omega)).2⟩⟩
theorem MidB.done {bs : List PBlk} {B : Nat} {S : Nat → Prop} {w0 wr : World} (h : MidB bs B S w0 wr bs.length) (h0 : 0 < bs.length) (hn : bs.length ≤ 9223372036854775807) : BlksR (cutW (New B wr) wr) (.slice (some ⟨B, 0, none⟩) bs.length bs.length) bs := by
  obtain ⟨cur, t, hb, hins⟩ := h.blk
  have hk : Holds2 (cutW (New (B + 1) wr) wr) (cutW (New B wr) wr) := cut_to (Nat.le_refl _) fun b _ hb => ⟨⟨by have := hb.1; omega, hb.2⟩, rfl⟩
  refine .inr ⟨B, 0, bs.length, rfl, h0, ⟨Nat.le_refl _, hn⟩, by rw [cutW_size]; exact lt_of_block hb, fun i hi x hx => ?_⟩
  obtain ⟨vk, vc, vt, hv, hnew, _⟩ := hins i x hx
  obtain ⟨h1, h2⟩ := hnew hi
  have hw := hv.lies hb (CodeR.holds (cut_out _ _) h1) (EndL.holds (cut_out _ _) h2)
  have hin : ∀ (o : Nat) (v : Value), wr.cell? ⟨B, o, none⟩ = some v → (cutW (New B wr) wr).cell? ⟨B, o, none⟩ = some v := fun o v hv => cutW_cell.2 ⟨⟨Nat.le_refl _, _, _, hb⟩, hv⟩
  rw [Nat.zero_add]
  exact ⟨vk, vc, vt, hin _ _ hw.ck, CodeR.holds hk h1, hin _ _ hw.fin.kind, hin _ _ hw.fin.op, hin _ _ hw.fin.fa, hin _ _ hw.fin.fb, hin _ _ hw.fin.n, hin _ _ hw.fin.to, hin _ _ hw.fin.els, hin _ _ hw.fin.cc, hin _ _ hw.fin.ct, EndL.holds hk h2⟩
def CopiedBs (S : Nat → Prop) (l : List PBlk) (w : World) (e : Ending) (w' : World) : Prop :=
  (l.length = 0 ∧ ∃ q d, e = .returned (.slice q 0 d) ∧ Below w.heap.size w w') ∨ (0 < l.length ∧ e = .returned (.slice (some ⟨w.heap.size, 0, none⟩) l.length l.length) ∧ Below w.heap.size w w' ∧ w.heap.size < w'.heap.size ∧ MidB l w.heap.size (fun b => S b ∧ b < w.heap.size) w' w' 0)
theorem copyBs_any (S : Nat → Prop) (l : List PBlk) (p : Option Addr) (c : Nat) (w : World) (h : BlksR (cutW S w) (.slice p l.length c) l) (hb : l.length * 128 ≤ reachBytes) :
    Calls Try.prog 68 #[.slice p l.length c] w (CopiedBs S l w) := by
  unfold reachBytes at hb
  rcases Nat.eq_zero_or_pos l.length with h0 | h0
  · rw [h0]
    refine (listB_any p 0 c [] w (fun _ => rfl) rfl (fun _ _ _ _ h => by cases h) (fun _ h => by cases h) (by omega) (by omega)).mono fun e w' hp => ?_
    obtain ⟨q, rfl, h1⟩ := post_below hp (fun _ => rfl)
    exact .inl ⟨h0, q, 0, rfl, h1⟩
  · obtain ⟨b, o, c', hv, hcap, hgl, hc⟩ := SlR.form2 h h0
    injection hv with hv
    subst hv
    have hall : ∀ j, j < l.length * 10 → ∃ v, w.cell? ⟨b, o + j, none⟩ = some v ∧ v.oneCell' = true := fun j hj => by
      have hi : j / 10 < l.length := by omega
      obtain ⟨vk, vc, vt, h1⟩ := hc (j / 10) hi l[j / 10] (List.getElem?_eq_getElem hi)
      obtain ⟨v, h2, h3⟩ := blkR_cell (BlkR.holds (cut_out _ _) h1) (j % 10) (by omega)
      refine ⟨v, ?_, h3⟩
      rw [← h2]
      congr 2
      omega
    obtain ⟨hg1, hg2⟩ := cellsAt_of hall
    refine (listB_any (some ⟨b, o, none⟩) l.length c (cellsAt w b o (l.length * 10)) w (fun h => by cases h) (cellsAt_len _ _ _ _) (fun a ha j v hj => by injection ha with ha; subst ha; rw [add_none]; exact hg1 j v hj) hg2 (by omega) (by omega)).mono fun e w' hp => ?_
    rcases hp with ⟨hp, _⟩ | ⟨_, rfl, rfl⟩
    · cases hp
    · have hbl := below_alloc w (.cells (cellsAt w b o (l.length * 10)).toArray 50)
      have hnew := heap_new w (.cells (cellsAt w b o (l.length * 10)).toArray 50)
      refine .inr ⟨h0, rfl, hbl, by rw [World.size_alloc]; omega, World.grownBy.refl _ _, _, _, hnew, fun i x hx => ?_⟩
      have hi : i < l.length := by
        rcases Nat.lt_or_ge i l.length with h | h
        · exact h
        · rw [List.getElem?_eq_none h] at hx; cases hx
      obtain ⟨vk, vc, vt, h1c⟩ := hc i hi x hx
      have h1 := BlkR.holds (cut_out _ _) h1c
      have cp : ∀ r v, r < 10 → w.cell? ⟨b, o + i * 10 + r, none⟩ = some v → (cellsAt w b o (l.length * 10)).toArray[i * 10 + r]? = some v := fun r v hr hcell => by
        have h4 := cellsAt_is (w := w) (b := b) (o := o) (n := l.length * 10) (j := i * 10 + r) (by omega) (by rw [← Nat.add_assoc]; exact hcell)
        simpa using h4
      have e1 : ∀ k, o + i * 10 + 1 + k = o + i * 10 + (k + 1) := fun k => by omega
      have f1 := h1.fin.op; have f2 := h1.fin.fa; have f3 := h1.fin.fb; have f4 := h1.fin.n; have f5 := h1.fin.to; have f6 := h1.fin.els; have f7 := h1.fin.cc; have f8 := h1.fin.ct
      rw [e1] at f1 f2 f3 f4 f5 f6 f7 f8
      exact ⟨vk, vc, vt, ⟨cp 0 _ (by omega) h1.ck, cp 1 _ (by omega) h1.fin.kind, cp 2 _ (by omega) f1, cp 3 _ (by omega) f2, cp 4 _ (by omega) f3, cp 5 _ (by omega) f4, cp 6 _ (by omega) f5, cp 7 _ (by omega) f6, cp 8 _ (by omega) f7, cp 9 _ (by omega) f8⟩, fun hh => by omega, fun _ => ⟨CodeR.holds (old_cut hbl) h1c.code, EndL.holds (old_cut hbl) h1c.fin.l⟩⟩
end Go.Proofs.Ytacbfjinellonaa.Graph
namespace Go.Proofs.Ytacbfjinellonaa.Graph
open Go.RowKit

def CopiedU (l : List Int) (w : World) (e : Ending) (w' : World) : Prop := ∃ q d, e = .returned (.slice q l.length d) ∧ WordsR (cutW (New w.heap.size w') w') (.slice q l.length d) l ∧ Below w.heap.size w w'
theorem copyU_any (l : List Int) (p : Option Addr) (c : Nat) (w : World) (h : WordsR w (.slice p l.length c) l) (hb : l.length * 4 ≤ reachBytes) :
    Calls Try.prog 40 #[.slice p l.length c] w (CopiedU l w) := by
  unfold reachBytes at hb
  have h0 : p = none → l.length = 0 := fun hp => by
    rcases h with ⟨h0, _⟩ | ⟨b, o, c', hv, _⟩
    · exact h0
    · injection hv with hv; rw [hp] at hv; cases hv
  refine (listU_any p l.length c (l.map (Value.int .u32)) w h0 (by simp) (fun a ha j v hj => ?_) (fun v hv => by obtain ⟨x, _, rfl⟩ := List.mem_map.1 hv; rfl) (by omega) (by omega)).mono fun e w' hp => ?_
  · rw [List.getElem?_map] at hj
    obtain ⟨x, hx, rfl⟩ := Option.map_eq_some_iff.1 hj
    have hjl : j < l.length := by
      rcases Nat.lt_or_ge j l.length with h | h
      · exact h
      · rw [List.getElem?_eq_none h] at hx; cases hx
    obtain ⟨b, o, c', hv, _, _, hc⟩ := SlR.form2 h (by omega)
    injection hv with hv
    rw [ha] at hv
    injection hv with hv
    subst hv
    rw [add_none]
    have := hc j hjl x hx
    rwa [Nat.mul_one] at this
  · rcases hp with ⟨hp, rfl, rfl⟩ | ⟨_, rfl, rfl⟩
    · have hl := h0 hp
      exact ⟨none, 0, by rw [hl], .inl ⟨hl, _, _, by rw [hl]⟩, Below.refl _ _⟩
    · refine ⟨_, _, rfl, ?_, below_alloc w _⟩
      rcases Nat.eq_zero_or_pos l.length with hl | hl
      · exact .inl ⟨hl, _, _, by rw [hl]⟩
      · refine .inr ⟨w.heap.size, 0, l.length, rfl, hl, ⟨Nat.le_refl _, by omega⟩, by rw [cutW_size, World.size_alloc]; omega, fun i hi x hx => ?_⟩
        refine cut_new (Nat.le_refl _) (heap_new w _) ?_
        simp [hx]
def arrCs (l : List PArr) : List Value := l.flatMap fun x => [.int .i64 x.kind, .int .i64 x.n]
theorem arrCs_len (l : List PArr) : (arrCs l).length = l.length * 2 := by
  induction l with
  | nil => rfl
  | cons x l ih => simp only [arrCs, List.flatMap_cons, List.length_append, List.length_cons, List.length_nil] at ih ⊢; omega
theorem arrCs_at {l : List PArr} {i : Nat} {x : PArr} (h : l[i]? = some x) : (arrCs l)[i * 2]? = some (.int .i64 x.kind) ∧ (arrCs l)[i * 2 + 1]? = some (.int .i64 x.n) := by
  induction l generalizing i with
  | nil => simp at h
  | cons y l ih =>
    cases i with
    | zero => injection h with h; subst h; exact ⟨rfl, rfl⟩
    | succ i =>
      have h2 := ih (i := i) (by simpa using h)
      have e1 : (i + 1) * 2 = i * 2 + 1 + 1 := by omega
      rw [e1]
      exact h2
theorem arrCs_get {l : List PArr} {j : Nat} {v : Value} (h : (arrCs l)[j]? = some v) : ∃ i x, l[i]? = some x ∧ ((j = i * 2 ∧ v = .int .i64 x.kind) ∨ (j = i * 2 + 1 ∧ v = .int .i64 x.n)) := by
  have hj : j < (arrCs l).length := by
    rcases Nat.lt_or_ge j (arrCs l).length with h2 | h2
    · exact h2
    · rw [List.getElem?_eq_none h2] at h; cases h
  rw [arrCs_len] at hj
  have hi : j / 2 < l.length := by omega
  refine ⟨j / 2, l[j / 2], List.getElem?_eq_getElem hi, ?_⟩
  obtain ⟨h1, h2⟩ := arrCs_at (List.getElem?_eq_getElem hi)
  rcases Nat.mod_two_eq_zero_or_one j with hm | hm
  · have e : j = j / 2 * 2 := by omega
    left; refine ⟨e, ?_⟩
    rw [← e, h] at h1; injection h1
  · have e : j = j / 2 * 2 + 1 := by omega
    right; refine ⟨e, ?_⟩
    rw [← e, h] at h2; injection h2
def CopiedA (l : List PArr) (w : World) (e : Ending) (w' : World) : Prop := ∃ q d, e = .returned (.slice q l.length d) ∧ ArrsR (cutW (New w.heap.size w') w') (.slice q l.length d) l ∧ Below w.heap.size w w'
theorem copyA_any (l : List PArr) (p : Option Addr) (c : Nat) (w : World) (h : ArrsR w (.slice p l.length c) l) (hb : l.length * 16 ≤ reachBytes) :
    Calls Try.prog 67 #[.slice p l.length c] w (CopiedA l w) := by
  unfold reachBytes at hb
  have h0 : p = none → l.length = 0 := fun hp => by
    rcases h with ⟨h0, _⟩ | ⟨b, o, c', hv, _⟩
    · exact h0
    · injection hv with hv; rw [hp] at hv; cases hv
  refine (listA_any p l.length c (arrCs l) w h0 (arrCs_len l) (fun a ha j v hj => ?_) (fun v hv => ?_) (by omega) (by omega)).mono fun e w' hp => ?_
  · obtain ⟨i, x, hx, hor⟩ := arrCs_get hj
    have hil : i < l.length := by
      rcases Nat.lt_or_ge i l.length with h | h
      · exact h
      · rw [List.getElem?_eq_none h] at hx; cases hx
    obtain ⟨b, o, c', hv, _, _, hc⟩ := SlR.form2 h (by omega)
    injection hv with hv
    rw [ha] at hv
    injection hv with hv
    subst hv
    rw [add_none]
    obtain ⟨h1, h2⟩ := hc i hil x hx
    rcases hor with ⟨rfl, rfl⟩ | ⟨rfl, rfl⟩
    · exact h1
    · rw [← Nat.add_assoc]; exact h2
  · obtain ⟨j, hj⟩ := List.mem_iff_getElem?.1 hv
    obtain ⟨i, x, _, ⟨_, rfl⟩ | ⟨_, rfl⟩⟩ := arrCs_get hj <;> rfl
  · rcases hp with ⟨hp, rfl, rfl⟩ | ⟨_, rfl, rfl⟩
    · have hl := h0 hp
      exact ⟨none, 0, by rw [hl], .inl ⟨hl, _, _, by rw [hl]⟩, Below.refl _ _⟩
    · refine ⟨_, _, rfl, ?_, below_alloc w _⟩
      rcases Nat.eq_zero_or_pos l.length with hl | hl
      · exact .inl ⟨hl, _, _, by rw [hl]⟩
      · refine .inr ⟨w.heap.size, 0, l.length, rfl, hl, ⟨Nat.le_refl _, by omega⟩, by rw [cutW_size, World.size_alloc]; omega, fun i hi x hx => ?_⟩
        obtain ⟨h1, h2⟩ := arrCs_at hx
        refine ⟨cut_new (Nat.le_refl _) (heap_new w _) ?_, cut_new (Nat.le_refl _) (heap_new w _) ?_⟩
        · rw [Nat.zero_add]; simpa using h1
        · rw [Nat.zero_add]; simpa using h2
/-- A graph of row N at o is copied: its three lists are new, all else of the row is as it was. -/
def CopiedF (g o : Nat) (x : PGr) (cur : Array Value) (t : TypeId) (w w' : World) : Prop :=
  w.grownBy w' (some g) ∧ ∃ u0 u2 u3, w'.heap[g]? = some (.cells (((cur.setIfInBounds o u0).setIfInBounds (o + 2) u2).setIfInBounds (o + 3) u3) t (0, 0)) ∧ GrL (cutW (New w.heap.size w') w') u0 u2 u3 x
/-- A graph's four cells, its lists apart. -/
structure GrV (cur : Array Value) (o : Nat) (x : PGr) (vp va vb : Value) : Prop where
  cp : cur[o]? = some vp
  temps : cur[o + 1]? = some (.int .i64 x.temps)
  ca : cur[o + 2]? = some va
  cb : cur[o + 3]? = some vb
theorem GrV.set {cur : Array Value} {o : Nat} {x : PGr} {vp va vb u0 u2 u3 : Value} (h : GrV cur o x vp va vb) : GrV (((cur.setIfInBounds o u0).setIfInBounds (o + 2) u2).setIfInBounds (o + 3) u3) o x u0 u2 u3 := by
  have hl : o + 3 < cur.size := by
    rcases Nat.lt_or_ge (o + 3) cur.size with h2 | h2
    · exact h2
    · have := h.cb; rw [Array.getElem?_eq_none h2] at this; cases this
  refine ⟨?_, ?_, ?_, ?_⟩
  · rw [Array.getElem?_setIfInBounds_ne (by omega), Array.getElem?_setIfInBounds_ne (by omega), Array.getElem?_setIfInBounds_self_of_lt (by omega)]
  · rw [Array.getElem?_setIfInBounds_ne (by omega), Array.getElem?_setIfInBounds_ne (by omega), Array.getElem?_setIfInBounds_ne (by omega)]; exact h.temps
  · rw [Array.getElem?_setIfInBounds_ne (by omega), Array.getElem?_setIfInBounds_self_of_lt (by simp; omega)]
  · rw [Array.getElem?_setIfInBounds_self_of_lt (by simp; omega)]
theorem GrV.other {cur : Array Value} {o o' : Nat} {x : PGr} {vp va vb u0 u2 u3 : Value} (h : GrV cur o' x vp va vb) (hne : o' + 3 < o ∨ o + 3 < o') : GrV (((cur.setIfInBounds o u0).setIfInBounds (o + 2) u2).setIfInBounds (o + 3) u3) o' x vp va vb := by
  have keep : ∀ r, r < 4 → (((cur.setIfInBounds o u0).setIfInBounds (o + 2) u2).setIfInBounds (o + 3) u3)[o' + r]? = cur[o' + r]? := fun r h1 => by
    rw [Array.getElem?_setIfInBounds_ne (by omega), Array.getElem?_setIfInBounds_ne (by omega), Array.getElem?_setIfInBounds_ne (by omega)]
  exact ⟨(keep 0 (by omega)).trans h.cp, (keep 1 (by omega)).trans h.temps, (keep 2 (by omega)).trans h.ca, (keep 3 (by omega)).trans h.cb⟩
end Go.Proofs.Ytacbfjinellonaa.Graph
