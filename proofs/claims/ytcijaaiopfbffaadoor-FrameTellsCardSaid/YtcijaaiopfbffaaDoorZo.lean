/- What look.block does: what a block alone says is put into the sets. No condition but that it fits and that what lies elsewhere is older. -/
import Derived.Test.YtcijaaiopfbffaaDoorZl
import Derived.Test.YtcijaaiopfbffaaDoorZg
import Derived.Deep.RegionLaw
namespace Go.Proofs.YtcijaaiopfbffaaDoor.Live
open Go.RowKit Go.Proofs.YtcijaaiopfbffaaDoor.Graph Go.Shelf

attribute [local go_sem] Oper.semAt_some
/-- In the middle of block: its two boxes, its marks. -/
structure BL (w : World) (lb ub db n : Nat) (va : Value) (L : Nat → Look) (b : Nat) (M : Look) (ds : List Nat) (W : World) : Prop where
  lk : LookSt lb ub db n va (fun k => if k = b then M else L k) W
  turn : Turn ub db w W
  bl : Boxed W w.heap.size 66 (.pointer (some ⟨lb, 0, none⟩))
  bb : Boxed W (w.heap.size + 1) 3 (.int .i64 (b : Nat))
  marks : Marks (w.heap.size + 2) ds W
  old : lb < w.heap.size ∧ ub < w.heap.size ∧ db < w.heap.size
section
variable {w W W' : World} {lb ub db n : Nat} {va : Value} {L : Nat → Look} {b : Nat} {M M' : Look} {ds : List Nat}
theorem BL.keep (h : BL w lb ub db n va L b M ds W) (hb : Below W.heap.size W W') : BL w lb ub db n va L b M ds W' :=
  ⟨h.lk.keep hb, h.turn.trans (Turn.of_below hb), (hb.block _ h.bl.lt).trans h.bl, (hb.block _ h.bb.lt).trans h.bb, ⟨h.marks.nd, fun D hD => ⟨(h.marks.at_ D hD).1, (hb.block D (h.marks.lt D hD)).trans (h.marks.at_ D hD).2⟩⟩, h.old⟩
theorem BL.step (h : BL w lb ub db n va L b M ds W) (hk : LookSt lb ub db n va (fun k => if k = b then M' else L k) W') (ht : Turn ub db W W') : BL w lb ub db n va L b M' ds W' := by
  obtain ⟨o1, o2, o3⟩ := h.old
  have hne : ∀ i, i < W.heap.size → w.heap.size ≤ i → W'.heap[i]? = W.heap[i]? := fun i hi h2 => ht.block i hi (by omega) (by omega)
  exact ⟨hk, h.turn.trans ht, (hne _ h.bl.lt (Nat.le_refl _)).trans h.bl, (hne _ h.bb.lt (by omega)).trans h.bb, ⟨h.marks.nd, fun D hD => ⟨(h.marks.at_ D hD).1, (hne D (h.marks.lt D hD) (by have := (h.marks.at_ D hD).1; omega)).trans (h.marks.at_ D hD).2⟩⟩, h.old⟩
theorem at_twice {α : Type} (X Y : α) (L : Nat → α) (b : Nat) : (fun k => if k = b then X else (fun k => if k = b then Y else L k) k) = fun k => if k = b then X else L k := by
  funext k
  by_cases e : k = b
  · rw [if_pos e, if_pos e]
  · rw [if_neg e, if_neg e]; exact if_neg e
/-- It leaves. -/
theorem bl_leaves {T : Array Value} (h : BL w lb ub db n va L b M ds W) :
    LeavesInM Fence.wide 9 Tryd.prog Tryd.f54 T (LookPost lb ub db n va L b M w) (ds.map markD) .returning W := by
  refine leaves_marks ds W h.marks fun W' hs => ⟨.tuple #[], ?_, rfl, ?_, ?_⟩
  · simp [results, Tryd.results54, go_sem]
  · have h1 := (Array.getElem?_eq_some_iff.1 h.lk.look).1
    obtain ⟨o1, o2, o3⟩ := h.old
    exact ⟨(hs.below.block _ (by omega)).trans h.lk.look, h.lk.us.keep (hs.below.block _ (by omega)), h.lk.ds.keep (hs.below.block _ (by omega)), h.lk.ne⟩
  · exact ⟨hs.below.os.trans h.turn.os, hs.below.tape.trans h.turn.tape, hs.below.output.trans h.turn.output, Nat.le_trans h.turn.size hs.below.size, fun k hk h1 h2 => (hs.below.block k (by omega)).trans (h.turn.block k hk h1 h2)⟩
theorem BL.cons {D : Nat} (h : BL w lb ub db n va L b M ds W) (hk : LookSt lb ub db n va (fun k => if k = b then M' else L k) W') (ht : Turn ub db W W') (hD : W.heap.size ≤ D) (hd : W'.heap[D]? = some (.deferred (some []))) : BL w lb ub db n va L b M' (D :: ds) W' := by
  have h2 := h.step hk ht
  exact ⟨h2.lk, h2.turn, h2.bl, h2.bb, h2.marks.cons (by have := h.bb.lt; omega) hd hD h.marks.lt, h2.old⟩
theorem turn_keeps {B : Nat} (h : Turn ub db W W') (hu : ub < B) (hd : db < B) : KeepsFrom B W W' := ⟨h.size, fun k o hB hk _ => (h.block k (Array.getElem?_eq_some_iff.1 hk).1 (by omega) (by omega)).trans hk⟩
theorem turn_keepB {n₀ bx : Nat} (h : Turn ub db W W') (hu : n₀ ≤ ub) (hd : n₀ ≤ db) (hz : n₀ ≤ W.heap.size) (hb : bx < W.heap.size) (h1 : bx ≠ ub) (h2 : bx ≠ db) : KeepB n₀ bx W W' :=
  ⟨h.below (Below.refl _ _) hu hd hz, h.block bx hb h1 h2⟩
theorem own_look {β : Type} {W0 : World} {B : Nat} (f : β → Look) (h1 : lb < B) (h2 : ub < B) (h3 : db < B) (hB : W0.heap.size ≤ B) : OwnFrom B (fun (s : β) W => LookSt lb ub db n va (fun k => if k = b then f s else L k) W ∧ Turn ub db W0 W) := by
  intro s X Y row hs hg hr
  have hne : ∀ k, k < X.heap.size → k < B → Y.heap[k]? = X.heap[k]? := fun k hk hkB => hg.block k hk (fun e => by have := (hr k e.symm).1; omega)
  have l1 := (Array.getElem?_eq_some_iff.1 hs.1.look).1
  refine ⟨⟨(hne _ l1 h1).trans hs.1.look, hs.1.us.keep (hne _ hs.1.us.lt h2), hs.1.ds.keep (hne _ hs.1.ds.lt h3), hs.1.ne⟩, ⟨hg.os.trans hs.2.os, hg.tape.trans hs.2.tape, hg.output.trans hs.2.output, Nat.le_trans hs.2.size hg.size, fun k hk e1 e2 => (hne k (Nat.lt_of_lt_of_le hk hs.2.size) (by omega)).trans (hs.2.block k hk e1 e2)⟩⟩
theorem use_at (h : LookSt lb ub db n va (fun k => if k = b then M else L k) W) (hM : M.Lt) (hl : ∀ k, (L k).Lt) (hb : b < n) (hn : n ≤ 20000) {t : Int} (ht : 0 ≤ t ∧ t < 8000) :
    Calls Tryd.prog 73 #[.pointer (some ⟨lb, 0, none⟩), .int .i64 (b : Int), .int .i64 t] W fun e w' => e = .returned (.tuple #[]) ∧ LookSt lb ub db n va (fun k => if k = b then M.use t else L k) w' ∧ Turn ub db W w' := by
  refine (use_any h (fun k => by by_cases e : k = b <;> simp only [e, if_true, if_false] <;> first | exact hM | exact hl k) hb hn ht).mono ?_
  rintro e w' ⟨h1, h2, h3⟩
  rw [at_twice, if_pos rfl] at h2
  exact ⟨h1, h2, h3⟩
theorem add_at (h : LookSt lb ub db n va (fun k => if k = b then M else L k) W) (hM : M.Lt) (hb : b < n) {t : Int} (ht : 0 ≤ t ∧ t < 8000) :
    Calls Tryd.prog 74 #[.pointer (some ⟨db, b * 125, none⟩), .int .i64 t] W fun e w' => e = .returned (.tuple #[]) ∧ LookSt lb ub db n va (fun k => if k = b then { M with d := addW M.d t.toNat } else L k) w' ∧ Turn ub db W w' := by
  obtain ⟨k, rfl⟩ := Int.eq_ofNat_of_zero_le ht.1
  have hk : k < 8000 := by omega
  have h2 := h.addD hb hk
  have hc := h.ds.cell hb (show k / 64 < 125 by omega)
  simp only [if_true] at h2 hc
  refine (add_any db (b * 125) k M.d W hk (hM.d _) hc (h.ds.frozen _)).mono ?_
  rintro e w' ⟨rfl, rfl⟩
  have h3 := h2.keep (Below.refl _ _).drew
  rw [at_twice] at h3
  exact ⟨rfl, h3, (Turn.setR _ _ _ _ _).trans (Turn.of_below (Below.refl _ _).drew)⟩
end
end Go.Proofs.YtcijaaiopfbffaaDoor.Live
