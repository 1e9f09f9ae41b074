/- What needed does: its beginning . -/
import Derived.Test.YtcijaaiopfbffaaDoorZx
import Derived.Test.YtcijaaiopfbffaaDoorLkd
namespace Go.Proofs.YtcijaaiopfbffaaDoor.Live
open Go.RowKit Go.Proofs.YtcijaaiopfbffaaDoor.Graph

/-- The needs, made: of noughts, in new blocks. -/
structure Made (w wq : World) (sb nb fb tb n : Nat) (va : Value) : Prop where
  nd : NdSt sb nb fb tb n va (fun _ => 0) (fun _ => 0) (fun _ => 0) wq
  new : w.heap.size ≤ sb ∧ w.heap.size ≤ nb ∧ w.heap.size ≤ fb ∧ w.heap.size ≤ tb
  below : Below w.heap.size w wq
  sne : sb ≠ tb
theorem made_needs (w : World) (q sb nb fb tb n : Nat) (va : Value) (hs : sb = w.heap.size + 3) (hb : (nb = w.heap.size ∨ nb = w.heap.size + 1 ∨ nb = w.heap.size + 2) ∧ (fb = w.heap.size ∨ fb = w.heap.size + 1 ∨ fb = w.heap.size + 2) ∧ (tb = w.heap.size ∨ tb = w.heap.size + 1 ∨ tb = w.heap.size + 2) ∧ nb ≠ fb ∧ nb ≠ tb ∧ fb ≠ tb)
    (wq : World) (hq : wq = (((((w.drewN q).alloc (.cells (madeCells #[.int .u64 0] n) 71)).alloc (.cells (madeCells #[.int .u64 0] n) 71)).alloc (.cells (madeCells #[.int .u64 0] n) 71)).alloc (.cells #[.slice (some ⟨nb, 0, none⟩) n n, .slice (some ⟨fb, 0, none⟩) n n, .slice (some ⟨tb, 0, none⟩) n n, va] 103))) :
    Made w wq sb nb fb tb n va := by
  subst hs
  obtain ⟨h1, h2, h3, h4, h5, h6⟩ := hb
  generalize ho : Obj.cells (madeCells #[.int .u64 0] n) 71 = o at hq
  have hz : (w.drewN q).heap.size = w.heap.size := rfl
  have e0 : ∀ k, (k = w.heap.size ∨ k = w.heap.size + 1 ∨ k = w.heap.size + 2) → wq.heap[k]? = some o := by
    intro k hk
    rw [hq]
    have hs3 : ((((w.drewN q).alloc o).alloc o).alloc o).heap.size = w.heap.size + 3 := by simp only [World.size_alloc]; omega
    rw [Below.heap_alloc _ _ k (by omega)]
    rcases hk with rfl | rfl | rfl
    · rw [Below.heap_alloc _ _ _ (by simp only [World.size_alloc]; omega), Below.heap_alloc _ _ _ (by simp only [World.size_alloc]; omega)]; exact World.alloc_heap_new (w.drewN q) o
    · rw [Below.heap_alloc _ _ _ (by simp only [World.size_alloc]; omega)]; have := World.alloc_heap_new ((w.drewN q).alloc o) o; simpa [hz] using this
    · have := World.alloc_heap_new (((w.drewN q).alloc o).alloc o) o; simpa [hz] using this
  have e3 : wq.heap[w.heap.size + 3]? = some (.cells #[.slice (some ⟨nb, 0, none⟩) n n, .slice (some ⟨fb, 0, none⟩) n n, .slice (some ⟨tb, 0, none⟩) n n, va] 103 (0, 0)) := by
    rw [hq]
    have := World.alloc_heap_new ((((w.drewN q).alloc o).alloc o).alloc o) (.cells #[.slice (some ⟨nb, 0, none⟩) n n, .slice (some ⟨fb, 0, none⟩) n n, .slice (some ⟨tb, 0, none⟩) n n, va] 103)
    simpa [hz] using this
  refine ⟨⟨e3, made_words (ho ▸ e0 nb h1), made_words (ho ▸ e0 fb h2), made_words (ho ▸ e0 tb h3), by omega⟩, by omega, ?_, by omega⟩
  rw [hq]
  exact ((((Graph.below_drewN w q).alloc (Nat.le_refl _) _).alloc (by simp only [World.size_alloc]; omega) _).alloc (by simp only [World.size_alloc]; omega) _).alloc (by simp only [World.size_alloc]; omega) _
theorem NdSt.setS {w : World} {sb nb fb db n : Nat} {va : Value} {N F S : Nat → Nat} (h : NdSt sb nb fb db n va N F S w) (hs : sb ≠ db) {b : Nat} (v : Nat) : NdSt sb nb fb db n va N F (put1 S b v) (w.setCell ⟨db, b, none⟩ (.int .u64 (v : Nat))) := by
  obtain ⟨h1, h2, h3, h4, h5⟩ := h.ne
  have hne : ∀ k, k ≠ db → (w.setCell ⟨db, b, none⟩ (.int .u64 (v : Nat))).heap[k]? = w.heap[k]? := fun k hk => heap_setCell_other w ⟨db, b, none⟩ k _ hk
  exact ⟨(hne _ hs).trans h.box, h.nr.keep (hne _ (Ne.symm h3)), h.fr.keep (hne _ (Ne.symm h4)), h.sr.set v, h.ne⟩
theorem NdSt.congr {w : World} {sb nb fb db n : Nat} {va : Value} {N F S N' F' S' : Nat → Nat} (h : NdSt sb nb fb db n va N F S w) (he : ∀ b, b < n → N b = N' b ∧ F b = F' b ∧ S b = S' b) : NdSt sb nb fb db n va N' F' S' w := by
  have key : ∀ {g : Nat} {U U' : Nat → Nat}, WRow w g n U → (∀ b, b < n → U b = U' b) → WRow w g n U' := fun h he => by
    obtain ⟨cs, h1, h2, h3⟩ := h
    exact ⟨cs, h1, h2, fun b hb => by rw [h3 b hb, he b hb]⟩
  exact ⟨h.box, key h.nr fun b hb => (he b hb).1, key h.fr fun b hb => (he b hb).2.1, key h.sr fun b hb => (he b hb).2.2, h.ne⟩
theorem need_round {w wr : World} {lb ub db sb nb fb tb n : Nat} {va : Value} {V : Nat → Nat → Nat} {N F S : Nat → Nat} {L : Nat → Look} (hV : SetsAt wr w.heap.size n V) (hN : NdSt sb nb fb tb n va N F S wr) (hL : LookSt lb ub db n va L wr) (hB : Below w.heap.size w wr)
    (h1 : lb ≠ nb ∧ lb ≠ fb ∧ lb ≠ tb ∧ ub ≠ nb ∧ ub ≠ fb ∧ ub ≠ tb ∧ db ≠ nb ∧ db ≠ fb ∧ db ≠ tb) (h2 : sb ≠ tb) (h3 : w.heap.size ≠ sb ∧ w.heap.size ≠ nb ∧ w.heap.size ≠ fb ∧ w.heap.size ≠ tb) (h4 : w.heap.size < sb ∧ w.heap.size < nb ∧ w.heap.size < fb ∧ w.heap.size < tb) (j v1 v2 v3 : Nat) :
    SetsAt ((((wr.setCell ⟨nb, j, none⟩ (.int .u64 (v1 : Nat))).setCell ⟨fb, j, none⟩ (.int .u64 (v2 : Nat))).setCell ⟨tb, j, none⟩ (.int .u64 (v3 : Nat))).drew) w.heap.size n V ∧ NdSt sb nb fb tb n va (put1 N j v1) (put1 F j v2) (put1 S j v3) ((((wr.setCell ⟨nb, j, none⟩ (.int .u64 (v1 : Nat))).setCell ⟨fb, j, none⟩ (.int .u64 (v2 : Nat))).setCell ⟨tb, j, none⟩ (.int .u64 (v3 : Nat))).drew) ∧ LookSt lb ub db n va L ((((wr.setCell ⟨nb, j, none⟩ (.int .u64 (v1 : Nat))).setCell ⟨fb, j, none⟩ (.int .u64 (v2 : Nat))).setCell ⟨tb, j, none⟩ (.int .u64 (v3 : Nat))).drew) ∧ Below w.heap.size w ((((wr.setCell ⟨nb, j, none⟩ (.int .u64 (v1 : Nat))).setCell ⟨fb, j, none⟩ (.int .u64 (v2 : Nat))).setCell ⟨tb, j, none⟩ (.int .u64 (v3 : Nat))).drew) := by
  have hst : ∀ i, i ≠ nb → i ≠ fb → i ≠ tb → ((((wr.setCell ⟨nb, j, none⟩ (.int .u64 (v1 : Nat))).setCell ⟨fb, j, none⟩ (.int .u64 (v2 : Nat))).setCell ⟨tb, j, none⟩ (.int .u64 (v3 : Nat))).drew).heap[i]? = wr.heap[i]? := fun i h1 h2 h3 => by
    show (((wr.setCell ⟨nb, j, none⟩ (.int .u64 (v1 : Nat))).setCell ⟨fb, j, none⟩ (.int .u64 (v2 : Nat))).setCell ⟨tb, j, none⟩ (.int .u64 (v3 : Nat))).heap[i]? = wr.heap[i]?
    rw [heap_setCell_other _ ⟨tb, j, none⟩ i _ h3, heap_setCell_other _ ⟨fb, j, none⟩ i _ h2, heap_setCell_other _ ⟨nb, j, none⟩ i _ h1]
  refine ⟨hV.keep (hst _ h3.2.1 h3.2.2.1 h3.2.2.2), (((hN.setN (b := j) v1).setF (b := j) v2).setS h2 (b := j) v3).below (Below.refl _ _).drew, hL.same3 fun q hq => hst q (by omega) (by omega) (by omega), hB.os, hB.tape, hB.output, ?_, fun i hi => (hst i (by omega) (by omega) (by omega)).trans (hB.block i hi)⟩
  show w.heap.size ≤ (((wr.setCell ⟨nb, j, none⟩ (.int .u64 (v1 : Nat))).setCell ⟨fb, j, none⟩ (.int .u64 (v2 : Nat))).setCell ⟨tb, j, none⟩ (.int .u64 (v3 : Nat))).heap.size
  rw [World.size_setCell, World.size_setCell, World.size_setCell]
  exact hB.size
theorem need_back {w wr : World} {lb ub db sb nb fb tb n : Nat} {va : Value} {V : Nat → Nat → Nat} {N F S : Nat → Nat} {L : Nat → Look} (hV : SetsAt wr w.heap.size n V) (hN : NdSt sb nb fb tb n va N F S wr) (hL : LookSt lb ub db n va L wr) (hB : Below w.heap.size w wr)
    (h3 : w.heap.size ≠ sb ∧ w.heap.size ≠ nb ∧ w.heap.size ≠ fb ∧ w.heap.size ≠ tb) (h4 : lb ≠ w.heap.size ∧ ub ≠ w.heap.size ∧ db ≠ w.heap.size) {r k : Nat} (hr : r < n) (hk : k < 125) (v : Nat) :
    SetsAt ((wr.setCell ⟨w.heap.size, r * 125 + k, none⟩ (.int .u64 (v : Nat))).drew) w.heap.size n (fun c u => if c = r ∧ u = k then v else V c u) ∧ NdSt sb nb fb tb n va N F S ((wr.setCell ⟨w.heap.size, r * 125 + k, none⟩ (.int .u64 (v : Nat))).drew) ∧ LookSt lb ub db n va L ((wr.setCell ⟨w.heap.size, r * 125 + k, none⟩ (.int .u64 (v : Nat))).drew) ∧ Below w.heap.size w ((wr.setCell ⟨w.heap.size, r * 125 + k, none⟩ (.int .u64 (v : Nat))).drew) := by
  have hst : ∀ i, i ≠ w.heap.size → ((wr.setCell ⟨w.heap.size, r * 125 + k, none⟩ (.int .u64 (v : Nat))).drew).heap[i]? = wr.heap[i]? := fun i h => heap_setCell_other wr ⟨w.heap.size, r * 125 + k, none⟩ i _ h
  refine ⟨(hV.set hr hk v).keep rfl, hN.keep fun q hq _ => hst q (by omega), hL.same3 fun q hq => hst q (by omega), hB.os, hB.tape, hB.output, ?_, fun i hi => (hst i (by omega)).trans (hB.block i hi)⟩
  show w.heap.size ≤ (wr.setCell ⟨w.heap.size, r * 125 + k, none⟩ (.int .u64 (v : Nat))).heap.size
  rw [World.size_setCell]
  exact hB.size
end Go.Proofs.YtcijaaiopfbffaaDoor.Live
