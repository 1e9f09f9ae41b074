/- Copy at the first module of 'live': the module. -/
import Derived.Test.YtacbfjinellonaaHf
namespace Go.Proofs.Ytacbfjinellonaa.Graph
open Go.RowKit

theorem below_set {w w4 w3 : World} {B k : Nat} {v : Value} (h : Below w.heap.size w w3) (hb : Below w3.heap.size w3 w4) (hB : w.heap.size ≤ B) : Below w.heap.size w (w4.setCell ⟨B, k, none⟩ v) := (below_then h hb).setCell hB v
theorem below_grown {w w3 w4 : World} {g : Nat} (h : Below w.heap.size w w3) (hb : w3.grownBy w4 (some g)) (hg : w.heap.size ≤ g) : Below w.heap.size w w4 :=
  ⟨hb.1.trans h.1, hb.2.trans h.2, hb.3.trans h.3, Nat.le_trans h.size hb.size, fun k hk => (hb.block k (Nat.lt_of_lt_of_le hk h.size) (fun e => by injection e with e; omega)).trans (h.block k hk)⟩
def grCs (pp ap bp : Option Addr) (pc ac bc : Nat) : List Value := [.slice pp 0 pc, .int .i64 0, .slice ap 0 ac, .slice bp 1 bc]
theorem grCs_one (pp ap bp : Option Addr) (pc ac bc : Nat) : ∀ v ∈ grCs pp ap bp pc ac bc, v.oneCell' = true := by
  intro v hv
  simp only [grCs, List.mem_cons, List.mem_nil_iff, or_false] at hv
  rcases hv with rfl | rfl | rfl | rfl <;> rfl
theorem first_cells {w wr : World} {g o cap n : Nat} (h : BlksR w (.slice (some ⟨g, o, none⟩) n cap) [goodB]) (hb : Below w.heap.size w wr) :
    ∃ pk ck pc cc pt ct, (∀ j v, (blkCs pk pc pt ck cc ct)[j]? = some v → wr.cell? ⟨g, o + j, none⟩ = some v) ∧ g < wr.heap.size := by
  obtain ⟨pk, ck, vc, vt, c0, _, he, l0⟩ := first_blk h hb
  obtain ⟨pc, cc, rfl⟩ := he.l.cases.form
  obtain ⟨pt, ct, rfl⟩ := he.l.targets.form
  refine ⟨pk, ck, pc, cc, pt, ct, ?_, l0⟩
  intro j v hj
  have e1 : ∀ k, o + 1 + k = o + (k + 1) := fun k => by omega
  have f1 := he.op; have f2 := he.fa; have f3 := he.fb; have f4 := he.n; have f5 := he.to; have f6 := he.els; have f7 := he.cc; have f8 := he.ct
  rw [e1] at f1 f2 f3 f4 f5 f6 f7 f8
  match j, hj with
  | 0, hj => injection hj with hj; subst hj; exact c0
  | 1, hj => injection hj with hj; subst hj; exact he.kind
  | 2, hj => injection hj with hj; subst hj; exact f1
  | 3, hj => injection hj with hj; subst hj; exact f2
  | 4, hj => injection hj with hj; subst hj; exact f3
  | 5, hj => injection hj with hj; subst hj; exact f4
  | 6, hj => injection hj with hj; subst hj; exact f5
  | 7, hj => injection hj with hj; subst hj; exact f6
  | 8, hj => injection hj with hj; subst hj; exact f7
  | 9, hj => injection hj with hj; subst hj; exact f8
  | j + 10, hj => simp [blkCs] at hj
set_option maxHeartbeats 4000000 in
set_option maxRecDepth 100000 in
theorem copy_good (vg vr vf : Value) (w : World) (hM : ModL w vg vr vf (oneM goodB)) :
    Calls Try.prog 17 #[modV (oneM goodB) vg vr vf] w fun e w' => (∃ v0 v1 q c v3, e = .returned (.agg #[v0, v1, .slice q 1 c, v3])) ∧ Below w.heap.size w w' := by
  have HF := hM.funcs
  obtain ⟨gp, gc, rfl⟩ := hM.globals.form
  obtain ⟨rp, rc, rfl⟩ := hM.arrays.form
  obtain ⟨g, o, fc, rfl, ⟨k0, k1⟩, hg, _⟩ := SlR.form2 HF (by simp)
  have HG : Hid (∃ pp pc ap ac bb bo bc, bb < w.heap.size ∧ ∀ wr, Below w.heap.size w wr → (∀ j v, (grCs pp ap (some ⟨bb, bo, none⟩) pc ac bc)[j]? = some v → wr.cell? ⟨g, o + j, none⟩ = some v) ∧
      ∃ pk ck pc cc pt ct, (∀ j v, (blkCs pk pc pt ck cc ct)[j]? = some v → wr.cell? ⟨bb, bo + j, none⟩ = some v)) := by
    obtain ⟨h1, h2⟩ := SlR.at_ HF (i := 0) (by simp)
    obtain ⟨vp, va, vb, h3⟩ := h1 _ rfl
    obtain ⟨pp, pc, rfl⟩ := h3.l.params.form
    obtain ⟨ap, ac, rfl⟩ := h3.l.arrays.form
    have hB := h3.l.blocks
    obtain ⟨bb, bo, bc, rfl, _, hbb, _⟩ := SlR.form2 hB (by simp)
    refine ⟨pp, pc, ap, ac, bb, bo, bc, hbb, fun wr hw => ⟨?_, ?_⟩⟩
    · intro j v hj
      have h4 := h3.below h2 hw
      have e1 : o + 0 * 4 = o := by omega
      rw [e1] at h4
      match j, hj with
      | 0, hj => injection hj with hj; subst hj; exact h4.cp
      | 1, hj => injection hj with hj; subst hj; exact h4.temps
      | 2, hj => injection hj with hj; subst hj; exact h4.ca
      | 3, hj => injection hj with hj; subst hj; exact h4.cb
      | j + 4, hj => simp [grCs] at hj
    · obtain ⟨pk, ck, pc, cc, pt, ct, h, _⟩ := first_cells hB hw
      exact ⟨pk, ck, pc, cc, pt, ct, h⟩
  obtain ⟨pp, pc, ap, ac, bb, bo, bc, hbb, hg2⟩ := HG.out
  have HG2 := Lib.hid hg2
  unfold modV
  clear hM HF HG hg2
  go_enter Try.func17, Try.ntmps17
  go_upto_region 1 with (fail)
  have HW2 := Lib.hid (below2 w (.cells #[.slice gp 0 gc, .slice rp 0 rc, .slice (some ⟨g, o, none⟩) 1 fc, .int .i64 0] 26) (.cells #[.slice none 0 0, .slice none 0 0, .slice none 0 0, .int .i64 0] 26))
  have HB2 : Hid (((w.alloc (.cells #[.slice gp 0 gc, .slice rp 0 rc, .slice (some ⟨g, o, none⟩) 1 fc, .int .i64 0] 26)).alloc (.cells #[.slice none 0 0, .slice none 0 0, .slice none 0 0, .int .i64 0] 26)).heap[w.heap.size]? = some (.cells #[.slice gp 0 gc, .slice rp 0 rc, .slice (some ⟨g, o, none⟩) 1 fc, .int .i64 0] 26 (0, 0))) := Lib.hid (by
    rw [(below_alloc (w.alloc _) _).block w.heap.size (by simp [World.size_alloc])]; exact heap_new w _)
  have HZ2 : Hid (((w.alloc (.cells #[.slice gp 0 gc, .slice rp 0 rc, .slice (some ⟨g, o, none⟩) 1 fc, .int .i64 0] 26)).alloc (.cells #[.slice none 0 0, .slice none 0 0, .slice none 0 0, .int .i64 0] 26)).heap[w.heap.size + 1]? = some (.cells #[.slice none 0 0, .slice none 0 0, .slice none 0 0, .int .i64 0] 26 (0, 0))) := Lib.hid (by
    have h := heap_new (w.alloc (.cells #[.slice gp 0 gc, .slice rp 0 rc, .slice (some ⟨g, o, none⟩) 1 fc, .int .i64 0] 26)) (.cells #[.slice none 0 0, .slice none 0 0, .slice none 0 0, .int .i64 0] 26)
    rw [World.size_alloc] at h
    exact h)
  generalize hw1 : (w.alloc (.cells #[.slice gp 0 gc, .slice rp 0 rc, .slice (some ⟨g, o, none⟩) 1 fc, .int .i64 0] 26)).alloc (.cells #[.slice none 0 0, .slice none 0 0, .slice none 0 0, .int .i64 0] 26) = w1
  rw [hw1] at HW2 HB2 HZ2
  clear hw1
  have HW := HW2
  have HB : Hid (w1.heap[w.heap.size]? = some (.cells #[.slice gp 0 gc, .slice rp 0 rc, .slice (some ⟨g, o, none⟩) 1 fc, .int .i64 0] 26 (0, 0))) := Lib.hid HB2.out
  have HZ := HZ2
  clear HW2 HB2 HZ2
  obtain ⟨a0, f0⟩ := cell_of_block HB.out (k := 0) rfl
  have hlB := lt_of_block HB.out
  have hlZ := lt_of_block HZ.out
  go_upto_region 2 with (
    go_at_call 40
    refine (noneU _ _ w1).mono ?_
    rintro e w20 ⟨q0, rfl, h4⟩
    obtain ⟨b2, d2⟩ := cell_of_block ((h4.block _ hlB).trans HB.out) (k := 0) rfl
    have hl4 : w.heap.size < w20.heap.size := Nat.lt_of_lt_of_le hlB h4.size
    have HW2 := Lib.hid (below_set (k := 0) (v := .slice q0 0 0) (B := w.heap.size) HW.out h4 (Nat.le_refl _))
    have HB2 := Lib.hid (heap_setCell_same w20 w.heap.size 0 _ _ (.slice q0 0 0) ((h4.block _ hlB).trans HB.out))
    have HZ2 := Lib.hid ((heap_setCell_other w20 ⟨w.heap.size, 0, none⟩ (w.heap.size + 1) (.slice q0 0 0) (by simp)).trans ((h4.block _ hlZ).trans HZ.out))
    clear h4)
  generalize hw5 : w20.setCell ⟨w.heap.size, 0, none⟩ (.slice q0 0 0) = w2
  rw [hw5] at HW2 HB2 HZ2
  clear hw5 b2 d2 hl4 a0 f0 HW HB HZ hlB hlZ
  have HW := HW2
  have HB : Hid (w2.heap[w.heap.size]? = some (.cells #[.slice q0 0 0, .slice rp 0 rc, .slice (some ⟨g, o, none⟩) 1 fc, .int .i64 0] 26 (0, 0))) := Lib.hid HB2.out
  have HZ := HZ2
  clear HW2 HB2 HZ2
  obtain ⟨a0, f0⟩ := cell_of_block HB.out (k := 1) rfl
  have hlB := lt_of_block HB.out
  have hlZ := lt_of_block HZ.out
  go_upto_region 3 with (
    go_at_call 41
    refine (noneI _ _ w2).mono ?_
    rintro e w30 ⟨q1, rfl, h4⟩
    obtain ⟨b2, d2⟩ := cell_of_block ((h4.block _ hlB).trans HB.out) (k := 1) rfl
    have hl4 : w.heap.size < w30.heap.size := Nat.lt_of_lt_of_le hlB h4.size
    have HW2 := Lib.hid (below_set (k := 1) (v := .slice q1 0 0) (B := w.heap.size) HW.out h4 (Nat.le_refl _))
    have HB2 := Lib.hid (heap_setCell_same w30 w.heap.size 1 _ _ (.slice q1 0 0) ((h4.block _ hlB).trans HB.out))
    have HZ2 := Lib.hid ((heap_setCell_other w30 ⟨w.heap.size, 1, none⟩ (w.heap.size + 1) (.slice q1 0 0) (by simp)).trans ((h4.block _ hlZ).trans HZ.out))
    clear h4)
  generalize hw5 : w30.setCell ⟨w.heap.size, 1, none⟩ (.slice q1 0 0) = w3
  rw [hw5] at HW2 HB2 HZ2
  clear hw5 b2 d2 hl4 a0 f0 HW HB HZ hlB hlZ
  have HW := HW2
  have HB : Hid (w3.heap[w.heap.size]? = some (.cells #[.slice q0 0 0, .slice q1 0 0, .slice (some ⟨g, o, none⟩) 1 fc, .int .i64 0] 26 (0, 0))) := Lib.hid HB2.out
  have HZ := HZ2
  clear HW2 HB2 HZ2
  obtain ⟨a0, f0⟩ := cell_of_block HB.out (k := 2) rfl
  have hlB := lt_of_block HB.out
  have hlZ := lt_of_block HZ.out
  go_upto_region 4 with (
    go_at_call 42
    fail)
  refine (listG_any (some ⟨g, o, none⟩) 1 fc (grCs pp ap (some ⟨bb, bo, none⟩) pc ac bc) w3 (fun h => by cases h) rfl (fun a ha j v hj => by injection ha with ha; subst ha; rw [add_none]; exact (HG2.out w3 HW.out).1 j v hj) (grCs_one _ _ _ _ _ _) (by omega) (by omega)).mono ?_
  rintro e w6 h6
  rcases h6 with ⟨h6, _⟩ | ⟨_, rfl, rfl⟩
  · cases h6
  have hb6 := below_alloc w3 (.cells (grCs pp ap (some ⟨bb, bo, none⟩) pc ac bc).toArray 37)
  obtain ⟨b2, d2⟩ := cell_of_block ((hb6.block _ hlB).trans HB.out) (k := 2) rfl
  have hl6 : w.heap.size < (w3.alloc (.cells (grCs pp ap (some ⟨bb, bo, none⟩) pc ac bc).toArray 37)).heap.size := Nat.lt_of_lt_of_le hlB hb6.size
  have HW2 := Lib.hid (below_set (k := 2) (v := .slice (some ⟨w3.heap.size, 0, none⟩) 1 1) (B := w.heap.size) HW.out hb6 (Nat.le_refl _))
  have HB2 := Lib.hid (heap_setCell_same (w3.alloc (.cells (grCs pp ap (some ⟨bb, bo, none⟩) pc ac bc).toArray 37)) w.heap.size 2 _ _ (.slice (some ⟨w3.heap.size, 0, none⟩) 1 1) ((hb6.block _ hlB).trans HB.out))
  have HZ2 := Lib.hid ((heap_setCell_other (w3.alloc (.cells (grCs pp ap (some ⟨bb, bo, none⟩) pc ac bc).toArray 37)) ⟨w.heap.size, 2, none⟩ (w.heap.size + 1) (.slice (some ⟨w3.heap.size, 0, none⟩) 1 1) (by simp)).trans ((hb6.block _ hlZ).trans HZ.out))
  have HN2 := Lib.hid ((heap_setCell_other (w3.alloc (.cells (grCs pp ap (some ⟨bb, bo, none⟩) pc ac bc).toArray 37)) ⟨w.heap.size, 2, none⟩ w3.heap.size (.slice (some ⟨w3.heap.size, 0, none⟩) 1 1) (Nat.ne_of_gt hlB)).trans (heap_new w3 _))
  clear hb6
  go_wp2
  have hcomm : (w3.alloc (.cells (grCs pp ap (some ⟨bb, bo, none⟩) pc ac bc).toArray 37)).setCell ⟨w.heap.size, 2, none⟩ (.slice (some ⟨w3.heap.size, 0, none⟩) 1 1) = (w3.setCell ⟨w.heap.size, 2, none⟩ (.slice (some ⟨w3.heap.size, 0, none⟩) 1 1)).alloc (.cells (grCs pp ap (some ⟨bb, bo, none⟩) pc ac bc).toArray 37) := by go_simp
  rw [hcomm] at HW2 HB2 HZ2 HN2
  generalize hw7 : (w3.setCell ⟨w.heap.size, 2, none⟩ (.slice (some ⟨w3.heap.size, 0, none⟩) 1 1)).alloc (.cells (grCs pp ap (some ⟨bb, bo, none⟩) pc ac bc).toArray 37) = w7
  rw [hw7] at HW2 HB2 HZ2 HN2
  have hNg : w.heap.size + 1 < w3.heap.size := hlZ
  clear hcomm hw7 b2 d2 hl6 a0 f0 HW HB HZ hlB hlZ
  replace HB2 : Hid (w7.heap[w.heap.size]? = some (.cells #[.slice q0 0 0, .slice q1 0 0, .slice (some ⟨w3.heap.size, 0, none⟩) 1 1, .int .i64 0] 26 (0, 0))) := Lib.hid HB2.out
  go_loopw [19] (fun i wr => (i = .int .i64 0 ∧ wr = w7) ∨ (i = .int .i64 1 ∧ Hid (Below w.heap.size w wr ∧ wr.heap[w.heap.size]? = some (.cells #[.slice q0 0 0, .slice q1 0 0, .slice (some ⟨w3.heap.size, 0, none⟩) 1 1, .int .i64 0] 26 (0, 0)) ∧ wr.heap[w.heap.size + 1]? = some (.cells #[.slice none 0 0, .slice none 0 0, .slice none 0 0, .int .i64 0] 26 (0, 0))))) (fun i _ => 1 - (intOf i).toNat)
  case atStart => exact .inl ⟨rfl, rfl⟩
  case round =>
    rcases hrel with ⟨rfl, rfl⟩ | ⟨rfl, HR⟩
    · obtain ⟨a0, f0⟩ := cell_of_block HB2.out (k := 2) rfl
      have hlB := lt_of_block HB2.out
      obtain ⟨pk, ck, pc2, cc2, pt, ct, hblk⟩ := (HG2.out _ HW2.out).2
      have HBL := Lib.hid hblk
      clear hblk
      go_wp2_with (
        go_at_call 43
        refine (copyFunc_good w3.heap.size pp ap pc ac _ _ bb bo bc pk pc2 pt ck cc2 ct _ HN2.out (Nat.lt_of_lt_of_le hbb HW2.out.size) (by omega) HBL.out).mono ?_
        rintro e w8 ⟨rfl, h8⟩
        have HR8 := Lib.hid (show Below w.heap.size w w8 ∧ _ ∧ _ from ⟨below_grown HW2.out h8 (by omega), (h8.block _ hlB (fun e => by injection e with e; omega)).trans HB2.out, (h8.block _ (lt_of_block HZ2.out) (fun e => by injection e with e; omega)).trans HZ2.out⟩)
        clear h8)
      exact ⟨.inr ⟨rfl, HR8⟩, by simp [intOf]⟩
    · obtain ⟨hx1, hx2, hx3⟩ := HR.out
      obtain ⟨a0, _⟩ := cell_of_block hx2 (k := 0) rfl
      obtain ⟨a1, _⟩ := cell_of_block hx2 (k := 1) rfl
      obtain ⟨a2, _⟩ := cell_of_block hx2 (k := 2) rfl
      obtain ⟨a3, _⟩ := cell_of_block hx2 (k := 3) rfl
      obtain ⟨z0, y0⟩ := cell_of_block hx3 (k := 0) rfl
      obtain ⟨z1, y1⟩ := cell_of_block hx3 (k := 1) rfl
      obtain ⟨z2, y2⟩ := cell_of_block hx3 (k := 2) rfl
      obtain ⟨z3, y3⟩ := cell_of_block hx3 (k := 3) rfl
      have hlB := lt_of_block hx2
      have hlZ := lt_of_block hx3
      have HX1 := Lib.hid hx1
      clear hx1 hx2 hx3
      go_wp2
      refine bodyPost_ret (v := .agg #[.slice q0 0 0, .slice q1 0 0, .slice (some ⟨w3.heap.size, 0, none⟩) 1 1, .int .i64 0]) ?_ rfl ⟨⟨_, _, _, _, _, rfl⟩, ?_⟩
      · simp [results, Try.results17, go_sem, hlZ, z0, z1, z2, z3]
      · exact (((HX1.out.setCell (Nat.le_succ _) _).setCell (Nat.le_succ _) _).setCell (Nat.le_succ _) _).setCell (Nat.le_succ _) _
end Go.Proofs.Ytacbfjinellonaa.Graph
