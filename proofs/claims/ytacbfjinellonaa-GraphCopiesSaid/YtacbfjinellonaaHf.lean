/- Copy at the first module of 'live'. -/
import Derived.Test.YtacbfjinellonaaHe
namespace Go.Proofs.Ytacbfjinellonaa.Graph
open Go.RowKit

theorem post_below {t : TypeId} {p : Option Addr} {n : Nat} {cs : List Value} {w w' : World} {e : Ending} (h : ListPost t p n cs w e w') (h0 : p = none → n = 0) : ∃ q, e = .returned (.slice q n n) ∧ Below w.heap.size w w' := by
  rcases h with ⟨hp, rfl, rfl⟩ | ⟨_, rfl, rfl⟩
  · rw [h0 hp]; exact ⟨_, rfl, Below.refl _ _⟩
  · exact ⟨_, rfl, below_alloc w _⟩
section
variable (p : Option Addr) (c : Nat) (w : World)
def None0 (w : World) (e : Ending) (w' : World) : Prop := ∃ q, e = .returned (.slice q 0 0) ∧ Below w.heap.size w w'
theorem noneU : Calls Try.prog 40 #[.slice p 0 c] w (None0 w) := (listU_any p 0 c [] w (fun _ => rfl) rfl (fun _ _ _ _ h => by cases h) (fun _ h => by cases h) (by omega) (by omega)).mono fun _ _ h => post_below h (fun _ => rfl)
theorem noneI : Calls Try.prog 41 #[.slice p 0 c] w (None0 w) := (listI_any p 0 c [] w (fun _ => rfl) rfl (fun _ _ _ _ h => by cases h) (fun _ h => by cases h) (by omega) (by omega)).mono fun _ _ h => post_below h (fun _ => rfl)
theorem noneA : Calls Try.prog 67 #[.slice p 0 c] w (None0 w) := (listA_any p 0 c [] w (fun _ => rfl) rfl (fun _ _ _ _ h => by cases h) (fun _ h => by cases h) (by omega) (by omega)).mono fun _ _ h => post_below h (fun _ => rfl)
theorem noneN : Calls Try.prog 97 #[.slice p 0 c] w (None0 w) := (listN_any p 0 c [] w (fun _ => rfl) rfl (fun _ _ _ _ h => by cases h) (fun _ h => by cases h) (by omega) (by omega)).mono fun _ _ h => post_below h (fun _ => rfl)
theorem noneC : Calls Try.prog 98 #[.slice p 0 c] w (None0 w) := (listC_any p 0 c [] w (fun _ => rfl) rfl (fun _ _ _ _ h => by cases h) (fun _ h => by cases h) (by omega) (by omega)).mono fun _ _ h => post_below h (fun _ => rfl)
end
theorem grown_below {w w2 : World} (h : Below w.heap.size w w2) (g : Option Nat) : w.grownBy w2 g := ⟨h.1, h.2, h.3, h.size, fun k hk _ => h.block k hk⟩
theorem grown_step {w w3 w4 : World} {g k : Nat} {v : Value} (h : w.grownBy w3 (some g)) (hb : Below w3.heap.size w3 w4) : w.grownBy (w4.setCell ⟨g, k, none⟩ v) (some g) :=
  ⟨hb.1.trans h.1, hb.2.trans h.2, hb.3.trans h.3, by simpa using Nat.le_trans h.size hb.size, fun j hj hne => by
    rw [heap_setCell_other w4 ⟨g, k, none⟩ j v (fun e => hne (congrArg some e)), hb.block j (Nat.lt_of_lt_of_le hj h.size)]
    exact h.block j hj hne⟩
theorem lt_of_block {w : World} {g : Nat} {o : Obj} (hg : w.heap[g]? = some o) : g < w.heap.size := by
  rcases Nat.lt_or_ge g w.heap.size with h | h
  · exact h
  · rw [Array.getElem?_eq_none h] at hg; cases hg
set_option maxHeartbeats 2000000 in
set_option maxRecDepth 100000 in
theorem copyBlock_good (g : Nat) (p0 p8 p9 : Option Addr) (c0 c8 c9 : Nat) (x1 x2 x3 x4 x5 x6 x7 : Value) (t : TypeId) (w : World)
    (hg : w.heap[g]? = some (.cells #[.slice p0 0 c0, x1, x2, x3, x4, x5, x6, x7, .slice p8 0 c8, .slice p9 0 c9] t (0, 0))) :
    Calls Try.prog 69 #[.pointer (some ⟨g, 0, none⟩)] w fun e w' => e = .returned (.tuple #[]) ∧ w.grownBy w' (some g) := by
  have hl : g < w.heap.size := lt_of_block hg
  obtain ⟨a0, f0⟩ := cell_of_block hg (k := 0) rfl
  obtain ⟨a8, f8⟩ := cell_of_block hg (k := 8) rfl
  obtain ⟨a9, f9⟩ := cell_of_block hg (k := 9) rfl
  have HG := Lib.hid hg
  clear hg
  go_enter Try.func69, Try.ntmps69
  go_wp2_with (go_at_call 97; refine (noneN p0 c0 w).mono ?_; rintro e w2 ⟨q0, rfl, h2⟩
               have H2 := Lib.hid h2
               obtain ⟨b0, d0⟩ := cell_of_block ((h2.block g hl).trans HG.out) (k := 0) rfl
               have hl2 : g < w2.heap.size := Nat.lt_of_lt_of_le hl h2.size
               clear h2)
  have H3 := Lib.hid (grown_step (k := 0) (v := .slice q0 0 0) (World.grownBy.refl w (some g)) H2.out)
  have HG3 : Hid ((w2.setCell ⟨g, 0, none⟩ (.slice q0 0 0)).heap[g]? = some (.cells #[.slice q0 0 0, x1, x2, x3, x4, x5, x6, x7, .slice p8 0 c8, .slice p9 0 c9] t (0, 0))) := Lib.hid (heap_setCell_same w2 g 0 _ t _ ((H2.out.block g hl).trans HG.out))
  generalize hw3 : w2.setCell ⟨g, 0, none⟩ (.slice q0 0 0) = w3
  rw [hw3] at H3 HG3
  clear hw3 a0 f0 b0 d0 hl2
  obtain ⟨a8, f8⟩ := cell_of_block HG3.out (k := 8) rfl
  have hl3 := lt_of_block HG3.out
  go_loopw [16] (fun i wr => i = .int .i64 0 ∧ wr = w3) (fun _ _ => 0)
  case atStart => exact ⟨rfl, rfl⟩
  case round =>
    obtain ⟨rfl, rfl⟩ := hrel
    go_wp2_with (first
      | (go_at_call 98; refine (noneC p8 c8 _).mono ?_; rintro e w4 ⟨q8, rfl, h4⟩
         have H4 := Lib.hid h4
         obtain ⟨b8, d8⟩ := cell_of_block ((h4.block g hl3).trans HG3.out) (k := 8) rfl
         obtain ⟨b9, d9⟩ := cell_of_block ((h4.block g hl3).trans HG3.out) (k := 9) rfl
         have hl4 : g < w4.heap.size := Nat.lt_of_lt_of_le hl3 h4.size
         have H5 := Lib.hid (grown_step (k := 8) (v := .slice q8 0 0) H3.out h4)
         have HG5 := Lib.hid (heap_setCell_same w4 g 8 _ t (.slice q8 0 0) ((h4.block g hl3).trans HG3.out))
         have hl5 := lt_of_block HG5.out
         clear h4)
      | (go_at_call 41; refine (noneI p9 c9 _).mono ?_; rintro e w6 ⟨q9, rfl, h6⟩
         have H7 := Lib.hid (grown_step (k := 9) (v := .slice q9 0 0) H5.out h6)
         obtain ⟨b9, d9⟩ := cell_of_block ((h6.block g hl5).trans HG5.out) (k := 9) rfl
         have hl6 : g < w6.heap.size := Nat.lt_of_lt_of_le hl5 h6.size
         clear h6))
    go_end0
    exact ⟨rfl, H7.out⟩
theorem add_none (b o j : Nat) : (⟨b, o, none⟩ : Addr).add j = ⟨b, o + j, none⟩ := by unfold Addr.add; split <;> simp_all
theorem grown_past {w w5 w6 : World} {g nb : Nat} (h : w.grownBy w5 (some g)) (h2 : w5.grownBy w6 (some nb)) (hn : w.heap.size ≤ nb) : w.grownBy w6 (some g) :=
  ⟨h2.1.trans h.1, h2.2.trans h.2, h2.3.trans h.3, Nat.le_trans h.size h2.size, fun j hj hne => (h2.block j (Nat.lt_of_lt_of_le hj h.size) (fun e => by injection e with e; omega)).trans (h.block j hj hne)⟩
def blkCs (pk pc pt : Option Addr) (ck cc ct : Nat) : List Value := [.slice pk 0 ck, .int .i64 5, .int .i64 0, .int .i64 (-1), .int .i64 0, .int .u32 0, .int .i64 0, .int .i64 0, .slice pc 0 cc, .slice pt 0 ct]
theorem blkCs_one (pk pc pt : Option Addr) (ck cc ct : Nat) : ∀ v ∈ blkCs pk pc pt ck cc ct, v.oneCell' = true := by
  intro v hv
  simp only [blkCs, List.mem_cons, List.mem_nil_iff, or_false] at hv
  rcases hv with rfl | rfl | rfl | rfl | rfl | rfl | rfl | rfl | rfl | rfl <;> rfl
set_option maxHeartbeats 4000000 in
set_option maxRecDepth 100000 in
theorem copyFunc_good (g : Nat) (p0 p2 : Option Addr) (c0 c2 : Nat) (x1 : Value) (t : TypeId) (bb bo cb : Nat) (pk pc pt : Option Addr) (ck cc ct : Nat) (w : World)
    (hg : w.heap[g]? = some (.cells #[.slice p0 0 c0, x1, .slice p2 0 c2, .slice (some ⟨bb, bo, none⟩) 1 cb] t (0, 0))) (hbb : bb < w.heap.size) (hne : bb ≠ g)
    (hc : ∀ j v, (blkCs pk pc pt ck cc ct)[j]? = some v → w.cell? ⟨bb, bo + j, none⟩ = some v) :
    Calls Try.prog 43 #[.pointer (some ⟨g, 0, none⟩)] w fun e w' => e = .returned (.tuple #[]) ∧ w.grownBy w' (some g) := by
  have hl : g < w.heap.size := lt_of_block hg
  obtain ⟨a0, f0⟩ := cell_of_block hg (k := 0) rfl
  have HG := Lib.hid hg
  have HC : Hid (∀ w', w.grownBy w' (some g) → ∀ j v, (blkCs pk pc pt ck cc ct)[j]? = some v → w'.cell? ⟨bb, bo + j, none⟩ = some v) := Lib.hid (fun w' hw j v hj => by
    rw [← hc j v hj]
    unfold World.cell?
    rw [hw.block bb hbb (fun e => hne (by injection e))])
  clear hg hc
  go_enter Try.func43, Try.ntmps43
  go_upto_region 1 with (
    go_at_call 41
    refine (noneI p0 c0 w).mono ?_
    rintro e w2 ⟨q0, rfl, h2⟩
    have H2 := Lib.hid h2
    obtain ⟨b0, d0⟩ := cell_of_block ((h2.block g hl).trans HG.out) (k := 0) rfl
    have hl2 : g < w2.heap.size := Nat.lt_of_lt_of_le hl h2.size
    have H3 := Lib.hid (grown_step (k := 0) (v := .slice q0 0 0) (World.grownBy.refl w (some g)) h2)
    have HG3 := Lib.hid (heap_setCell_same w2 g 0 _ t (.slice q0 0 0) ((h2.block g hl).trans HG.out))
    clear h2)
  generalize hw3 : w2.setCell ⟨g, 0, none⟩ (.slice q0 0 0) = w3
  rw [hw3] at H3 HG3
  clear hw3 a0 f0 b0 d0 hl2 H2
  replace HG3 : Hid (w3.heap[g]? = some (.cells #[.slice q0 0 0, x1, .slice p2 0 c2, .slice (some ⟨bb, bo, none⟩) 1 cb] t (0, 0))) := Lib.hid HG3.out
  obtain ⟨a2, f2⟩ := cell_of_block HG3.out (k := 2) rfl
  have hl3 := lt_of_block HG3.out
  go_upto_region 2 with (
    go_at_call 67
    refine (noneA p2 c2 w3).mono ?_
    rintro e w4 ⟨q2, rfl, h4⟩
    obtain ⟨b2, d2⟩ := cell_of_block ((h4.block g hl3).trans HG3.out) (k := 2) rfl
    have hl4 : g < w4.heap.size := Nat.lt_of_lt_of_le hl3 h4.size
    have H5 := Lib.hid (grown_step (k := 2) (v := .slice q2 0 0) H3.out h4)
    have HG5 := Lib.hid (heap_setCell_same w4 g 2 _ t (.slice q2 0 0) ((h4.block g hl3).trans HG3.out))
    clear h4)
  generalize hw5 : w4.setCell ⟨g, 2, none⟩ (.slice q2 0 0) = w5
  rw [hw5] at H5 HG5
  clear hw5 a2 f2 b2 d2 hl4 H3 HG3 hl3
  replace HG5 : Hid (w5.heap[g]? = some (.cells #[.slice q0 0 0, x1, .slice q2 0 0, .slice (some ⟨bb, bo, none⟩) 1 cb] t (0, 0))) := Lib.hid HG5.out
  obtain ⟨a3, f3⟩ := cell_of_block HG5.out (k := 3) rfl
  have hl5 := lt_of_block HG5.out
  go_upto_region 3 with (
    go_at_call 68
    fail)
  · refine (listB_any (some ⟨bb, bo, none⟩) 1 cb (blkCs pk pc pt ck cc ct) w5 (fun h => by cases h) rfl (fun a ha j v hj => by injection ha with ha; subst ha; rw [add_none]; exact HC.out w5 H5.out j v hj) (blkCs_one _ _ _ _ _ _) (by omega) (by omega)).mono ?_
    rintro e w6 h6
    rcases h6 with ⟨h6, _⟩ | ⟨_, rfl, rfl⟩
    · cases h6
    have hb6 := below_alloc w5 (.cells (blkCs pk pc pt ck cc ct).toArray 50)
    obtain ⟨b3, d3⟩ := cell_of_block ((hb6.block g hl5).trans HG5.out) (k := 3) rfl
    have hl6 : g < (w5.alloc (.cells (blkCs pk pc pt ck cc ct).toArray 50)).heap.size := Nat.lt_of_lt_of_le hl5 hb6.size
    have H7 := Lib.hid (grown_step (k := 3) (v := .slice (some ⟨w5.heap.size, 0, none⟩) 1 1) H5.out hb6)
    have HG7 := Lib.hid (heap_setCell_same _ g 3 _ t (.slice (some ⟨w5.heap.size, 0, none⟩) 1 1) ((hb6.block g hl5).trans HG5.out))
    have HB7 := Lib.hid ((heap_setCell_other (w5.alloc (.cells (blkCs pk pc pt ck cc ct).toArray 50)) ⟨g, 3, none⟩ w5.heap.size (.slice (some ⟨w5.heap.size, 0, none⟩) 1 1) (Nat.ne_of_gt hl5)).trans (heap_new w5 _))
    clear hb6
    go_wp2
    have hcomm : (w5.alloc (.cells (blkCs pk pc pt ck cc ct).toArray 50)).setCell ⟨g, 3, none⟩ (.slice (some ⟨w5.heap.size, 0, none⟩) 1 1) = (w5.setCell ⟨g, 3, none⟩ (.slice (some ⟨w5.heap.size, 0, none⟩) 1 1)).alloc (.cells (blkCs pk pc pt ck cc ct).toArray 50) := by go_simp
    rw [hcomm] at H7 HG7 HB7
    generalize hw7 : (w5.setCell ⟨g, 3, none⟩ (.slice (some ⟨w5.heap.size, 0, none⟩) 1 1)).alloc (.cells (blkCs pk pc pt ck cc ct).toArray 50) = w7
    rw [hw7] at H7 HG7 HB7
    clear hcomm
    clear hw7 d3 hl6 f3
    obtain ⟨a3, f3⟩ := cell_of_block HG7.out (k := 3) rfl
    have hl7 := lt_of_block HG7.out
    go_loopw [32] (fun i wr => (i = .int .i64 0 ∧ wr = w7) ∨ (i = .int .i64 1 ∧ w.grownBy wr (some g))) (fun i _ => 1 - (intOf i).toNat)
    case atStart => exact .inl ⟨rfl, rfl⟩
    case round =>
      rcases hrel with ⟨rfl, rfl⟩ | ⟨rfl, hgr⟩
      · go_wp2_with (
          go_at_call 69
          refine (copyBlock_good w5.heap.size pk pc pt ck cc ct _ _ _ _ _ _ _ _ _ HB7.out).mono ?_
          rintro e w8 ⟨rfl, h8⟩
          have H8 := Lib.hid (grown_past H7.out h8 H5.out.size)
          clear h8)
        exact ⟨.inr ⟨rfl, H8.out⟩, by simp [intOf]⟩
      · have HGR := Lib.hid hgr
        clear hgr
        go_wp2
        go_end0
        exact ⟨rfl, HGR.out⟩
end Go.Proofs.Ytacbfjinellonaa.Graph
