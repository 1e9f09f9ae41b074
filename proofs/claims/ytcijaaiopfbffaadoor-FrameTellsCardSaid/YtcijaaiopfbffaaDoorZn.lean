/- A graph that fits: live's fits. No condition but sizes. -/
import Derived.Test.YtcijaaiopfbffaaDoorZm
namespace Go.Proofs.YtcijaaiopfbffaaDoor.Live
open Go.RowKit Go.Proofs.YtcijaaiopfbffaaDoor.Graph

theorem own_form {w : World} {B : Nat} {e : TypeId} {v : Value} {n : Nat} {xs : List Value} (h : w.ownsRow B e 1 v n xs) : ∃ p c, v = .slice p n c ∧ n ≤ 9223372036854775807 := by
  obtain ⟨h1, ⟨rfl, h0⟩ | ⟨g, cap, cur, rfl, hB, hg, hc1, hc2, hc3, hx2⟩⟩ := h
  · subst h0; exact ⟨_, _, rfl, by omega⟩
  · exact ⟨_, _, rfl, by unfold maxLen at hc2; omega⟩
def okBlk (x : PGr) (b : PBlk) : Bool := blkFit x.temps b && (namedN b.fin).all (belowB · x.blocks.length)
theorem fits_no {x : PGr} {k : Nat} {b : PBlk} (hb : x.blocks[k]? = some b) (h : okBlk x b = false) : fitsB x = false := by
  unfold fitsB
  have : x.blocks.all (fun b => blkFit x.temps b && (namedN b.fin).all (belowB · x.blocks.length)) = false := by
    cases hq : x.blocks.all (fun b => blkFit x.temps b && (namedN b.fin).all (belowB · x.blocks.length))
    · rfl
    · have := List.all_eq_true.1 hq b (List.mem_of_getElem? hb)
      unfold okBlk at h
      rw [this] at h; cases h
  rw [this, Bool.and_false]
set_option maxHeartbeats 4000000 in
set_option maxRecDepth 100000 in
theorem fits_any (x : PGr) (vp va vb : Value) (w : World) (h : GrL w vp va vb x) (hs : SmN x) :
    Calls Tryd.prog 30 #[grV x vp va vb] w (Is (.bool (fitsB x)) w) := by
  have HG := Lib.hid h
  have HS := Lib.hid hs
  obtain ⟨pp, pc, rfl⟩ := h.params.form
  obtain ⟨ap, ac, rfl⟩ := h.arrays.form
  have HB := Lib.hid h.blocks
  obtain ⟨bp, bc, rfl⟩ := h.blocks.form
  unfold grV
  obtain ⟨n, hn⟩ : ∃ n, n = x.blocks.length := ⟨_, rfl⟩
  have HN := Lib.hid hn
  rw [← hn]
  clear h hs hn
  have hbad : Hid (¬ (1 ≤ n ∧ n ≤ 20000 ∧ 0 ≤ x.temps ∧ x.temps ≤ 8000) → fitsB x = false) := Lib.hid (fun h => by
    unfold fitsB
    rw [← HN.out, decide_eq_false h]; rfl)
  by_cases g0 : n = 0
  · have hF := hbad.out (by omega)
    rw [hF]
    have g1 : ((n : Nat) : Int) = 0 := by omega
    go_enter Tryd.func30, Tryd.ntmps30
    go_wp2
    go_ret
    exact ⟨rfl, below_alloc w _⟩
  have j0 : (1 : Int) ≤ n := by omega
  by_cases g1 : 20000 < n
  · have hF := hbad.out (by omega)
    rw [hF]
    have g2 : (20000 : Int) < n := by omega
    go_enter Tryd.func30, Tryd.ntmps30
    go_wp2
    go_ret
    exact ⟨rfl, below_alloc w _⟩
  have j1 : (n : Int) ≤ 20000 := by omega
  by_cases g2 : x.temps < 0
  · have hF := hbad.out (by omega)
    rw [hF]
    go_enter Tryd.func30, Tryd.ntmps30
    go_wp2
    go_ret
    exact ⟨rfl, below_alloc w _⟩
  by_cases g3 : 8000 < x.temps
  · have hF := hbad.out (by omega)
    rw [hF]
    go_enter Tryd.func30, Tryd.ntmps30
    go_wp2
    go_ret
    exact ⟨rfl, below_alloc w _⟩
  have j2 : 0 ≤ x.temps := by omega
  have j3 : x.temps ≤ 8000 := by omega
  have HGOOD : Hid ((∀ (j : Nat) (t : PBlk), j < n → x.blocks[j]? = some t → okBlk x t = true) → fitsB x = true) := Lib.hid (fun h => by
    unfold fitsB
    rw [← HN.out, decide_eq_true ⟨by omega, by omega, j2, j3⟩, Bool.true_and, List.all_eq_true]
    intro t ht
    obtain ⟨j, hj, rfl⟩ := List.mem_iff_getElem.1 ht
    have := h j _ (by rw [HN.out]; exact hj) (List.getElem?_eq_getElem hj)
    unfold okBlk at this
    rw [← HN.out] at this
    exact this)
  obtain ⟨g, o, cap, hv, hcap, hgl, _⟩ := SlR.form2 HB.out (by have := HN.out; omega)
  injection hv with hv hv1 hv2
  clear hv1
  subst hv hv2
  obtain ⟨m1, m2⟩ := hcap
  have i2 : (n : Int) ≤ bc := by have := HN.out; omega
  have i3 : (bc : Int) ≤ 9223372036854775807 := by omega
  have HGL := Lib.hid hgl
  clear m1 m2 hgl g0 g1 g2 g3 hbad
  have q0 : ((n : Nat) : Int) ≠ 0 := by omega
  have q1 : ¬ ((20000 : Int) < n) := by omega
  have q2 : ¬ (x.temps < 0) := by omega
  have q3 : ¬ (8000 < x.temps) := by omega
  go_enter Tryd.func30, Tryd.ntmps30
  go_wp2
  clear q0 q1 q2 q3
  obtain ⟨bx, hbx⟩ : ∃ bx, bx = Obj.cells #[.slice pp x.params.length pc, .int .i64 x.temps, .slice ap x.arrays.length ac, .slice (some ⟨g, o, none⟩) n bc] 26 := ⟨_, rfl⟩
  go_loopw [29] (fun i wr => ∃ k : Nat, k ≤ n ∧ i = .int .i64 k ∧ Hid (Below w.heap.size w wr) ∧ Hid (wr.heap[w.heap.size]? = some bx) ∧ Hid (∀ (j : Nat) (t : PBlk), j < k → x.blocks[j]? = some t → okBlk x t = true)) (fun i _ => n - (intOf i).toNat)
  case atStart => exact ⟨0, Nat.zero_le _, rfl, Lib.hid (below_alloc w _), Lib.hid (by rw [hbx]; exact heap_new w _), Lib.hid (fun j t hj => absurd hj (Nat.not_lt_zero _))⟩
  case round =>
    obtain ⟨k, hk, rfl, HBW, HBX, HA⟩ := hrel
    by_cases hlt : k < n
    · obtain ⟨t, ht⟩ : ∃ t, x.blocks[k]? = some t := ⟨_, List.getElem?_eq_getElem (by have := HN.out; omega)⟩
      obtain ⟨vk, vc, vt, hR⟩ := (SlR.at_ (HB.out.below HBW.out) (i := k) (by have := HN.out; omega)).1 t ht
      have HBF := Lib.hid (fun (W : World) (hW : Below wr.heap.size wr W) => blockFits_any t x.temps g (o + k * 10) vk vc vt W (hR.below (Nat.lt_of_lt_of_le HGL.out HBW.out.size) hW) (Nat.lt_of_lt_of_le HGL.out (Nat.le_trans HBW.out.size hW.size)))
      have hX := HBX.out
      rw [hbx] at hX
      have d3 : wr.cell? ⟨w.heap.size, 3, none⟩ = some (.slice (some ⟨g, o, none⟩) n bc) := (cell_of_block hX (k := 3) rfl).1
      have d1 : wr.cell? ⟨w.heap.size, 1, none⟩ = some (.int .i64 x.temps) := (cell_of_block hX (k := 1) rfl).1
      have hsz : w.heap.size < wr.heap.size := (Array.getElem?_eq_some_iff.1 HBX.out).1
      have i0 : (0 : Int) ≤ k := by omega
      have i1 : (k : Int) < n := by omega
      have HT := Lib.hid ht
      clear ht hR hX
      go_upto_region 7 with (fail)
      go_cut [39] from 32 to 39 (fun v wq => v = .bool (!blkFit x.temps t) ∧ Hid (Below wr.heap.size wr wq))
      case first =>
        go_region_law (first | ((try go_simp); go_at_call 52; refine (HBF.out _ (Graph.below_drewN wr _)).mono ?_; rintro e w3 ⟨rfl, hb3⟩; have c3 := (hb3.cell (p := ⟨w.heap.size, 3, none⟩) hsz).trans d3; have c1 := (hb3.cell (p := ⟨w.heap.size, 1, none⟩) hsz).trans d1; have HB3 := Lib.hid hb3; clear hb3))
        all_goals
          go_wp2
          go_meet
          exact ⟨rfl, Lib.hid (below_then (Graph.below_drewN wr _) HB3.out)⟩
      case rest =>
        obtain ⟨rfl, HQ⟩ := hcut
        have HBQ : Hid (Below w.heap.size w wc) := Lib.hid (below_then HBW.out HQ.out)
        have hXq : wc.heap[w.heap.size]? = some bx := (HQ.out.block _ hsz).trans HBX.out
        have HXQ := Lib.hid hXq
        rw [hbx] at hXq
        obtain ⟨a0, _⟩ := cell_of_block hXq (k := 0) rfl
        obtain ⟨a1, _⟩ := cell_of_block hXq (k := 1) rfl
        obtain ⟨a2, _⟩ := cell_of_block hXq (k := 2) rfl
        obtain ⟨a3, _⟩ := cell_of_block hXq (k := 3) rfl
        have HNX := Lib.hid (next_any x _ _ _ (k : Int) wc (HG.out.below HBQ.out) HS.out)
        unfold grV at HNX
        rw [← HN.out] at HNX
        have HNB := Lib.hid (next_mem HT.out)
        obtain ⟨L, hL⟩ : ∃ L, L = nextL x (k : Int) := ⟨_, rfl⟩
        rw [← hL] at HNX HNB
        clear hXq d1 d3 hL
        cases hbf : blkFit x.temps t with
        | false =>
          go_wp2
          go_ret
          exact ⟨by rw [fits_no HT.out (by unfold okBlk; rw [hbf]; rfl)]; rfl, HBQ.out⟩
        | true =>
          have HF := Lib.hid hbf
          go_wp2_with (go_at_call 53; refine HNX.out.mono ?_; rintro e w4 ⟨v4, rfl, h4, hb4⟩; obtain ⟨p4, c4, rfl, hm4⟩ := own_form h4; have H4 := Lib.hid h4; have HB4 := Lib.hid hb4; clear h4 hb4)
          clear a0 a1 a2 a3
          have HB5 : Hid (Below w.heap.size w w4) := Lib.hid (below_then HBQ.out HB4.out)
          obtain ⟨m, hm⟩ : ∃ m, m = L.length := ⟨_, rfl⟩
          rw [← hm] at hm4 H4 ⊢
          have HM := Lib.hid hm
          clear hm HNX
          go_loopw [44] (fun i wr2 => ∃ j : Nat, j ≤ m ∧ i = .int .i64 j ∧ wr2 = w4 ∧ Hid (∀ (q : Nat) (s : Int), q < j → L[q]? = some s → belowB s n = true)) (fun i _ => m - (intOf i).toNat)
          case atStart => exact ⟨0, Nat.zero_le _, rfl, rfl, Lib.hid (fun q s hq => absurd hq (Nat.not_lt_zero _))⟩
          case round =>
            obtain ⟨j, hj, rfl, rfl, HJ⟩ := hrel
            have HBXE : Hid (wr.heap[w.heap.size]? = some bx) := Lib.hid ((HB4.out.block _ (Array.getElem?_eq_some_iff.1 HXQ.out).1).trans HXQ.out)
            by_cases hjm : j < m
            · obtain ⟨s, hs⟩ : ∃ s, L[j]? = some s := ⟨_, List.getElem?_eq_getElem (by have := HM.out; omega)⟩
              obtain ⟨g4, cc4, hv4, ce, _, _, _, hc1, hc2⟩ := own_cell H4.out (k := j) (x := iv s) (by rw [List.getElem?_map, hs]; rfl) hjm
              injection hv4 with e1 _ e3
              subst e1 e3
              have j5 : (j : Int) < m := by omega
              have j6 : (0 : Int) ≤ j := by omega
              have j7 : (m : Int) ≤ c4 := by omega
              have j8 : (c4 : Int) ≤ 9223372036854775807 := by omega
              have HS4 := Lib.hid hs
              have ce2 : wr.cell? ⟨g4, j, none⟩ = some (.int .i64 s) := ce
              clear hs hc1 hc2 ce
              by_cases s0 : s < 0
              · have hF : fitsB x = false := fits_no HT.out (by
                  unfold okBlk
                  rw [HF.out, Bool.true_and]
                  cases hq : (namedN t.fin).all (belowB · x.blocks.length)
                  · rfl
                  · have := List.all_eq_true.1 hq s ((HNB.out s).1 (List.mem_of_getElem? HS4.out))
                    unfold belowB at this; simp at this; omega)
                go_wp2
                go_ret
                exact ⟨by first | rfl | (rw [hF]; rfl), HB5.out⟩
              by_cases s1 : (n : Int) ≤ s
              · have hF : fitsB x = false := fits_no HT.out (by
                  unfold okBlk
                  rw [HF.out, Bool.true_and]
                  cases hq : (namedN t.fin).all (belowB · x.blocks.length)
                  · rfl
                  · have := List.all_eq_true.1 hq s ((HNB.out s).1 (List.mem_of_getElem? HS4.out))
                    have := HN.out
                    unfold belowB at *; simp at *; omega)
                go_wp2
                go_ret
                exact ⟨by first | rfl | (rw [hF]; rfl), HB5.out⟩
              have HOK : Hid (belowB s n = true) := Lib.hid (by unfold belowB; simp; omega)
              go_wp2
              exact ⟨⟨j + 1, by omega, by go_num, (by first | trivial | rfl), Lib.hid (fun q u hq hu => by
                by_cases e : q = j
                · subst e
                  rw [HS4.out] at hu
                  injection hu with hu
                  rw [← hu]; exact HOK.out
                · exact HJ.out q u (by omega) hu)⟩, by simp [intOf]; omega⟩
            · have hjm2 : j = m := by omega
              have hOK : Hid (okBlk x t = true) := Lib.hid (by
                unfold okBlk
                rw [HF.out, Bool.true_and, List.all_eq_true]
                intro s hs
                obtain ⟨q, hq, rfl⟩ := List.mem_iff_getElem.1 ((HNB.out s).2 hs)
                have := HJ.out q _ (by have := HM.out; omega) (List.getElem?_eq_getElem hq)
                rw [HN.out] at this
                exact this)
              have j5 : ¬ ((j : Int) < m) := by omega
              clear HJ
              go_wp2
              exact ⟨⟨k + 1, by omega, by go_num, HB5, HBXE, Lib.hid (fun q u hq hu => by
                by_cases e : q = k
                · subst e
                  rw [HT.out] at hu
                  injection hu with hu
                  rw [← hu]; exact hOK.out
                · exact HA.out q u (by omega) hu)⟩, by simp [intOf]; omega⟩
    · obtain rfl : k = n := by omega
      have hF := HGOOD.out HA.out
      have HBW2 := HBW
      go_wp2
      go_ret
      exact ⟨by rw [hF]; rfl, HBW2.out⟩
end Go.Proofs.YtcijaaiopfbffaaDoor.Live
