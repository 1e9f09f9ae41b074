/- What Live does. No condition but sizes and the table of bits. -/
import Derived.Test.YtcijaaiopfbffaaDoorLva
namespace Go.Proofs.YtcijaaiopfbffaaDoor.Live
open Go.RowKit Go.Proofs.YtcijaaiopfbffaaDoor.Graph Go.Shelf

set_option maxHeartbeats 8000000 in
set_option maxRecDepth 100000 in
theorem live_no (x : PGr) (vp va vb : Value) (w : World) (h : GrL w vp va vb x) (hs : SmN x) (hf : fitsB x = false) :
    Calls Tryd.prog 10 #[grV x vp va vb] w fun e w' => e = .returned (.tuple #[.slice none 0 0, .int .i64 1]) ∧ Below w.heap.size w w' := by
  obtain ⟨pp, pc, rfl⟩ := h.params.form
  obtain ⟨ap, ac, rfl⟩ := h.arrays.form
  have HG := Lib.hid h
  obtain ⟨bp, bc, rfl⟩ := h.blocks.form
  have HF := Lib.hid (fun (W : World) (hW : Below w.heap.size w W) => fits_any x _ _ _ W (HG.out.below hW) hs)
  rw [hf] at HF
  unfold grV at HF ⊢
  clear h hs hf
  go_enter Tryd.func10, Tryd.ntmps10
  go_wp2_with (
    go_at_call 30
    refine (HF.out _ (Graph.below_alloc w _)).mono ?_
    rintro e w2 ⟨rfl, hb⟩
    have HB := Lib.hid hb
    clear hb)
  go_ret2
  exact ⟨rfl, below_then (Graph.below_alloc w _) HB.out⟩
set_option maxHeartbeats 8000000 in
set_option maxRecDepth 100000 in
theorem live_ok (x : PGr) (vp va vb : Value) (w : World) (h : GrL w vp va vb x) (hs : SmN x) (hf : fitsB x = true) (hT : TabAt 0 Lib.deBruijn64tab w) (h0 : 0 < w.heap.size) :
    Calls Tryd.prog 10 #[grV x vp va vb] w (LiveOk x x.blocks.length w) := by
  obtain ⟨pp, pc, rfl⟩ := h.params.form
  obtain ⟨ap, ac, rfl⟩ := h.arrays.form
  have HG := Lib.hid h
  obtain ⟨bp, bc, rfl⟩ := h.blocks.form
  have hfd := hf
  unfold fitsB at hfd
  rw [Bool.and_eq_true] at hfd
  have hlen := of_decide_eq_true hfd.1
  have HF := Lib.hid (fun (W : World) (hW : Below w.heap.size w W) => fits_any x _ _ _ W (HG.out.below hW) hs)
  have HLA := Lib.hid (fun (W : World) (hW : Below w.heap.size w W) => lookAt_any x _ _ _ W (HG.out.below hW) hs hf (by omega))
  rw [hf] at HF
  unfold grV at HF HLA ⊢
  obtain ⟨n, hnn⟩ : ∃ n, n = x.blocks.length := ⟨_, rfl⟩
  have HN := Lib.hid hnn
  have HFT := Lib.hid hf
  rw [← hnn] at HF HLA ⊢
  have hn : n ≤ 20000 := by omega
  have ni : (n : Int) ≤ 20000 := by omega
  have HTB := Lib.hid (fun (W : World) (hW : Below w.heap.size w W) => tab_below hT h0 hW)
  have H0 := Lib.hid h0
  have HML := Lib.hid (fun W => make_lists n hn W)
  clear h hs hf hnn hlen hfd hT h0
  go_enter Tryd.func10, Tryd.ntmps10
  go_upto_region 3 with (
    go_at_call 30
    refine (HF.out _ (Graph.below_alloc w _)).mono ?_
    rintro e w2 ⟨rfl, hb⟩
    have HB := Lib.hid hb
    clear hb)
  obtain ⟨W1, hW1⟩ : ∃ W1, W1 = w.alloc (.cells #[.slice pp x.params.length pc, .int .i64 x.temps, .slice ap x.arrays.length ac, .slice bp n bc] 26) := ⟨_, rfl⟩
  have hx1 : W1.heap[w.heap.size]? = some (.cells #[.slice pp x.params.length pc, .int .i64 x.temps, .slice ap x.arrays.length ac, .slice bp n bc] 26 (0, 0)) := by rw [hW1]; exact heap_new w _
  rw [← hW1] at HB
  have hlt1 : w.heap.size < W1.heap.size := (Array.getElem?_eq_some_iff.1 hx1).1
  have HBX : Hid (∀ W : World, Below W1.heap.size W1 W → W.cell? ⟨w.heap.size, 0, none⟩ = some (.slice pp x.params.length pc) ∧ W.cell? ⟨w.heap.size, 1, none⟩ = some (.int .i64 x.temps) ∧ W.cell? ⟨w.heap.size, 2, none⟩ = some (.slice ap x.arrays.length ac) ∧ W.cell? ⟨w.heap.size, 3, none⟩ = some (.slice bp n bc)) := Lib.hid (fun W hW => by
    have hb := (hW.block _ hlt1).trans hx1
    exact ⟨(cell_of_block hb (k := 0) rfl).1, (cell_of_block hb (k := 1) rfl).1, (cell_of_block hb (k := 2) rfl).1, (cell_of_block hb (k := 3) rfl).1⟩)
  have HW1 : Hid (Below w.heap.size w W1) := Lib.hid (by rw [hW1]; exact Graph.below_alloc w _)
  clear hW1 hx1 hlt1
  obtain ⟨y0, y1, y2, y3⟩ := HBX.out w2 HB.out
  go_cut [4] from 10 to 14 (fun v wq => ∃ fo V, v = .slice (some ⟨fo, 0, none⟩) n n ∧ Hid (SetsAt wq fo n V) ∧ Hid ((∀ b, b < n → ∀ wd i, wd < 125 → i < 64 → ((V b wd).testBit i = true ↔ Need x b ((64 * wd + i : Nat) : Int))) ∧ ∀ b, b < n → ∀ u, V b u < w64) ∧ Hid (Below w.heap.size w wq))
  case first =>
    go_region_held3 (fun W => W.cell? ⟨w.heap.size, 0, none⟩ = some (.slice pp x.params.length pc) ∧ W.cell? ⟨w.heap.size, 1, none⟩ = some (.int .i64 x.temps) ∧ W.cell? ⟨w.heap.size, 2, none⟩ = some (.slice ap x.arrays.length ac) ∧ W.cell? ⟨w.heap.size, 3, none⟩ = some (.slice bp n bc)) (go_keep) (first
      | (go_at_call 31
         refine (HLA.out _ (below_then HW1.out HB.out).drew).mono ?_
         rintro e w3 ⟨lb, ub, db, ab, L, A, rfl, hp⟩
         have HP := Lib.hid hp
         have HB3 : Hid (Below W1.heap.size W1 w3) := Lib.hid (below_then HB.out.drew hp.below)
         obtain ⟨z0, z1, z2, z3⟩ := HBX.out w3 HB3.out
         clear hp)
      | (go_at_call 32
         refine (needed_at HN.out HFT.out HP.out (Below.refl _ _)).mono ?_
         rintro e w5 ⟨fo, V0, rfl, hv0, hq0, hb5⟩
         obtain ⟨V, hv, hq⟩ := need_total hv0 hq0
         have HV := Lib.hid hv
         have HQ := Lib.hid hq
         have HB5 : Hid (Below W1.heap.size W1 w5) := Lib.hid (below_then HB3.out hb5)
         obtain ⟨x0, x1, x2, x3⟩ := HBX.out w5 HB5.out
         clear hv hq hb5 hv0 hq0))
    all_goals
      go_wp2
      go_meet
      exact ⟨_, _, rfl, HV, HQ, Lib.hid (below_then HW1.out HB5.out)⟩
  case rest =>
    obtain ⟨fo, V, rfl, HV, HQ, HBC⟩ := hcut
    clear HBX HB HW1 HF HLA y0 y1 y2 y3
    have hml := HML.out wc
    have HR0 : Hid (AhSt (wc.heap.size + 1) wc.heap.size n (fun b => if b < 0 then needN x b else []) (fun _ => .slice none 0 0) (wc.alloc (.cells (madeCells #[.slice none 0 0] n) 22))) := Lib.hid ((AhSt.made (heap_new wc _)).congr fun b _ => by rw [if_neg (by omega)])
    have HV1 : Hid (SetsAt (wc.alloc (.cells (madeCells #[.slice none 0 0] n) 22)) fo n V) := Lib.hid (HV.out.keep ((Graph.below_alloc wc _).block _ HV.out.lt))
    have HB1 : Hid (Below wc.heap.size wc (wc.alloc (.cells (madeCells #[.slice none 0 0] n) 22))) := Lib.hid (Graph.below_alloc wc _)
    have HZ1 : Hid (wc.heap.size + 1 ≤ (wc.alloc (.cells (madeCells #[.slice none 0 0] n) 22)).heap.size ∧ fo < wc.heap.size) := Lib.hid ⟨by simp, HV.out.lt⟩
    go_wp2
    generalize (wc.alloc (.cells (madeCells #[.slice none 0 0] n) 22)) = wm at *
    clear hml
    go_loopw [20] (fun i wr => ∃ (k : Nat) (vs : Nat → Value), k ≤ n ∧ i = .int .i64 k ∧ Hid (AhSt (wc.heap.size + 1) wc.heap.size n (fun b => if b < k then needN x b else []) vs wr) ∧ Hid (SetsAt wr fo n V) ∧ Hid (Below wc.heap.size wc wr) ∧ Hid (wc.heap.size + 1 ≤ wr.heap.size)) (fun i _ => n - (intOf i).toNat)
    case atStart => exact ⟨0, _, Nat.zero_le _, rfl, HR0, HV1, HB1, Lib.hid HZ1.out.1⟩
    case round =>
      obtain ⟨k, vs, hk, rfl, HR, HV2, HB2, HZ2⟩ := hrel
      by_cases hkn : k < n
      · have ki : (k : Int) < n := by omega
        have k0 : (0 : Int) ≤ k := by omega
        have HBW : Hid (Below w.heap.size w wr) := Lib.hid (below_then HBC.out HB2.out)
        have HLI := Lib.hid (list_any HV2.out hkn hn (HQ.out.2 k hkn) (HTB.out _ HBW.out) (Nat.lt_of_lt_of_le H0.out HBW.out.size))
        have HAN := Lib.hid (all_need HFT.out (b := k) (U := V k) (HQ.out.1 k hkn))
        rw [HAN.out] at HLI
        go_wp2_with (
          go_at_call 33
          refine HLI.out.mono ?_
          rintro e w5 ⟨v5, rfl, h5, hb5⟩
          obtain ⟨p5, c6, rfl, _⟩ := own_form h5
          have H5 := Lib.hid h5
          have HB5 := Lib.hid hb5
          have c5 := (hb5.cell (p := ⟨wc.heap.size, k, none⟩) HR.out.lt).trans (HR.out.cell hkn).1
          have f5 : w5.frozen? ⟨wc.heap.size, k, none⟩ = false := by
            have h := (HR.out.cell hkn).2
            unfold World.frozen? at h ⊢
            rw [hb5.block wc.heap.size HR.out.lt]; exact h
          clear h5 hb5)
        exact ⟨⟨k + 1, _, by omega, by go_num, Lib.hid ((HR.out.put (by omega) hkn HB5.out HZ2.out H5.out).congr fun b _ => by
            by_cases e : b = k
            · rw [if_pos e, if_pos (by omega), e]
            · rw [if_neg e]
              by_cases e2 : b < k
              · rw [if_pos e2, if_pos (by omega)]
              · rw [if_neg e2, if_neg (by omega)]), Lib.hid (HV2.out.keep (((heap_setCell_other w5 ⟨wc.heap.size, k, none⟩ fo _ (Nat.ne_of_lt HZ1.out.2))).trans (HB5.out.block _ HV2.out.lt))), Lib.hid (by
            have hb := below_then HB2.out HB5.out
            refine ⟨hb.os, hb.tape, hb.output, by rw [World.size_setCell]; exact hb.size, fun i hi => (heap_setCell_other w5 ⟨wc.heap.size, k, none⟩ i _ (Nat.ne_of_lt hi)).trans (hb.block i hi)⟩), Lib.hid (by rw [World.size_setCell]; have := HB5.out.size; have := HZ2.out; omega)⟩, by simp [intOf]; omega⟩
      · have hkn2 : k = n := by omega
        have k5 : ¬ ((k : Int) < n) := by omega
        go_wp2
        go_ret2
        refine ⟨wc.heap.size, vs, rfl, HR.out.congr fun b hb => by rw [if_pos (by omega)], HBC.out.size, below_then HBC.out HB2.out⟩
end Go.Proofs.YtcijaaiopfbffaaDoor.Live
