/- The document's Fits. No condition but sizes. -/
import Derived.Test.YtcijaaiopfbffaaDoorRA2
import Derived.Deep.RegionHeld3
namespace Go.Proofs.YtcijaaiopfbffaaDoor.Live
open Go.RowKit Go.Proofs.YtcijaaiopfbffaaDoor.Graph Go.Shelf

def noneB (x : PIns) : Bool := decide (setsI x = -1) && decide (x.op = 29 ∨ x.op = 26 ∨ x.op = 28 ∨ x.op = 31 ∨ x.op = 32)
theorem insFit_ref {m : Int} {x : PIns} (h : 1 ≤ x.op ∧ x.op ≤ 32) : insFit m x = ((usesI x).all (belowB · m) && (noneB x || belowB (setsI x) m)) := by
  have hs : setsT x = true → setsI x = x.d := fun hs => by
    unfold setsT at hs; unfold setsI kindI
    (repeat' split at hs) <;> (repeat' split) <;> first | rfl | omega | simp_all
  have hn : setsT x = false → setsI x = -1 ∧ (x.op = 29 ∨ x.op = 26 ∨ x.op = 28 ∨ x.op = 31 ∨ x.op = 32) := fun hn => by
    unfold setsT at hn; unfold setsI kindI
    (repeat' split at hn) <;> (repeat' split) <;> simp_all <;> omega
  unfold insFit noneB
  rw [decide_eq_true h.1, decide_eq_true h.2]
  cases hq : setsT x with
  | false =>
    obtain ⟨h1, h2⟩ := hn hq
    rw [decide_eq_true h1, decide_eq_true h2]; simp
  | true =>
    rw [hs hq]
    by_cases e : x.d = -1
    · have h9 : ¬ (x.op = 29 ∨ x.op = 26 ∨ x.op = 28 ∨ x.op = 31 ∨ x.op = 32) := fun h9 => by
        unfold setsT at hq
        rcases h9 with h9 | h9 | h9 | h9 | h9 <;> simp [h9, e] at hq
      rw [decide_eq_false h9, Bool.and_false]
      simp [Bool.and_comm]
    · rw [decide_eq_false e]
      simp [Bool.and_comm]
theorem fits_ref (x : PGr) : fitsB x = (walksB x && (decide (0 ≤ x.temps ∧ x.temps ≤ 8000) && x.blocks.all (blkFit x.temps))) := by
  rw [Bool.eq_iff_iff]
  unfold fitsB walksB
  simp only [Bool.and_eq_true, decide_eq_true_eq, List.all_eq_true]
  constructor
  · rintro ⟨⟨a, b, c, d⟩, h⟩
    exact ⟨⟨⟨a, b⟩, fun y hy => (h y hy).2⟩, ⟨c, d⟩, fun y hy => (h y hy).1⟩
  · rintro ⟨⟨⟨a, b⟩, h1⟩, ⟨c, d⟩, h2⟩
    exact ⟨⟨a, b, c, d⟩, fun y hy => ⟨h2 y hy, h1 y hy⟩⟩
theorem fits_not_blk {x : PGr} {k : Nat} {t : PBlk} (ht : x.blocks[k]? = some t) (h : blkFit x.temps t = false) : fitsB x = false := by
  rw [fits_ref]
  have : x.blocks.all (blkFit x.temps) = false := by
    cases hq : x.blocks.all (blkFit x.temps)
    · rfl
    · have := List.all_eq_true.1 hq t (List.mem_of_getElem? ht)
      rw [h] at this; cases this
  rw [this, Bool.and_false, Bool.and_false]
theorem blk_not_ins {m : Int} {t : PBlk} {k : Nat} {y : PIns} (hy : t.code[k]? = some y) (h : insFit m y = false) : blkFit m t = false := by
  unfold blkFit
  have : t.code.all (insFit m) = false := by
    cases hq : t.code.all (insFit m)
    · rfl
    · have := List.all_eq_true.1 hq y (List.mem_of_getElem? hy)
      rw [h] at this; cases this
  rw [this, Bool.false_and]
def insO (y : PIns) (va vr : Value) : Obj := .cells #[.int .i64 y.op, .int .i64 y.d, .int .i64 y.a, .int .i64 y.b, .int .i64 y.f, .int .u32 y.n, va, vr] 77
set_option maxHeartbeats 16000000 in
set_option maxRecDepth 100000 in
theorem fits13_any (x : PGr) (vp va vb : Value) (w : World) (h : GrL w vp va vb x) (hs : SmG x) :
    Calls Tryd.prog 17 #[grV x vp va vb] w (Is (.bool (fitsB x)) w) := by
  obtain ⟨pp, pc, rfl⟩ := h.params.form
  obtain ⟨ap, ac, rfl⟩ := h.arrays.form
  have HG := Lib.hid h
  have HBK := Lib.hid h.blocks
  obtain ⟨bp, bc, rfl⟩ := h.blocks.form
  have HED := Lib.hid (fun (W : World) (hW : Below w.heap.size w W) => edges_any x _ _ _ W (HG.out.below hW) hs)
  have HS := Lib.hid hs
  unfold grV at HED ⊢
  obtain ⟨n, hn⟩ : ∃ n, n = x.blocks.length := ⟨_, rfl⟩
  have HN := Lib.hid hn
  rw [← hn] at HED ⊢
  have HX0 : Hid (∀ W : World, Below (w.heap.size + 1) (w.alloc (.cells #[.slice pp x.params.length pc, .int .i64 x.temps, .slice ap x.arrays.length ac, .slice bp n bc] 26)) W → W.cell? ⟨w.heap.size, 0, none⟩ = some (.slice pp x.params.length pc) ∧ W.cell? ⟨w.heap.size, 1, none⟩ = some (.int .i64 x.temps) ∧ W.cell? ⟨w.heap.size, 2, none⟩ = some (.slice ap x.arrays.length ac) ∧ W.cell? ⟨w.heap.size, 3, none⟩ = some (.slice bp n bc)) := Lib.hid (fun W hW => by
    have hb := (hW.block _ (by omega)).trans (heap_new w _)
    exact ⟨(cell_of_block hb (k := 0) rfl).1, (cell_of_block hb (k := 1) rfl).1, (cell_of_block hb (k := 2) rfl).1, (cell_of_block hb (k := 3) rfl).1⟩)
  have HB1 := Lib.hid (Graph.below_alloc w (.cells #[.slice pp x.params.length pc, .int .i64 x.temps, .slice ap x.arrays.length ac, .slice bp n bc] 26))
  have HFR := Lib.hid (fits_ref x)
  obtain ⟨WK, hWK⟩ : ∃ WK, WK = walksB x := ⟨_, rfl⟩
  rw [← hWK] at HED HFR
  have HWK := Lib.hid hWK
  clear h hs hn hWK
  -- what ends it at once
  by_cases h1 : WK = false ∨ x.temps < 0 ∨ 8000 < x.temps
  · have hr : Hid (fitsB x = false) := Lib.hid (by
      rw [HFR.out]
      rcases h1 with h1 | h1 | h1
      · rw [h1]; rfl
      · rw [decide_eq_false (show ¬ (0 ≤ x.temps ∧ x.temps ≤ 8000) by omega), Bool.false_and, Bool.and_false]
      · rw [decide_eq_false (show ¬ (0 ≤ x.temps ∧ x.temps ≤ 8000) by omega), Bool.false_and, Bool.and_false])
    cases hwk : WK with
    | false =>
      rw [hwk] at HED
      clear h1 hwk
      go_enter Tryd.func17, Tryd.ntmps17
      go_wp2_with (
        go_at_call 40
        refine (HED.out _ HB1.out).mono ?_
        rintro e w5 ⟨⟨v, rfl⟩, hb5⟩
        have HB5 := Lib.hid hb5
        clear hb5)
      go_ret
      exact ⟨by rw [hr.out]; rfl, below_then HB1.out HB5.out⟩
    | true =>
      have h2 : x.temps < 0 ∨ 8000 < x.temps := by rcases h1 with h1 | h1; · rw [hwk] at h1; cases h1
                                                   · exact h1
      rw [hwk] at HED
      clear h1 hwk
      rcases h2 with h2 | h2
      · go_enter Tryd.func17, Tryd.ntmps17
        go_wp2_with (
          go_at_call 40
          refine (HED.out _ HB1.out).mono ?_
          rintro e w5 ⟨⟨v, rfl⟩, hb5⟩
          have HB5 := Lib.hid hb5
          obtain ⟨y0, y1, y2, y3⟩ := HX0.out w5 (by simpa using hb5)
          clear hb5)
        go_ret
        exact ⟨by rw [hr.out]; rfl, below_then HB1.out HB5.out⟩
      · have h3 : ¬ x.temps < 0 := by omega
        go_enter Tryd.func17, Tryd.ntmps17
        go_wp2_with (
          go_at_call 40
          refine (HED.out _ HB1.out).mono ?_
          rintro e w5 ⟨⟨v, rfl⟩, hb5⟩
          have HB5 := Lib.hid hb5
          obtain ⟨y0, y1, y2, y3⟩ := HX0.out w5 (by simpa using hb5)
          clear hb5)
        go_ret
        exact ⟨by rw [hr.out]; rfl, below_then HB1.out HB5.out⟩
  · have hwk : WK = true := by
      cases hq : WK
      · exact absurd (.inl hq) h1
      · rfl
    have ht0 : 0 ≤ x.temps := by omega
    have ht1 : x.temps ≤ 8000 := by omega
    rw [hwk] at HED HFR
    have HBL : Hid ((∀ t ∈ x.blocks, blkFit x.temps t = true) → fitsB x = true) := Lib.hid (fun hq => by
      rw [HFR.out, decide_eq_true ⟨ht0, ht1⟩, Bool.true_and, Bool.true_and]
      exact List.all_eq_true.2 hq)
    clear h1 hwk
    go_enter Tryd.func17, Tryd.ntmps17
    go_wp2_with (
      go_at_call 40
      refine (HED.out _ HB1.out).mono ?_
      rintro e w5 ⟨⟨v, rfl⟩, hb5⟩
      have HB5 : Hid (Below w.heap.size w w5) := Lib.hid (below_then HB1.out hb5)
      obtain ⟨y0, y1, y2, y3⟩ := HX0.out w5 (by simpa using hb5)
      have HBX : Hid (∀ W, Below w5.heap.size w5 W → W.cell? ⟨w.heap.size, 0, none⟩ = some (.slice pp x.params.length pc) ∧ W.cell? ⟨w.heap.size, 1, none⟩ = some (.int .i64 x.temps) ∧ W.cell? ⟨w.heap.size, 2, none⟩ = some (.slice ap x.arrays.length ac) ∧ W.cell? ⟨w.heap.size, 3, none⟩ = some (.slice bp n bc)) := Lib.hid (fun W hW => by
        have l := World.block_lt_of_cell? w5 _ y0
        exact ⟨(cell_below hW l _).trans y0, (cell_below hW l _).trans y1, (cell_below hW l _).trans y2, (cell_below hW l _).trans y3⟩)
      clear hb5)
    clear y0 y1 y2 y3 HX0 HB1 HED
    go_loopw [5] (fun i wr => ∃ b : Nat, b ≤ n ∧ i = .int .i64 b ∧ Hid (Below w5.heap.size w5 wr) ∧ Hid (∀ j t, j < b → x.blocks[j]? = some t → blkFit x.temps t = true)) (fun i _ => n - (intOf i).toNat)
    case atStart => exact ⟨0, Nat.zero_le _, rfl, Lib.hid (Below.refl _ _), Lib.hid (fun j t hj => absurd hj (Nat.not_lt_zero _))⟩
    case round =>
      obtain ⟨b, hb, rfl, HB, HA⟩ := hrel
      obtain ⟨y0, y1, y2, y3⟩ := HBX.out wr HB.out
      by_cases hbn : b < n
      · have bi : (b : Int) < n := by omega
        have b0 : (0 : Int) ≤ b := by omega
        obtain ⟨blk, hblk⟩ : ∃ blk, x.blocks[b]? = some blk := ⟨_, List.getElem?_eq_getElem (by have := HN.out; omega)⟩
        obtain ⟨g, o, cap, hv, hcap, hgl, _⟩ := SlR.form2 HBK.out (by have := HN.out; omega)
        injection hv with e1 e2 e3
        clear e2
        subst e1 e3
        have b2 : (n : Int) ≤ bc := by have := hcap.1; have := HN.out; omega
        have b3 : (bc : Int) ≤ 9223372036854775807 := by have := hcap.2; omega
        obtain ⟨pk, ck, pz, cc, pt, ct, ⟨c0w, c1w, c2w, c3w, c4w, c5w, c6w, c7w, c8w, c9w⟩, hck, hel, hg9⟩ := blk_at HBK.out (Below.refl _ w) hblk
        have c0 := (cell_below (below_then HB5.out HB.out) hg9 _).trans c0w
        have HCE : Hid (∀ W, Below w5.heap.size w5 W → W.cell? ⟨g, o + b * 10 + 1, none⟩ = some (.int .i64 blk.fin.kind) ∧ W.cell? ⟨g, o + b * 10 + 2, none⟩ = some (.int .i64 blk.fin.op) ∧ W.cell? ⟨g, o + b * 10 + 3, none⟩ = some (.int .i64 blk.fin.a) ∧ W.cell? ⟨g, o + b * 10 + 4, none⟩ = some (.int .i64 blk.fin.b) ∧ W.cell? ⟨g, o + b * 10 + 5, none⟩ = some (.int .u32 blk.fin.n) ∧ W.cell? ⟨g, o + b * 10 + 6, none⟩ = some (.int .i64 blk.fin.to) ∧ W.cell? ⟨g, o + b * 10 + 7, none⟩ = some (.int .i64 blk.fin.els) ∧ W.cell? ⟨g, o + b * 10 + 8, none⟩ = some (.slice pz blk.fin.cases.length cc) ∧ W.cell? ⟨g, o + b * 10 + 9, none⟩ = some (.slice pt blk.fin.targets.length ct)) := Lib.hid (fun W hW => by
          have hw := below_then HB5.out hW
          exact ⟨(cell_below hw hg9 _).trans c1w, (cell_below hw hg9 _).trans c2w, (cell_below hw hg9 _).trans c3w, (cell_below hw hg9 _).trans c4w, (cell_below hw hg9 _).trans c5w, (cell_below hw hg9 _).trans c6w, (cell_below hw hg9 _).trans c7w, (cell_below hw hg9 _).trans c8w, (cell_below hw hg9 _).trans c9w⟩)
        have HCK := Lib.hid hck
        have HSB : Hid (SmB blk) := Lib.hid (HS.out.2.2.2 blk (List.mem_of_getElem? hblk))
        have HNOB : Hid (blkFit x.temps blk = false → fitsB x = false) := Lib.hid (fun hq => fits_not_blk hblk hq)
        have HBLK := Lib.hid hblk
        obtain ⟨c, hc⟩ : ∃ c, c = blk.code.length := ⟨_, rfl⟩
        have HC := Lib.hid hc
        rw [← hc] at c0
        clear hblk hck hel hc hgl hcap c0w c1w c2w c3w c4w c5w c6w c7w c8w c9w hg9
        go_wp2
        clear y0 y1 y2 y3 c0
        go_loopw [7] (fun i wq => ∃ k : Nat, k ≤ c ∧ i = .int .i64 k ∧ Hid (Below w5.heap.size w5 wq) ∧ Hid (∀ j y, j < k → blk.code[j]? = some y → insFit x.temps y = true)) (fun i _ => c - (intOf i).toNat)
        case atStart => exact ⟨0, Nat.zero_le _, rfl, HB, Lib.hid (fun j y hj => absurd hj (Nat.not_lt_zero _))⟩
        case round =>
          obtain ⟨k, hk, rfl, HW, HI⟩ := hrel
          by_cases hkc : k < c
          · have ki : (k : Int) < c := by omega
            have k0 : (0 : Int) ≤ k := by omega
            obtain ⟨y, hy⟩ : ∃ y, blk.code[k]? = some y := ⟨_, List.getElem?_eq_getElem (by have := HC.out; omega)⟩
            obtain ⟨gc, oc, cp, hv, hcap2, hgl, hP⟩ := SlR.form2 HCK.out (by have := HC.out; omega)
            rw [← HC.out] at hv
            injection hv with e1 e2 e3
            clear e2
            subst e1 e3
            obtain ⟨va, vr, hR0⟩ := hP k (by have := HC.out; omega) y hy
            have hWw : Below w.heap.size w wr := below_then HB5.out HW.out
            have hR := hR0.below hgl hWw
            have k2 : (c : Int) ≤ ck := by have := hcap2.1; have := HC.out; omega
            have k3 : (ck : Int) ≤ 9223372036854775807 := by have := hcap2.2; omega
            obtain ⟨z0, z1, z2, z3, z4, z5, z6, z7, hl⟩ := hR
            have HNOI : Hid (insFit x.temps y = false → fitsB x = false) := Lib.hid (fun hq => HNOB.out (blk_not_ins hy hq))
            have HAG : Hid (y.args.length * 8 ≤ 140737488355328) := Lib.hid (by have := (HSB.out.2.1 y (List.mem_of_getElem? hy)).1; unfold reachBytes at this; omega)
            have HY := Lib.hid hy
            obtain ⟨ap9, ac9, hva⟩ := hl.args.form
            obtain ⟨rp9, rc9, hvr⟩ := hl.arrs.form
            subst hva hvr
            have HLI := Lib.hid hl
            have HBO : Hid ((wr.alloc (.cells #[.int .i64 y.op, .int .i64 y.d, .int .i64 y.a, .int .i64 y.b, .int .i64 y.f, .int .u32 y.n, .slice ap9 y.args.length ac9, .slice rp9 y.arrs.length rc9] 77)).heap[wr.heap.size]? = some (.cells #[.int .i64 y.op, .int .i64 y.d, .int .i64 y.a, .int .i64 y.b, .int .i64 y.f, .int .u32 y.n, .slice ap9 y.args.length ac9, .slice rp9 y.arrs.length rc9] 77 (0, 0))) := Lib.hid (heap_new wr _)
            have HB2 := Lib.hid (Graph.below_alloc wr (.cells #[.int .i64 y.op, .int .i64 y.d, .int .i64 y.a, .int .i64 y.b, .int .i64 y.f, .int .u32 y.n, .slice ap9 y.args.length ac9, .slice rp9 y.arrs.length rc9] 77))
            clear hy hP hcap2 hR0 hgl hWw hl
            go_upto_region 12 with (fail)
            generalize wr.alloc (.cells #[.int .i64 y.op, .int .i64 y.d, .int .i64 y.a, .int .i64 y.b, .int .i64 y.f, .int .u32 y.n, .slice ap9 y.args.length ac9, .slice rp9 y.arrs.length rc9] 77) = W2 at HBO HB2 ⊢
            clear z0 z1 z2 z3 z4 z5 z6 z7
            have HCI : Hid (∀ W, Below W2.heap.size W2 W → W.cell? ⟨wr.heap.size, 0, none⟩ = some (.int .i64 y.op) ∧ W.cell? ⟨wr.heap.size, 1, none⟩ = some (.int .i64 y.d) ∧ W.cell? ⟨wr.heap.size, 2, none⟩ = some (.int .i64 y.a) ∧ W.cell? ⟨wr.heap.size, 3, none⟩ = some (.int .i64 y.b) ∧ W.cell? ⟨wr.heap.size, 4, none⟩ = some (.int .i64 y.f) ∧ W.cell? ⟨wr.heap.size, 5, none⟩ = some (.int .u32 y.n) ∧ W.cell? ⟨wr.heap.size, 6, none⟩ = some (.slice ap9 y.args.length ac9) ∧ W.cell? ⟨wr.heap.size, 7, none⟩ = some (.slice rp9 y.arrs.length rc9) ∧ W.cell? ⟨w.heap.size, 1, none⟩ = some (.int .i64 x.temps)) := Lib.hid (fun W hW => by
              have hb := (hW.block _ (Array.getElem?_eq_some_iff.1 HBO.out).1).trans HBO.out
              exact ⟨(cell_of_block hb (k := 0) rfl).1, (cell_of_block hb (k := 1) rfl).1, (cell_of_block hb (k := 2) rfl).1, (cell_of_block hb (k := 3) rfl).1, (cell_of_block hb (k := 4) rfl).1, (cell_of_block hb (k := 5) rfl).1, (cell_of_block hb (k := 6) rfl).1, (cell_of_block hb (k := 7) rfl).1, (HBX.out W (below_then HW.out (below_then HB2.out hW))).2.1⟩)
            obtain ⟨d0, d1, d2, d3, d4, d5, d6, d7, d8⟩ := HCI.out W2 (Below.refl _ _)
            have HWE : Hid (Below w.heap.size w W2) := Lib.hid (below_then HB5.out (below_then HW.out HB2.out))
            by_cases o1 : y.op < 1
            · have hr : Hid (fitsB x = false) := Lib.hid (HNOI.out (by unfold insFit; rw [decide_eq_false (show ¬ 1 ≤ y.op by omega)]; rfl))
              go_wp2
              go_ret
              exact ⟨by rw [hr.out]; rfl, HWE.out⟩
            by_cases o2 : 32 < y.op
            · have hr : Hid (fitsB x = false) := Lib.hid (HNOI.out (by unfold insFit; rw [decide_eq_false (show ¬ y.op ≤ 32 by omega), Bool.and_false]; rfl))
              go_wp2
              go_ret
              exact ⟨by rw [hr.out]; rfl, HWE.out⟩
            have hop : 1 ≤ y.op ∧ y.op ≤ 32 := by omega
            have HIF := Lib.hid (insFit_ref (m := x.temps) hop)
            have HST := Lib.hid (fun (W : World) (hW : Below W2.heap.size W2 W) => Graph.sets_any y _ _ W ((HLI.out.below HB2.out).below hW))
            have HUS := Lib.hid (fun (W : World) (hW : Below W2.heap.size W2 W) => usesI_any y _ _ W ((HLI.out.below HB2.out).below hW) hop HAG.out)
            unfold insV at HST HUS
            have HNB : Hid (noneB y = (decide (setsI y = -1) && decide (y.op = 29 ∨ y.op = 26 ∨ y.op = 28 ∨ y.op = 31 ∨ y.op = 32))) := Lib.hid rfl
            generalize setsI y = dd at HST HIF HNB
            generalize noneB y = N at HIF HNB
            clear hop
            go_upto_region 15 with (
              go_at_call 36
              refine (HST.out _ (Below.refl _ _)).mono ?_
              rintro e w6 ⟨rfl, hb6⟩
              have HB6 := Lib.hid hb6
              obtain ⟨d0, d1, d2, d3, d4, d5, d6, d7, d8⟩ := HCI.out w6 hb6
              clear hb6)
            go_cut [10] from 62 to 88 (fun v wq => v = .bool N ∧ wq = w6)
            case first =>
              have HM : Hid (∀ P : Bool, N = P → Value.bool P = .bool N) := Lib.hid (fun P h => by rw [h])
              by_cases e : dd = -1
              · by_cases p1 : y.op = 29
                · have hn : Hid (N = true) := Lib.hid (by rw [HNB.out]; simp [e, p1])
                  go_wp2
                  go_meet
                  exact ⟨by rw [hn.out], rfl⟩
                by_cases p2 : y.op = 26
                · have hn : Hid (N = true) := Lib.hid (by rw [HNB.out]; simp [e, p2])
                  go_wp2
                  go_meet
                  exact ⟨by rw [hn.out], rfl⟩
                by_cases p3 : y.op = 28
                · have hn : Hid (N = true) := Lib.hid (by rw [HNB.out]; simp [e, p3])
                  go_wp2
                  go_meet
                  exact ⟨by rw [hn.out], rfl⟩
                by_cases p4 : y.op = 31
                · have hn : Hid (N = true) := Lib.hid (by rw [HNB.out]; simp [e, p4])
                  go_wp2
                  go_meet
                  exact ⟨by rw [hn.out], rfl⟩
                by_cases p5 : y.op = 32
                · have hn : Hid (N = true) := Lib.hid (by rw [HNB.out]; simp [e, p5])
                  go_wp2
                  go_meet
                  exact ⟨by rw [hn.out], rfl⟩
                · have hn : Hid (N = false) := Lib.hid (by rw [HNB.out]; simp [e, p1, p2, p3, p4, p5])
                  have b11 : (y.op == 29) = false := by simpa using p1
                  have b21 : (y.op == 26) = false := by simpa using p2
                  have b31 : (y.op == 28) = false := by simpa using p3
                  have b41 : (y.op == 31) = false := by simpa using p4
                  have b51 : (y.op == 32) = false := by simpa using p5
                  go_wp2
                  go_meet
                  exact ⟨by rw [hn.out], rfl⟩
              · have hn : Hid (N = false) := Lib.hid (by rw [HNB.out]; simp [e])
                go_wp2
                go_meet
                exact ⟨by rw [hn.out], rfl⟩
            case rest =>
            obtain ⟨rfl, rfl⟩ := hcut
            obtain ⟨U, hU⟩ : ∃ U, U = (usesI y).all (belowB · x.temps) := ⟨_, rfl⟩
            rw [← hU] at HIF
            have HU := Lib.hid hU
            clear hU
            obtain ⟨V, hV⟩ : ∃ V, V = !insFit x.temps y := ⟨_, rfl⟩
            have HV := Lib.hid hV
            clear hV
            go_upto_region 16 with (fail)
            go_cut [108] from 89 to 108 (fun v wq => v = .bool V ∧ Hid (Below W2.heap.size W2 wq))
            case first =>
              cases hu : U with
              | false =>
                have hv : Hid (V = true) := Lib.hid (by rw [HV.out, HIF.out, hu]; rfl)
                rw [hu] at HU
                refine wp_region_held_drew (S := (fun W => W.cell? ⟨wr.heap.size, 0, none⟩ = some (.int .i64 y.op) ∧ W.cell? ⟨wr.heap.size, 1, none⟩ = some (.int .i64 y.d) ∧ W.cell? ⟨wr.heap.size, 2, none⟩ = some (.int .i64 y.a) ∧ W.cell? ⟨wr.heap.size, 3, none⟩ = some (.int .i64 y.b) ∧ W.cell? ⟨wr.heap.size, 4, none⟩ = some (.int .i64 y.f) ∧ W.cell? ⟨wr.heap.size, 5, none⟩ = some (.int .u32 y.n) ∧ W.cell? ⟨wr.heap.size, 6, none⟩ = some (.slice ap9 y.args.length ac9) ∧ W.cell? ⟨wr.heap.size, 7, none⟩ = some (.slice rp9 y.arrs.length rc9) ∧ W.cell? ⟨w.heap.size, 1, none⟩ = some (.int .i64 x.temps))) (by kernel_rfl) (HCI.out _ HB6.out.drew) (fun hHeld => ?_)
                refine wpAnyH_take (i := 0) (v := .agg #[.int .i64 y.op, .int .i64 y.d, .int .i64 y.a, .int .i64 y.b, .int .i64 y.f, .int .u32 y.n, .slice ap9 y.args.length ac9, .slice rp9 y.arrs.length rc9]) rfl (by kernel_rfl) (by kernel_rfl) (by kernel_rfl) (fun _ _ _ h => h) (Or.inl ⟨by kernel_rfl, fun w hSw => by (try dsimp only at hSw); (first | (go_simp; done) | (go_simp; with_reducible rfl))⟩) (by assumption) ?_
                refine wpAnyH_take (i := 2) (v := .pointer (some ⟨w.heap.size, 1, none⟩)) rfl (by kernel_rfl) (by kernel_rfl) (by kernel_rfl) (fun _ _ _ h => h) (Or.inl ⟨by kernel_rfl, fun w hSw => by (try dsimp only at hSw); (first | (go_simp; done) | (go_simp; with_reducible rfl))⟩) (by assumption) ?_
                refine wpAnyH_take (i := 3) (v := .int .i64 x.temps) rfl (by kernel_rfl) (by kernel_rfl) (by kernel_rfl) (fun _ _ _ h => h) (Or.inl ⟨by kernel_rfl, fun w hSw => by (try dsimp only at hSw); (first | (go_simp; done) | (go_simp; with_reducible rfl))⟩) (by assumption) ?_
                refine wpAnyH_ready (rs := [1]) (by kernel_rfl) (by simp) ?_
                refine AllReadyH.cons rfl (fun K hK => ?_) AllReadyH.nil
                rw [if_pos (by kernel_rfl)]
                go_simp
                refine (HUS.out _ HB6.out.drew).mono ?_
                rintro e w7 ⟨p7, n7, c7, rfl, hi7, hb7⟩
                have HI7 := Lib.hid hi7
                have HB7 : Hid (Below W2.heap.size W2 w7) := Lib.hid (below_then HB6.out.drew hb7)
                clear hi7 hb7
                refine hK.out _ _ ?_ (fun hHeld => ?_)
                · exact HCI.out _ HB7.out
                clear hK K
                refine wpAnyH_ready (rs := [4]) (by kernel_rfl) (by simp) ?_
                refine AllReadyH.cons rfl (fun K hK => ?_) AllReadyH.nil
                rw [if_pos (by kernel_rfl)]
                go_simp
                refine (temps13_any _ _ _ _ HI7.out).mono ?_
                rintro e w8 ⟨he, rfl⟩
                rw [← HU.out] at he
                subst he
                refine hK.out _ _ ?_ (fun hHeld => ?_)
                · exact HCI.out _ HB7.out
                clear hK K
                refine wpAnyH_take (i := 5) (v := .bool true) rfl (by kernel_rfl) (by kernel_rfl) (by kernel_rfl) (fun _ _ _ h => h) (Or.inl ⟨by kernel_rfl, fun w hSw => by (try dsimp only at hSw); (first | (go_simp; done) | (go_simp; with_reducible rfl))⟩) (by assumption) ?_
                refine wpAnyH_take (i := 6) (v := .bool true) rfl (by kernel_rfl) (by kernel_rfl) (by kernel_rfl) (fun _ _ _ h => h) (Or.inl ⟨by kernel_rfl, fun w hSw => by (try dsimp only at hSw); (first | (go_simp; done) | (go_simp; with_reducible rfl))⟩) (by assumption) ?_
                refine wpAnyH_take (i := 7) (v := undef) rfl (by kernel_rfl) (by kernel_rfl) (by kernel_rfl) (fun _ _ _ h => h) (Or.inr ⟨by kernel_rfl, rfl⟩) (by assumption) ?_
                refine wpAnyH_take (i := 8) (v := undef) rfl (by kernel_rfl) (by kernel_rfl) (by kernel_rfl) (fun _ _ _ h => h) (Or.inr ⟨by kernel_rfl, rfl⟩) (by assumption) ?_
                refine wpAnyH_take (i := 9) (v := undef) rfl (by kernel_rfl) (by kernel_rfl) (by kernel_rfl) (fun _ _ _ h => h) (Or.inr ⟨by kernel_rfl, rfl⟩) (by assumption) ?_
                refine wpAnyH_take (i := 10) (v := undef) rfl (by kernel_rfl) (by kernel_rfl) (by kernel_rfl) (fun _ _ _ h => h) (Or.inr ⟨by kernel_rfl, rfl⟩) (by assumption) ?_
                refine wpAnyH_take (i := 11) (v := undef) rfl (by kernel_rfl) (by kernel_rfl) (by kernel_rfl) (fun _ _ _ h => h) (Or.inr ⟨by kernel_rfl, rfl⟩) (by assumption) ?_
                refine wpAnyH_take (i := 12) (v := undef) rfl (by kernel_rfl) (by kernel_rfl) (by kernel_rfl) (fun _ _ _ h => h) (Or.inr ⟨by kernel_rfl, rfl⟩) (by assumption) ?_
                refine wpAnyH_take (i := 13) (v := undef) rfl (by kernel_rfl) (by kernel_rfl) (by kernel_rfl) (fun _ _ _ h => h) (Or.inr ⟨by kernel_rfl, rfl⟩) (by assumption) ?_
                refine wpAnyH_take (i := 14) (v := undef) rfl (by kernel_rfl) (by kernel_rfl) (by kernel_rfl) (fun _ _ _ h => h) (Or.inr ⟨by kernel_rfl, rfl⟩) (by assumption) ?_
                refine wpAnyH_take (i := 15) (v := undef) rfl (by kernel_rfl) (by kernel_rfl) (by kernel_rfl) (fun _ _ _ h => h) (Or.inr ⟨by kernel_rfl, rfl⟩) (by assumption) ?_
                refine wpAnyH_take (i := 16) (v := undef) rfl (by kernel_rfl) (by kernel_rfl) (by kernel_rfl) (fun _ _ _ h => h) (Or.inr ⟨by kernel_rfl, rfl⟩) (by assumption) ?_
                refine wpAnyH_take (i := 17) (v := undef) rfl (by kernel_rfl) (by kernel_rfl) (by kernel_rfl) (fun _ _ _ h => h) (Or.inr ⟨by kernel_rfl, rfl⟩) (by assumption) ?_
                refine wpAnyH_take (i := 18) (v := undef) rfl (by kernel_rfl) (by kernel_rfl) (by kernel_rfl) (fun _ _ _ h => h) (Or.inr ⟨by kernel_rfl, rfl⟩) (by assumption) ?_
                refine wpAnyH_take (i := 19) (v := .bool true) rfl (by kernel_rfl) (by kernel_rfl) (by kernel_rfl) (fun _ _ _ h => h) (Or.inl ⟨by kernel_rfl, fun w hSw => by (try dsimp only at hSw); (first | (go_simp; done) | (go_simp; with_reducible rfl))⟩) (by assumption) ?_
                refine wpAnyH_done (by kernel_rfl) ?_ _
                go_simp
                go_wp2
                go_meet
                exact ⟨by rw [hv.out], HB7⟩
              | true =>
                rw [hu] at HU HIF
                rcases (show N = true ∨ N = false by cases N <;> simp) with rfl | rfl
                · have hv : Hid (V = false) := Lib.hid (by rw [HV.out, HIF.out]; rfl)
                  refine wp_region_held_drew (S := (fun W => W.cell? ⟨wr.heap.size, 0, none⟩ = some (.int .i64 y.op) ∧ W.cell? ⟨wr.heap.size, 1, none⟩ = some (.int .i64 y.d) ∧ W.cell? ⟨wr.heap.size, 2, none⟩ = some (.int .i64 y.a) ∧ W.cell? ⟨wr.heap.size, 3, none⟩ = some (.int .i64 y.b) ∧ W.cell? ⟨wr.heap.size, 4, none⟩ = some (.int .i64 y.f) ∧ W.cell? ⟨wr.heap.size, 5, none⟩ = some (.int .u32 y.n) ∧ W.cell? ⟨wr.heap.size, 6, none⟩ = some (.slice ap9 y.args.length ac9) ∧ W.cell? ⟨wr.heap.size, 7, none⟩ = some (.slice rp9 y.arrs.length rc9) ∧ W.cell? ⟨w.heap.size, 1, none⟩ = some (.int .i64 x.temps))) (by kernel_rfl) (HCI.out _ HB6.out.drew) (fun hHeld => ?_)
                  refine wpAnyH_take (i := 0) (v := .agg #[.int .i64 y.op, .int .i64 y.d, .int .i64 y.a, .int .i64 y.b, .int .i64 y.f, .int .u32 y.n, .slice ap9 y.args.length ac9, .slice rp9 y.arrs.length rc9]) rfl (by kernel_rfl) (by kernel_rfl) (by kernel_rfl) (fun _ _ _ h => h) (Or.inl ⟨by kernel_rfl, fun w hSw => by (try dsimp only at hSw); (first | (go_simp; done) | (go_simp; with_reducible rfl))⟩) (by assumption) ?_
                  refine wpAnyH_take (i := 2) (v := .pointer (some ⟨w.heap.size, 1, none⟩)) rfl (by kernel_rfl) (by kernel_rfl) (by kernel_rfl) (fun _ _ _ h => h) (Or.inl ⟨by kernel_rfl, fun w hSw => by (try dsimp only at hSw); (first | (go_simp; done) | (go_simp; with_reducible rfl))⟩) (by assumption) ?_
                  refine wpAnyH_take (i := 3) (v := .int .i64 x.temps) rfl (by kernel_rfl) (by kernel_rfl) (by kernel_rfl) (fun _ _ _ h => h) (Or.inl ⟨by kernel_rfl, fun w hSw => by (try dsimp only at hSw); (first | (go_simp; done) | (go_simp; with_reducible rfl))⟩) (by assumption) ?_
                  refine wpAnyH_ready (rs := [1]) (by kernel_rfl) (by simp) ?_
                  refine AllReadyH.cons rfl (fun K hK => ?_) AllReadyH.nil
                  rw [if_pos (by kernel_rfl)]
                  go_simp
                  refine (HUS.out _ HB6.out.drew).mono ?_
                  rintro e w7 ⟨p7, n7, c7, rfl, hi7, hb7⟩
                  have HI7 := Lib.hid hi7
                  have HB7 : Hid (Below W2.heap.size W2 w7) := Lib.hid (below_then HB6.out.drew hb7)
                  clear hi7 hb7
                  refine hK.out _ _ ?_ (fun hHeld => ?_)
                  · exact HCI.out _ HB7.out
                  clear hK K
                  refine wpAnyH_ready (rs := [4]) (by kernel_rfl) (by simp) ?_
                  refine AllReadyH.cons rfl (fun K hK => ?_) AllReadyH.nil
                  rw [if_pos (by kernel_rfl)]
                  go_simp
                  refine (temps13_any _ _ _ _ HI7.out).mono ?_
                  rintro e w8 ⟨he, rfl⟩
                  rw [← HU.out] at he
                  subst he
                  refine hK.out _ _ ?_ (fun hHeld => ?_)
                  · exact HCI.out _ HB7.out
                  clear hK K
                  refine wpAnyH_take (i := 5) (v := .bool false) rfl (by kernel_rfl) (by kernel_rfl) (by kernel_rfl) (fun _ _ _ h => h) (Or.inl ⟨by kernel_rfl, fun w hSw => by (try dsimp only at hSw); (first | (go_simp; done) | (go_simp; with_reducible rfl))⟩) (by assumption) ?_
                  refine wpAnyH_take (i := 6) (v := .bool false) rfl (by kernel_rfl) (by kernel_rfl) (by kernel_rfl) (fun _ _ _ h => h) (Or.inl ⟨by kernel_rfl, fun w hSw => by (try dsimp only at hSw); (first | (go_simp; done) | (go_simp; with_reducible rfl))⟩) (by assumption) ?_
                  refine wpAnyH_take (i := 7) (v := .bool true) rfl (by kernel_rfl) (by kernel_rfl) (by kernel_rfl) (fun _ _ _ h => h) (Or.inl ⟨by kernel_rfl, fun w hSw => by (try dsimp only at hSw); (first | (go_simp; done) | (go_simp; with_reducible rfl))⟩) (by assumption) ?_
                  refine wpAnyH_take (i := 8) (v := .bool false) rfl (by kernel_rfl) (by kernel_rfl) (by kernel_rfl) (fun _ _ _ h => h) (Or.inl ⟨by kernel_rfl, fun w hSw => by (try dsimp only at hSw); (first | (go_simp; done) | (go_simp; with_reducible rfl))⟩) (by assumption) ?_
                  refine wpAnyH_take (i := 9) (v := .bool false) rfl (by kernel_rfl) (by kernel_rfl) (by kernel_rfl) (fun _ _ _ h => h) (Or.inl ⟨by kernel_rfl, fun w hSw => by (try dsimp only at hSw); (first | (go_simp; done) | (go_simp; with_reducible rfl))⟩) (by assumption) ?_
                  refine wpAnyH_take (i := 10) (v := undef) rfl (by kernel_rfl) (by kernel_rfl) (by kernel_rfl) (fun _ _ _ h => h) (Or.inr ⟨by kernel_rfl, rfl⟩) (by assumption) ?_
                  refine wpAnyH_take (i := 11) (v := undef) rfl (by kernel_rfl) (by kernel_rfl) (by kernel_rfl) (fun _ _ _ h => h) (Or.inr ⟨by kernel_rfl, rfl⟩) (by assumption) ?_
                  refine wpAnyH_take (i := 12) (v := undef) rfl (by kernel_rfl) (by kernel_rfl) (by kernel_rfl) (fun _ _ _ h => h) (Or.inr ⟨by kernel_rfl, rfl⟩) (by assumption) ?_
                  refine wpAnyH_take (i := 13) (v := undef) rfl (by kernel_rfl) (by kernel_rfl) (by kernel_rfl) (fun _ _ _ h => h) (Or.inr ⟨by kernel_rfl, rfl⟩) (by assumption) ?_
                  refine wpAnyH_take (i := 14) (v := undef) rfl (by kernel_rfl) (by kernel_rfl) (by kernel_rfl) (fun _ _ _ h => h) (Or.inr ⟨by kernel_rfl, rfl⟩) (by assumption) ?_
                  refine wpAnyH_take (i := 15) (v := undef) rfl (by kernel_rfl) (by kernel_rfl) (by kernel_rfl) (fun _ _ _ h => h) (Or.inr ⟨by kernel_rfl, rfl⟩) (by assumption) ?_
                  refine wpAnyH_take (i := 16) (v := undef) rfl (by kernel_rfl) (by kernel_rfl) (by kernel_rfl) (fun _ _ _ h => h) (Or.inr ⟨by kernel_rfl, rfl⟩) (by assumption) ?_
                  refine wpAnyH_take (i := 17) (v := undef) rfl (by kernel_rfl) (by kernel_rfl) (by kernel_rfl) (fun _ _ _ h => h) (Or.inr ⟨by kernel_rfl, rfl⟩) (by assumption) ?_
                  refine wpAnyH_take (i := 18) (v := .bool false) rfl (by kernel_rfl) (by kernel_rfl) (by kernel_rfl) (fun _ _ _ h => h) (Or.inl ⟨by kernel_rfl, fun w hSw => by (try dsimp only at hSw); (first | (go_simp; done) | (go_simp; with_reducible rfl))⟩) (by assumption) ?_
                  refine wpAnyH_take (i := 19) (v := .bool false) rfl (by kernel_rfl) (by kernel_rfl) (by kernel_rfl) (fun _ _ _ h => h) (Or.inl ⟨by kernel_rfl, fun w hSw => by (try dsimp only at hSw); (first | (go_simp; done) | (go_simp; with_reducible rfl))⟩) (by assumption) ?_
                  refine wpAnyH_done (by kernel_rfl) ?_ _
                  go_simp
                  go_wp2
                  go_meet
                  exact ⟨by rw [hv.out], HB7⟩
                · by_cases q1 : dd < 0
                  · have hv : Hid (V = true) := Lib.hid (by rw [HV.out, HIF.out]; unfold belowB; rw [decide_eq_false (show ¬ 0 ≤ dd by omega)]; rfl)
                    have q1b : decide (dd < 0) = true := decide_eq_true q1
                    refine wp_region_held_drew (S := (fun W => W.cell? ⟨wr.heap.size, 0, none⟩ = some (.int .i64 y.op) ∧ W.cell? ⟨wr.heap.size, 1, none⟩ = some (.int .i64 y.d) ∧ W.cell? ⟨wr.heap.size, 2, none⟩ = some (.int .i64 y.a) ∧ W.cell? ⟨wr.heap.size, 3, none⟩ = some (.int .i64 y.b) ∧ W.cell? ⟨wr.heap.size, 4, none⟩ = some (.int .i64 y.f) ∧ W.cell? ⟨wr.heap.size, 5, none⟩ = some (.int .u32 y.n) ∧ W.cell? ⟨wr.heap.size, 6, none⟩ = some (.slice ap9 y.args.length ac9) ∧ W.cell? ⟨wr.heap.size, 7, none⟩ = some (.slice rp9 y.arrs.length rc9) ∧ W.cell? ⟨w.heap.size, 1, none⟩ = some (.int .i64 x.temps))) (by kernel_rfl) (HCI.out _ HB6.out.drew) (fun hHeld => ?_)
                    refine wpAnyH_take (i := 0) (v := .agg #[.int .i64 y.op, .int .i64 y.d, .int .i64 y.a, .int .i64 y.b, .int .i64 y.f, .int .u32 y.n, .slice ap9 y.args.length ac9, .slice rp9 y.arrs.length rc9]) rfl (by kernel_rfl) (by kernel_rfl) (by kernel_rfl) (fun _ _ _ h => h) (Or.inl ⟨by kernel_rfl, fun w hSw => by (try dsimp only at hSw); (first | (go_simp; done) | (go_simp; with_reducible rfl))⟩) (by assumption) ?_
                    refine wpAnyH_take (i := 2) (v := .pointer (some ⟨w.heap.size, 1, none⟩)) rfl (by kernel_rfl) (by kernel_rfl) (by kernel_rfl) (fun _ _ _ h => h) (Or.inl ⟨by kernel_rfl, fun w hSw => by (try dsimp only at hSw); (first | (go_simp; done) | (go_simp; with_reducible rfl))⟩) (by assumption) ?_
                    refine wpAnyH_take (i := 3) (v := .int .i64 x.temps) rfl (by kernel_rfl) (by kernel_rfl) (by kernel_rfl) (fun _ _ _ h => h) (Or.inl ⟨by kernel_rfl, fun w hSw => by (try dsimp only at hSw); (first | (go_simp; done) | (go_simp; with_reducible rfl))⟩) (by assumption) ?_
                    refine wpAnyH_ready (rs := [1]) (by kernel_rfl) (by simp) ?_
                    refine AllReadyH.cons rfl (fun K hK => ?_) AllReadyH.nil
                    rw [if_pos (by kernel_rfl)]
                    go_simp
                    refine (HUS.out _ HB6.out.drew).mono ?_
                    rintro e w7 ⟨p7, n7, c7, rfl, hi7, hb7⟩
                    have HI7 := Lib.hid hi7
                    have HB7 : Hid (Below W2.heap.size W2 w7) := Lib.hid (below_then HB6.out.drew hb7)
                    clear hi7 hb7
                    refine hK.out _ _ ?_ (fun hHeld => ?_)
                    · exact HCI.out _ HB7.out
                    clear hK K
                    refine wpAnyH_ready (rs := [4]) (by kernel_rfl) (by simp) ?_
                    refine AllReadyH.cons rfl (fun K hK => ?_) AllReadyH.nil
                    rw [if_pos (by kernel_rfl)]
                    go_simp
                    refine (temps13_any _ _ _ _ HI7.out).mono ?_
                    rintro e w8 ⟨he, rfl⟩
                    rw [← HU.out] at he
                    subst he
                    refine hK.out _ _ ?_ (fun hHeld => ?_)
                    · exact HCI.out _ HB7.out
                    clear hK K
                    refine wpAnyH_take (i := 5) (v := .bool false) rfl (by kernel_rfl) (by kernel_rfl) (by kernel_rfl) (fun _ _ _ h => h) (Or.inl ⟨by kernel_rfl, fun w hSw => by (try dsimp only at hSw); (first | (go_simp; done) | (go_simp; with_reducible rfl))⟩) (by assumption) ?_
                    refine wpAnyH_take (i := 6) (v := .bool false) rfl (by kernel_rfl) (by kernel_rfl) (by kernel_rfl) (fun _ _ _ h => h) (Or.inl ⟨by kernel_rfl, fun w hSw => by (try dsimp only at hSw); (first | (go_simp; done) | (go_simp; with_reducible rfl))⟩) (by assumption) ?_
                    refine wpAnyH_take (i := 7) (v := .bool false) rfl (by kernel_rfl) (by kernel_rfl) (by kernel_rfl) (fun _ _ _ h => h) (Or.inl ⟨by kernel_rfl, fun w hSw => by (try dsimp only at hSw); (first | (go_simp; done) | (go_simp; with_reducible rfl))⟩) (by assumption) ?_
                    refine wpAnyH_take (i := 8) (v := .bool true) rfl (by kernel_rfl) (by kernel_rfl) (by kernel_rfl) (fun _ _ _ h => h) (Or.inl ⟨by kernel_rfl, fun w hSw => by (try dsimp only at hSw); (first | (go_simp; done) | (go_simp; with_reducible rfl))⟩) (by assumption) ?_
                    refine wpAnyH_take (i := 9) (v := .bool true) rfl (by kernel_rfl) (by kernel_rfl) (by kernel_rfl) (fun _ _ _ h => h) (Or.inl ⟨by kernel_rfl, fun w hSw => by (try dsimp only at hSw); (first | (go_simp; done) | (go_simp; with_reducible rfl))⟩) (by assumption) ?_
                    refine wpAnyH_take (i := 10) (v := .int .i64 dd) rfl (by kernel_rfl) (by kernel_rfl) (by kernel_rfl) (fun _ _ _ h => h) (Or.inl ⟨by kernel_rfl, fun w hSw => by (try dsimp only at hSw); (first | (go_simp; done) | (go_simp; with_reducible rfl))⟩) (by assumption) ?_
                    refine wpAnyH_take (i := 11) (v := .bool true) rfl (by kernel_rfl) (by kernel_rfl) (by kernel_rfl) (fun _ _ _ h => h) (Or.inl ⟨by kernel_rfl, fun w hSw => by (try dsimp only at hSw); (first | (go_simp; done) | (go_simp; with_reducible rfl))⟩) (by assumption) ?_
                    refine wpAnyH_take (i := 12) (v := .bool true) rfl (by kernel_rfl) (by kernel_rfl) (by kernel_rfl) (fun _ _ _ h => h) (Or.inl ⟨by kernel_rfl, fun w hSw => by (try dsimp only at hSw); (first | (go_simp; done) | (go_simp; with_reducible rfl))⟩) (by assumption) ?_
                    refine wpAnyH_take (i := 13) (v := undef) rfl (by kernel_rfl) (by kernel_rfl) (by kernel_rfl) (fun _ _ _ h => h) (Or.inr ⟨by kernel_rfl, rfl⟩) (by assumption) ?_
                    refine wpAnyH_take (i := 14) (v := undef) rfl (by kernel_rfl) (by kernel_rfl) (by kernel_rfl) (fun _ _ _ h => h) (Or.inr ⟨by kernel_rfl, rfl⟩) (by assumption) ?_
                    refine wpAnyH_take (i := 15) (v := undef) rfl (by kernel_rfl) (by kernel_rfl) (by kernel_rfl) (fun _ _ _ h => h) (Or.inr ⟨by kernel_rfl, rfl⟩) (by assumption) ?_
                    refine wpAnyH_take (i := 16) (v := undef) rfl (by kernel_rfl) (by kernel_rfl) (by kernel_rfl) (fun _ _ _ h => h) (Or.inr ⟨by kernel_rfl, rfl⟩) (by assumption) ?_
                    refine wpAnyH_take (i := 17) (v := .bool true) rfl (by kernel_rfl) (by kernel_rfl) (by kernel_rfl) (fun _ _ _ h => h) (Or.inl ⟨by kernel_rfl, fun w hSw => by (try dsimp only at hSw); (first | (go_simp; done) | (go_simp; with_reducible rfl))⟩) (by assumption) ?_
                    refine wpAnyH_take (i := 18) (v := .bool true) rfl (by kernel_rfl) (by kernel_rfl) (by kernel_rfl) (fun _ _ _ h => h) (Or.inl ⟨by kernel_rfl, fun w hSw => by (try dsimp only at hSw); (first | (go_simp; done) | (go_simp; with_reducible rfl))⟩) (by assumption) ?_
                    refine wpAnyH_take (i := 19) (v := .bool true) rfl (by kernel_rfl) (by kernel_rfl) (by kernel_rfl) (fun _ _ _ h => h) (Or.inl ⟨by kernel_rfl, fun w hSw => by (try dsimp only at hSw); (first | (go_simp; done) | (go_simp; with_reducible rfl))⟩) (by assumption) ?_
                    refine wpAnyH_done (by kernel_rfl) ?_ _
                    go_simp
                    go_wp2
                    go_meet
                    exact ⟨by rw [hv.out], HB7⟩
                  · by_cases q2 : dd < x.temps
                    · have hv : Hid (V = false) := Lib.hid (by rw [HV.out, HIF.out]; unfold belowB; rw [decide_eq_true (show 0 ≤ dd by omega), decide_eq_true q2]; rfl)
                      have q1b : decide (dd < 0) = false := decide_eq_false q1
                      have q2b : decide (x.temps ≤ dd) = false := decide_eq_false (by omega)
                      refine wp_region_held_drew (S := (fun W => W.cell? ⟨wr.heap.size, 0, none⟩ = some (.int .i64 y.op) ∧ W.cell? ⟨wr.heap.size, 1, none⟩ = some (.int .i64 y.d) ∧ W.cell? ⟨wr.heap.size, 2, none⟩ = some (.int .i64 y.a) ∧ W.cell? ⟨wr.heap.size, 3, none⟩ = some (.int .i64 y.b) ∧ W.cell? ⟨wr.heap.size, 4, none⟩ = some (.int .i64 y.f) ∧ W.cell? ⟨wr.heap.size, 5, none⟩ = some (.int .u32 y.n) ∧ W.cell? ⟨wr.heap.size, 6, none⟩ = some (.slice ap9 y.args.length ac9) ∧ W.cell? ⟨wr.heap.size, 7, none⟩ = some (.slice rp9 y.arrs.length rc9) ∧ W.cell? ⟨w.heap.size, 1, none⟩ = some (.int .i64 x.temps))) (by kernel_rfl) (HCI.out _ HB6.out.drew) (fun hHeld => ?_)
                      refine wpAnyH_take (i := 0) (v := .agg #[.int .i64 y.op, .int .i64 y.d, .int .i64 y.a, .int .i64 y.b, .int .i64 y.f, .int .u32 y.n, .slice ap9 y.args.length ac9, .slice rp9 y.arrs.length rc9]) rfl (by kernel_rfl) (by kernel_rfl) (by kernel_rfl) (fun _ _ _ h => h) (Or.inl ⟨by kernel_rfl, fun w hSw => by (try dsimp only at hSw); (first | (go_simp; done) | (go_simp; with_reducible rfl))⟩) (by assumption) ?_
                      refine wpAnyH_take (i := 2) (v := .pointer (some ⟨w.heap.size, 1, none⟩)) rfl (by kernel_rfl) (by kernel_rfl) (by kernel_rfl) (fun _ _ _ h => h) (Or.inl ⟨by kernel_rfl, fun w hSw => by (try dsimp only at hSw); (first | (go_simp; done) | (go_simp; with_reducible rfl))⟩) (by assumption) ?_
                      refine wpAnyH_take (i := 3) (v := .int .i64 x.temps) rfl (by kernel_rfl) (by kernel_rfl) (by kernel_rfl) (fun _ _ _ h => h) (Or.inl ⟨by kernel_rfl, fun w hSw => by (try dsimp only at hSw); (first | (go_simp; done) | (go_simp; with_reducible rfl))⟩) (by assumption) ?_
                      refine wpAnyH_ready (rs := [1]) (by kernel_rfl) (by simp) ?_
                      refine AllReadyH.cons rfl (fun K hK => ?_) AllReadyH.nil
                      rw [if_pos (by kernel_rfl)]
                      go_simp
                      refine (HUS.out _ HB6.out.drew).mono ?_
                      rintro e w7 ⟨p7, n7, c7, rfl, hi7, hb7⟩
                      have HI7 := Lib.hid hi7
                      have HB7 : Hid (Below W2.heap.size W2 w7) := Lib.hid (below_then HB6.out.drew hb7)
                      clear hi7 hb7
                      refine hK.out _ _ ?_ (fun hHeld => ?_)
                      · exact HCI.out _ HB7.out
                      clear hK K
                      refine wpAnyH_ready (rs := [4]) (by kernel_rfl) (by simp) ?_
                      refine AllReadyH.cons rfl (fun K hK => ?_) AllReadyH.nil
                      rw [if_pos (by kernel_rfl)]
                      go_simp
                      refine (temps13_any _ _ _ _ HI7.out).mono ?_
                      rintro e w8 ⟨he, rfl⟩
                      rw [← HU.out] at he
                      subst he
                      refine hK.out _ _ ?_ (fun hHeld => ?_)
                      · exact HCI.out _ HB7.out
                      clear hK K
                      refine wpAnyH_take (i := 5) (v := .bool false) rfl (by kernel_rfl) (by kernel_rfl) (by kernel_rfl) (fun _ _ _ h => h) (Or.inl ⟨by kernel_rfl, fun w hSw => by (try dsimp only at hSw); (first | (go_simp; done) | (go_simp; with_reducible rfl))⟩) (by assumption) ?_
                      refine wpAnyH_take (i := 6) (v := .bool false) rfl (by kernel_rfl) (by kernel_rfl) (by kernel_rfl) (fun _ _ _ h => h) (Or.inl ⟨by kernel_rfl, fun w hSw => by (try dsimp only at hSw); (first | (go_simp; done) | (go_simp; with_reducible rfl))⟩) (by assumption) ?_
                      refine wpAnyH_take (i := 7) (v := .bool false) rfl (by kernel_rfl) (by kernel_rfl) (by kernel_rfl) (fun _ _ _ h => h) (Or.inl ⟨by kernel_rfl, fun w hSw => by (try dsimp only at hSw); (first | (go_simp; done) | (go_simp; with_reducible rfl))⟩) (by assumption) ?_
                      refine wpAnyH_take (i := 8) (v := .bool true) rfl (by kernel_rfl) (by kernel_rfl) (by kernel_rfl) (fun _ _ _ h => h) (Or.inl ⟨by kernel_rfl, fun w hSw => by (try dsimp only at hSw); (first | (go_simp; done) | (go_simp; with_reducible rfl))⟩) (by assumption) ?_
                      refine wpAnyH_take (i := 9) (v := .bool true) rfl (by kernel_rfl) (by kernel_rfl) (by kernel_rfl) (fun _ _ _ h => h) (Or.inl ⟨by kernel_rfl, fun w hSw => by (try dsimp only at hSw); (first | (go_simp; done) | (go_simp; with_reducible rfl))⟩) (by assumption) ?_
                      refine wpAnyH_take (i := 10) (v := .int .i64 dd) rfl (by kernel_rfl) (by kernel_rfl) (by kernel_rfl) (fun _ _ _ h => h) (Or.inl ⟨by kernel_rfl, fun w hSw => by (try dsimp only at hSw); (first | (go_simp; done) | (go_simp; with_reducible rfl))⟩) (by assumption) ?_
                      refine wpAnyH_take (i := 11) (v := .bool false) rfl (by kernel_rfl) (by kernel_rfl) (by kernel_rfl) (fun _ _ _ h => h) (Or.inl ⟨by kernel_rfl, fun w hSw => by (try dsimp only at hSw); (first | (go_simp; done) | (go_simp; with_reducible rfl))⟩) (by assumption) ?_
                      refine wpAnyH_take (i := 12) (v := .bool false) rfl (by kernel_rfl) (by kernel_rfl) (by kernel_rfl) (fun _ _ _ h => h) (Or.inl ⟨by kernel_rfl, fun w hSw => by (try dsimp only at hSw); (first | (go_simp; done) | (go_simp; with_reducible rfl))⟩) (by assumption) ?_
                      refine wpAnyH_take (i := 13) (v := .int .i64 dd) rfl (by kernel_rfl) (by kernel_rfl) (by kernel_rfl) (fun _ _ _ h => h) (Or.inl ⟨by kernel_rfl, fun w hSw => by (try dsimp only at hSw); (first | (go_simp; done) | (go_simp; with_reducible rfl))⟩) (by assumption) ?_
                      refine wpAnyH_take (i := 14) (v := .pointer (some ⟨w.heap.size, 1, none⟩)) rfl (by kernel_rfl) (by kernel_rfl) (by kernel_rfl) (fun _ _ _ h => h) (Or.inl ⟨by kernel_rfl, fun w hSw => by (try dsimp only at hSw); (first | (go_simp; done) | (go_simp; with_reducible rfl))⟩) (by assumption) ?_
                      refine wpAnyH_take (i := 15) (v := .int .i64 x.temps) rfl (by kernel_rfl) (by kernel_rfl) (by kernel_rfl) (fun _ _ _ h => h) (Or.inl ⟨by kernel_rfl, fun w hSw => by (try dsimp only at hSw); (first | (go_simp; done) | (go_simp; with_reducible rfl))⟩) (by assumption) ?_
                      refine wpAnyH_take (i := 16) (v := .bool false) rfl (by kernel_rfl) (by kernel_rfl) (by kernel_rfl) (fun _ _ _ h => h) (Or.inl ⟨by kernel_rfl, fun w hSw => by (try dsimp only at hSw); (first | (go_simp; done) | (go_simp; with_reducible rfl))⟩) (by assumption) ?_
                      refine wpAnyH_take (i := 17) (v := .bool false) rfl (by kernel_rfl) (by kernel_rfl) (by kernel_rfl) (fun _ _ _ h => h) (Or.inl ⟨by kernel_rfl, fun w hSw => by (try dsimp only at hSw); (first | (go_simp; done) | (go_simp; with_reducible rfl))⟩) (by assumption) ?_
                      refine wpAnyH_take (i := 18) (v := .bool false) rfl (by kernel_rfl) (by kernel_rfl) (by kernel_rfl) (fun _ _ _ h => h) (Or.inl ⟨by kernel_rfl, fun w hSw => by (try dsimp only at hSw); (first | (go_simp; done) | (go_simp; with_reducible rfl))⟩) (by assumption) ?_
                      refine wpAnyH_take (i := 19) (v := .bool false) rfl (by kernel_rfl) (by kernel_rfl) (by kernel_rfl) (fun _ _ _ h => h) (Or.inl ⟨by kernel_rfl, fun w hSw => by (try dsimp only at hSw); (first | (go_simp; done) | (go_simp; with_reducible rfl))⟩) (by assumption) ?_
                      refine wpAnyH_done (by kernel_rfl) ?_ _
                      go_simp
                      go_wp2
                      go_meet
                      exact ⟨by rw [hv.out], HB7⟩
                    · have hv : Hid (V = true) := Lib.hid (by rw [HV.out, HIF.out]; unfold belowB; rw [decide_eq_false q2, Bool.and_false]; rfl)
                      have q1b : decide (dd < 0) = false := decide_eq_false q1
                      have q2b : decide (x.temps ≤ dd) = true := decide_eq_true (by omega)
                      refine wp_region_held_drew (S := (fun W => W.cell? ⟨wr.heap.size, 0, none⟩ = some (.int .i64 y.op) ∧ W.cell? ⟨wr.heap.size, 1, none⟩ = some (.int .i64 y.d) ∧ W.cell? ⟨wr.heap.size, 2, none⟩ = some (.int .i64 y.a) ∧ W.cell? ⟨wr.heap.size, 3, none⟩ = some (.int .i64 y.b) ∧ W.cell? ⟨wr.heap.size, 4, none⟩ = some (.int .i64 y.f) ∧ W.cell? ⟨wr.heap.size, 5, none⟩ = some (.int .u32 y.n) ∧ W.cell? ⟨wr.heap.size, 6, none⟩ = some (.slice ap9 y.args.length ac9) ∧ W.cell? ⟨wr.heap.size, 7, none⟩ = some (.slice rp9 y.arrs.length rc9) ∧ W.cell? ⟨w.heap.size, 1, none⟩ = some (.int .i64 x.temps))) (by kernel_rfl) (HCI.out _ HB6.out.drew) (fun hHeld => ?_)
                      refine wpAnyH_take (i := 0) (v := .agg #[.int .i64 y.op, .int .i64 y.d, .int .i64 y.a, .int .i64 y.b, .int .i64 y.f, .int .u32 y.n, .slice ap9 y.args.length ac9, .slice rp9 y.arrs.length rc9]) rfl (by kernel_rfl) (by kernel_rfl) (by kernel_rfl) (fun _ _ _ h => h) (Or.inl ⟨by kernel_rfl, fun w hSw => by (try dsimp only at hSw); (first | (go_simp; done) | (go_simp; with_reducible rfl))⟩) (by assumption) ?_
                      refine wpAnyH_take (i := 2) (v := .pointer (some ⟨w.heap.size, 1, none⟩)) rfl (by kernel_rfl) (by kernel_rfl) (by kernel_rfl) (fun _ _ _ h => h) (Or.inl ⟨by kernel_rfl, fun w hSw => by (try dsimp only at hSw); (first | (go_simp; done) | (go_simp; with_reducible rfl))⟩) (by assumption) ?_
                      refine wpAnyH_take (i := 3) (v := .int .i64 x.temps) rfl (by kernel_rfl) (by kernel_rfl) (by kernel_rfl) (fun _ _ _ h => h) (Or.inl ⟨by kernel_rfl, fun w hSw => by (try dsimp only at hSw); (first | (go_simp; done) | (go_simp; with_reducible rfl))⟩) (by assumption) ?_
                      refine wpAnyH_ready (rs := [1]) (by kernel_rfl) (by simp) ?_
                      refine AllReadyH.cons rfl (fun K hK => ?_) AllReadyH.nil
                      rw [if_pos (by kernel_rfl)]
                      go_simp
                      refine (HUS.out _ HB6.out.drew).mono ?_
                      rintro e w7 ⟨p7, n7, c7, rfl, hi7, hb7⟩
                      have HI7 := Lib.hid hi7
                      have HB7 : Hid (Below W2.heap.size W2 w7) := Lib.hid (below_then HB6.out.drew hb7)
                      clear hi7 hb7
                      refine hK.out _ _ ?_ (fun hHeld => ?_)
                      · exact HCI.out _ HB7.out
                      clear hK K
                      refine wpAnyH_ready (rs := [4]) (by kernel_rfl) (by simp) ?_
                      refine AllReadyH.cons rfl (fun K hK => ?_) AllReadyH.nil
                      rw [if_pos (by kernel_rfl)]
                      go_simp
                      refine (temps13_any _ _ _ _ HI7.out).mono ?_
                      rintro e w8 ⟨he, rfl⟩
                      rw [← HU.out] at he
                      subst he
                      refine hK.out _ _ ?_ (fun hHeld => ?_)
                      · exact HCI.out _ HB7.out
                      clear hK K
                      refine wpAnyH_take (i := 5) (v := .bool false) rfl (by kernel_rfl) (by kernel_rfl) (by kernel_rfl) (fun _ _ _ h => h) (Or.inl ⟨by kernel_rfl, fun w hSw => by (try dsimp only at hSw); (first | (go_simp; done) | (go_simp; with_reducible rfl))⟩) (by assumption) ?_
                      refine wpAnyH_take (i := 6) (v := .bool false) rfl (by kernel_rfl) (by kernel_rfl) (by kernel_rfl) (fun _ _ _ h => h) (Or.inl ⟨by kernel_rfl, fun w hSw => by (try dsimp only at hSw); (first | (go_simp; done) | (go_simp; with_reducible rfl))⟩) (by assumption) ?_
                      refine wpAnyH_take (i := 7) (v := .bool false) rfl (by kernel_rfl) (by kernel_rfl) (by kernel_rfl) (fun _ _ _ h => h) (Or.inl ⟨by kernel_rfl, fun w hSw => by (try dsimp only at hSw); (first | (go_simp; done) | (go_simp; with_reducible rfl))⟩) (by assumption) ?_
                      refine wpAnyH_take (i := 8) (v := .bool true) rfl (by kernel_rfl) (by kernel_rfl) (by kernel_rfl) (fun _ _ _ h => h) (Or.inl ⟨by kernel_rfl, fun w hSw => by (try dsimp only at hSw); (first | (go_simp; done) | (go_simp; with_reducible rfl))⟩) (by assumption) ?_
                      refine wpAnyH_take (i := 9) (v := .bool true) rfl (by kernel_rfl) (by kernel_rfl) (by kernel_rfl) (fun _ _ _ h => h) (Or.inl ⟨by kernel_rfl, fun w hSw => by (try dsimp only at hSw); (first | (go_simp; done) | (go_simp; with_reducible rfl))⟩) (by assumption) ?_
                      refine wpAnyH_take (i := 10) (v := .int .i64 dd) rfl (by kernel_rfl) (by kernel_rfl) (by kernel_rfl) (fun _ _ _ h => h) (Or.inl ⟨by kernel_rfl, fun w hSw => by (try dsimp only at hSw); (first | (go_simp; done) | (go_simp; with_reducible rfl))⟩) (by assumption) ?_
                      refine wpAnyH_take (i := 11) (v := .bool false) rfl (by kernel_rfl) (by kernel_rfl) (by kernel_rfl) (fun _ _ _ h => h) (Or.inl ⟨by kernel_rfl, fun w hSw => by (try dsimp only at hSw); (first | (go_simp; done) | (go_simp; with_reducible rfl))⟩) (by assumption) ?_
                      refine wpAnyH_take (i := 12) (v := .bool false) rfl (by kernel_rfl) (by kernel_rfl) (by kernel_rfl) (fun _ _ _ h => h) (Or.inl ⟨by kernel_rfl, fun w hSw => by (try dsimp only at hSw); (first | (go_simp; done) | (go_simp; with_reducible rfl))⟩) (by assumption) ?_
                      refine wpAnyH_take (i := 13) (v := .int .i64 dd) rfl (by kernel_rfl) (by kernel_rfl) (by kernel_rfl) (fun _ _ _ h => h) (Or.inl ⟨by kernel_rfl, fun w hSw => by (try dsimp only at hSw); (first | (go_simp; done) | (go_simp; with_reducible rfl))⟩) (by assumption) ?_
                      refine wpAnyH_take (i := 14) (v := .pointer (some ⟨w.heap.size, 1, none⟩)) rfl (by kernel_rfl) (by kernel_rfl) (by kernel_rfl) (fun _ _ _ h => h) (Or.inl ⟨by kernel_rfl, fun w hSw => by (try dsimp only at hSw); (first | (go_simp; done) | (go_simp; with_reducible rfl))⟩) (by assumption) ?_
                      refine wpAnyH_take (i := 15) (v := .int .i64 x.temps) rfl (by kernel_rfl) (by kernel_rfl) (by kernel_rfl) (fun _ _ _ h => h) (Or.inl ⟨by kernel_rfl, fun w hSw => by (try dsimp only at hSw); (first | (go_simp; done) | (go_simp; with_reducible rfl))⟩) (by assumption) ?_
                      refine wpAnyH_take (i := 16) (v := .bool true) rfl (by kernel_rfl) (by kernel_rfl) (by kernel_rfl) (fun _ _ _ h => h) (Or.inl ⟨by kernel_rfl, fun w hSw => by (try dsimp only at hSw); (first | (go_simp; done) | (go_simp; with_reducible rfl))⟩) (by assumption) ?_
                      refine wpAnyH_take (i := 17) (v := .bool true) rfl (by kernel_rfl) (by kernel_rfl) (by kernel_rfl) (fun _ _ _ h => h) (Or.inl ⟨by kernel_rfl, fun w hSw => by (try dsimp only at hSw); (first | (go_simp; done) | (go_simp; with_reducible rfl))⟩) (by assumption) ?_
                      refine wpAnyH_take (i := 18) (v := .bool true) rfl (by kernel_rfl) (by kernel_rfl) (by kernel_rfl) (fun _ _ _ h => h) (Or.inl ⟨by kernel_rfl, fun w hSw => by (try dsimp only at hSw); (first | (go_simp; done) | (go_simp; with_reducible rfl))⟩) (by assumption) ?_
                      refine wpAnyH_take (i := 19) (v := .bool true) rfl (by kernel_rfl) (by kernel_rfl) (by kernel_rfl) (fun _ _ _ h => h) (Or.inl ⟨by kernel_rfl, fun w hSw => by (try dsimp only at hSw); (first | (go_simp; done) | (go_simp; with_reducible rfl))⟩) (by assumption) ?_
                      refine wpAnyH_done (by kernel_rfl) ?_ _
                      go_simp
                      go_wp2
                      go_meet
                      exact ⟨by rw [hv.out], HB7⟩
            case rest =>
              obtain ⟨rfl, HQ⟩ := hcut
              cases hq : V with
              | true =>
                have hr : Hid (fitsB x = false) := Lib.hid (HNOI.out (by have := HV.out; rw [hq] at this; cases h : insFit x.temps y <;> first | rfl | (rw [h] at this; cases this)))
                go_wp2
                go_ret
                exact ⟨by rw [hr.out]; rfl, below_then HWE.out HQ.out⟩
              | false =>
                have hr : Hid (insFit x.temps y = true) := Lib.hid (by have := HV.out; rw [hq] at this; cases h : insFit x.temps y <;> first | rfl | (rw [h] at this; cases this))
                go_wp2
                refine ⟨⟨k + 1, by omega, by go_num, Lib.hid (below_then HW.out (below_then HB2.out HQ.out)), Lib.hid (fun j y' hj hy' => ?_)⟩, by simp [intOf]; omega⟩
                by_cases e : j = k
                · subst e
                  have := HY.out
                  rw [hy'] at this
                  cases this
                  exact hr.out
                · exact HI.out j y' (by omega) hy'
          · have hkc2 : k = c := by omega
            have ki : ¬ ((k : Int) < c) := by omega
            have HCD : Hid (blk.code.all (insFit x.temps) = true) := Lib.hid (List.all_eq_true.2 fun y hy => by
              obtain ⟨j, hj, e⟩ := List.mem_iff_getElem.1 hy
              exact HI.out j y (by have := HC.out; omega) (by rw [List.getElem?_eq_getElem hj, e]))
            obtain ⟨y0, y1, y2, y3⟩ := HBX.out wr HW.out
            obtain ⟨c1, c2, c3, c4, c5, c6, c7, c8, c9⟩ := HCE.out wr HW.out
            have HEU := Lib.hid (fun (w : World) => endUses_any blk.fin pz pt blk.fin.cases.length cc blk.fin.targets.length ct w)
            have HBO : Hid ((wr.alloc (.cells #[.int .i64 blk.fin.kind, .int .i64 blk.fin.op, .int .i64 blk.fin.a, .int .i64 blk.fin.b, .int .u32 blk.fin.n, .int .i64 blk.fin.to, .int .i64 blk.fin.els, .slice pz blk.fin.cases.length cc, .slice pt blk.fin.targets.length ct] 40)).heap[wr.heap.size]? = some (.cells #[.int .i64 blk.fin.kind, .int .i64 blk.fin.op, .int .i64 blk.fin.a, .int .i64 blk.fin.b, .int .u32 blk.fin.n, .int .i64 blk.fin.to, .int .i64 blk.fin.els, .slice pz blk.fin.cases.length cc, .slice pt blk.fin.targets.length ct] 40 (0, 0))) := Lib.hid (heap_new wr _)
            have HB2 := Lib.hid (Graph.below_alloc wr (.cells #[.int .i64 blk.fin.kind, .int .i64 blk.fin.op, .int .i64 blk.fin.a, .int .i64 blk.fin.b, .int .u32 blk.fin.n, .int .i64 blk.fin.to, .int .i64 blk.fin.els, .slice pz blk.fin.cases.length cc, .slice pt blk.fin.targets.length ct] 40))
            clear hkc2
            go_upto_region 19 with (fail)
            generalize wr.alloc (.cells #[.int .i64 blk.fin.kind, .int .i64 blk.fin.op, .int .i64 blk.fin.a, .int .i64 blk.fin.b, .int .u32 blk.fin.n, .int .i64 blk.fin.to, .int .i64 blk.fin.els, .slice pz blk.fin.cases.length cc, .slice pt blk.fin.targets.length ct] 40) = W2 at HBO HB2 ⊢
            clear y0 y1 y2 y3 c1 c2 c3 c4 c5 c6 c7 c8 c9
            have HCI : Hid (∀ W, Below W2.heap.size W2 W → W.cell? ⟨wr.heap.size, 0, none⟩ = some (.int .i64 blk.fin.kind) ∧ W.cell? ⟨wr.heap.size, 1, none⟩ = some (.int .i64 blk.fin.op) ∧ W.cell? ⟨wr.heap.size, 2, none⟩ = some (.int .i64 blk.fin.a) ∧ W.cell? ⟨wr.heap.size, 3, none⟩ = some (.int .i64 blk.fin.b) ∧ W.cell? ⟨wr.heap.size, 4, none⟩ = some (.int .u32 blk.fin.n) ∧ W.cell? ⟨wr.heap.size, 5, none⟩ = some (.int .i64 blk.fin.to) ∧ W.cell? ⟨wr.heap.size, 6, none⟩ = some (.int .i64 blk.fin.els) ∧ W.cell? ⟨wr.heap.size, 7, none⟩ = some (.slice pz blk.fin.cases.length cc) ∧ W.cell? ⟨wr.heap.size, 8, none⟩ = some (.slice pt blk.fin.targets.length ct) ∧ W.cell? ⟨w.heap.size, 1, none⟩ = some (.int .i64 x.temps)) := Lib.hid (fun W hW => by
              have hb := (hW.block _ (Array.getElem?_eq_some_iff.1 HBO.out).1).trans HBO.out
              exact ⟨(cell_of_block hb (k := 0) rfl).1, (cell_of_block hb (k := 1) rfl).1, (cell_of_block hb (k := 2) rfl).1, (cell_of_block hb (k := 3) rfl).1, (cell_of_block hb (k := 4) rfl).1, (cell_of_block hb (k := 5) rfl).1, (cell_of_block hb (k := 6) rfl).1, (cell_of_block hb (k := 7) rfl).1, (cell_of_block hb (k := 8) rfl).1, (HBX.out W (below_then HW.out (below_then HB2.out hW))).2.1⟩)
            have HWE : Hid (Below w.heap.size w W2) := Lib.hid (below_then HB5.out (below_then HW.out HB2.out))
            obtain ⟨V, hV⟩ : ∃ V, V = !endFit x.temps blk.fin := ⟨_, rfl⟩
            have HV := Lib.hid hV
            clear hV
            go_cut [130] from 115 to 130 (fun v wq => v = .bool V ∧ Hid (Below W2.heap.size W2 wq))
            case first =>
              by_cases q1 : blk.fin.kind < 1
              · have hv : Hid (V = true) := Lib.hid (by rw [HV.out]; unfold endFit; rw [decide_eq_false (show ¬ 1 ≤ blk.fin.kind by omega)]; rfl)
                have q1b : decide (blk.fin.kind < 1) = true := decide_eq_true q1
                refine wp_region_held_drew (S := (fun W => W.cell? ⟨wr.heap.size, 0, none⟩ = some (.int .i64 blk.fin.kind) ∧ W.cell? ⟨wr.heap.size, 1, none⟩ = some (.int .i64 blk.fin.op) ∧ W.cell? ⟨wr.heap.size, 2, none⟩ = some (.int .i64 blk.fin.a) ∧ W.cell? ⟨wr.heap.size, 3, none⟩ = some (.int .i64 blk.fin.b) ∧ W.cell? ⟨wr.heap.size, 4, none⟩ = some (.int .u32 blk.fin.n) ∧ W.cell? ⟨wr.heap.size, 5, none⟩ = some (.int .i64 blk.fin.to) ∧ W.cell? ⟨wr.heap.size, 6, none⟩ = some (.int .i64 blk.fin.els) ∧ W.cell? ⟨wr.heap.size, 7, none⟩ = some (.slice pz blk.fin.cases.length cc) ∧ W.cell? ⟨wr.heap.size, 8, none⟩ = some (.slice pt blk.fin.targets.length ct) ∧ W.cell? ⟨w.heap.size, 1, none⟩ = some (.int .i64 x.temps))) (by kernel_rfl) (HCI.out _ (Below.refl _ _).drew) (fun hHeld => ?_)
                refine wpAnyH_take (i := 0) (v := .pointer (some ⟨wr.heap.size, 0, none⟩)) rfl (by kernel_rfl) (by kernel_rfl) (by kernel_rfl) (fun _ _ _ h => h) (Or.inl ⟨by kernel_rfl, fun w hSw => by (try dsimp only at hSw); (first | (go_simp; done) | (go_simp; with_reducible rfl))⟩) (by assumption) ?_
                refine wpAnyH_take (i := 1) (v := .int .i64 blk.fin.kind) rfl (by kernel_rfl) (by kernel_rfl) (by kernel_rfl) (fun _ _ _ h => h) (Or.inl ⟨by kernel_rfl, fun w hSw => by (try dsimp only at hSw); (first | (go_simp; done) | (go_simp; with_reducible rfl))⟩) (by assumption) ?_
                refine wpAnyH_take (i := 2) (v := .bool true) rfl (by kernel_rfl) (by kernel_rfl) (by kernel_rfl) (fun _ _ _ h => h) (Or.inl ⟨by kernel_rfl, fun w hSw => by (try dsimp only at hSw); (first | (go_simp; done) | (go_simp; with_reducible rfl))⟩) (by assumption) ?_
                refine wpAnyH_take (i := 3) (v := .bool true) rfl (by kernel_rfl) (by kernel_rfl) (by kernel_rfl) (fun _ _ _ h => h) (Or.inl ⟨by kernel_rfl, fun w hSw => by (try dsimp only at hSw); (first | (go_simp; done) | (go_simp; with_reducible rfl))⟩) (by assumption) ?_
                refine wpAnyH_take (i := 4) (v := undef) rfl (by kernel_rfl) (by kernel_rfl) (by kernel_rfl) (fun _ _ _ h => h) (Or.inr ⟨by kernel_rfl, rfl⟩) (by assumption) ?_
                refine wpAnyH_take (i := 5) (v := undef) rfl (by kernel_rfl) (by kernel_rfl) (by kernel_rfl) (fun _ _ _ h => h) (Or.inr ⟨by kernel_rfl, rfl⟩) (by assumption) ?_
                refine wpAnyH_take (i := 6) (v := undef) rfl (by kernel_rfl) (by kernel_rfl) (by kernel_rfl) (fun _ _ _ h => h) (Or.inr ⟨by kernel_rfl, rfl⟩) (by assumption) ?_
                refine wpAnyH_take (i := 7) (v := .bool true) rfl (by kernel_rfl) (by kernel_rfl) (by kernel_rfl) (fun _ _ _ h => h) (Or.inl ⟨by kernel_rfl, fun w hSw => by (try dsimp only at hSw); (first | (go_simp; done) | (go_simp; with_reducible rfl))⟩) (by assumption) ?_
                refine wpAnyH_take (i := 8) (v := .bool true) rfl (by kernel_rfl) (by kernel_rfl) (by kernel_rfl) (fun _ _ _ h => h) (Or.inl ⟨by kernel_rfl, fun w hSw => by (try dsimp only at hSw); (first | (go_simp; done) | (go_simp; with_reducible rfl))⟩) (by assumption) ?_
                refine wpAnyH_take (i := 9) (v := undef) rfl (by kernel_rfl) (by kernel_rfl) (by kernel_rfl) (fun _ _ _ h => h) (Or.inr ⟨by kernel_rfl, rfl⟩) (by assumption) ?_
                refine wpAnyH_take (i := 10) (v := undef) rfl (by kernel_rfl) (by kernel_rfl) (by kernel_rfl) (fun _ _ _ h => h) (Or.inr ⟨by kernel_rfl, rfl⟩) (by assumption) ?_
                refine wpAnyH_take (i := 11) (v := undef) rfl (by kernel_rfl) (by kernel_rfl) (by kernel_rfl) (fun _ _ _ h => h) (Or.inr ⟨by kernel_rfl, rfl⟩) (by assumption) ?_
                refine wpAnyH_take (i := 12) (v := undef) rfl (by kernel_rfl) (by kernel_rfl) (by kernel_rfl) (fun _ _ _ h => h) (Or.inr ⟨by kernel_rfl, rfl⟩) (by assumption) ?_
                refine wpAnyH_take (i := 13) (v := undef) rfl (by kernel_rfl) (by kernel_rfl) (by kernel_rfl) (fun _ _ _ h => h) (Or.inr ⟨by kernel_rfl, rfl⟩) (by assumption) ?_
                refine wpAnyH_take (i := 14) (v := undef) rfl (by kernel_rfl) (by kernel_rfl) (by kernel_rfl) (fun _ _ _ h => h) (Or.inr ⟨by kernel_rfl, rfl⟩) (by assumption) ?_
                refine wpAnyH_take (i := 15) (v := .bool true) rfl (by kernel_rfl) (by kernel_rfl) (by kernel_rfl) (fun _ _ _ h => h) (Or.inl ⟨by kernel_rfl, fun w hSw => by (try dsimp only at hSw); (first | (go_simp; done) | (go_simp; with_reducible rfl))⟩) (by assumption) ?_
                refine wpAnyH_done (by kernel_rfl) ?_ _
                go_simp
                go_wp2
                go_meet
                exact ⟨by rw [hv.out], Lib.hid (Below.refl _ _).drew⟩
              · by_cases q2 : 5 < blk.fin.kind
                · have hv : Hid (V = true) := Lib.hid (by rw [HV.out]; unfold endFit; rw [decide_eq_false (show ¬ blk.fin.kind ≤ 5 by omega), Bool.and_false]; rfl)
                  have q1b : decide (blk.fin.kind < 1) = false := decide_eq_false q1
                  have q2b : decide (5 < blk.fin.kind) = true := decide_eq_true q2
                  refine wp_region_held_drew (S := (fun W => W.cell? ⟨wr.heap.size, 0, none⟩ = some (.int .i64 blk.fin.kind) ∧ W.cell? ⟨wr.heap.size, 1, none⟩ = some (.int .i64 blk.fin.op) ∧ W.cell? ⟨wr.heap.size, 2, none⟩ = some (.int .i64 blk.fin.a) ∧ W.cell? ⟨wr.heap.size, 3, none⟩ = some (.int .i64 blk.fin.b) ∧ W.cell? ⟨wr.heap.size, 4, none⟩ = some (.int .u32 blk.fin.n) ∧ W.cell? ⟨wr.heap.size, 5, none⟩ = some (.int .i64 blk.fin.to) ∧ W.cell? ⟨wr.heap.size, 6, none⟩ = some (.int .i64 blk.fin.els) ∧ W.cell? ⟨wr.heap.size, 7, none⟩ = some (.slice pz blk.fin.cases.length cc) ∧ W.cell? ⟨wr.heap.size, 8, none⟩ = some (.slice pt blk.fin.targets.length ct) ∧ W.cell? ⟨w.heap.size, 1, none⟩ = some (.int .i64 x.temps))) (by kernel_rfl) (HCI.out _ (Below.refl _ _).drew) (fun hHeld => ?_)
                  refine wpAnyH_take (i := 0) (v := .pointer (some ⟨wr.heap.size, 0, none⟩)) rfl (by kernel_rfl) (by kernel_rfl) (by kernel_rfl) (fun _ _ _ h => h) (Or.inl ⟨by kernel_rfl, fun w hSw => by (try dsimp only at hSw); (first | (go_simp; done) | (go_simp; with_reducible rfl))⟩) (by assumption) ?_
                  refine wpAnyH_take (i := 1) (v := .int .i64 blk.fin.kind) rfl (by kernel_rfl) (by kernel_rfl) (by kernel_rfl) (fun _ _ _ h => h) (Or.inl ⟨by kernel_rfl, fun w hSw => by (try dsimp only at hSw); (first | (go_simp; done) | (go_simp; with_reducible rfl))⟩) (by assumption) ?_
                  refine wpAnyH_take (i := 2) (v := .bool false) rfl (by kernel_rfl) (by kernel_rfl) (by kernel_rfl) (fun _ _ _ h => h) (Or.inl ⟨by kernel_rfl, fun w hSw => by (try dsimp only at hSw); (first | (go_simp; done) | (go_simp; with_reducible rfl))⟩) (by assumption) ?_
                  refine wpAnyH_take (i := 3) (v := .bool false) rfl (by kernel_rfl) (by kernel_rfl) (by kernel_rfl) (fun _ _ _ h => h) (Or.inl ⟨by kernel_rfl, fun w hSw => by (try dsimp only at hSw); (first | (go_simp; done) | (go_simp; with_reducible rfl))⟩) (by assumption) ?_
                  refine wpAnyH_take (i := 4) (v := .pointer (some ⟨wr.heap.size, 0, none⟩)) rfl (by kernel_rfl) (by kernel_rfl) (by kernel_rfl) (fun _ _ _ h => h) (Or.inl ⟨by kernel_rfl, fun w hSw => by (try dsimp only at hSw); (first | (go_simp; done) | (go_simp; with_reducible rfl))⟩) (by assumption) ?_
                  refine wpAnyH_take (i := 5) (v := .int .i64 blk.fin.kind) rfl (by kernel_rfl) (by kernel_rfl) (by kernel_rfl) (fun _ _ _ h => h) (Or.inl ⟨by kernel_rfl, fun w hSw => by (try dsimp only at hSw); (first | (go_simp; done) | (go_simp; with_reducible rfl))⟩) (by assumption) ?_
                  refine wpAnyH_take (i := 6) (v := .bool true) rfl (by kernel_rfl) (by kernel_rfl) (by kernel_rfl) (fun _ _ _ h => h) (Or.inl ⟨by kernel_rfl, fun w hSw => by (try dsimp only at hSw); (first | (go_simp; done) | (go_simp; with_reducible rfl))⟩) (by assumption) ?_
                  refine wpAnyH_take (i := 7) (v := .bool true) rfl (by kernel_rfl) (by kernel_rfl) (by kernel_rfl) (fun _ _ _ h => h) (Or.inl ⟨by kernel_rfl, fun w hSw => by (try dsimp only at hSw); (first | (go_simp; done) | (go_simp; with_reducible rfl))⟩) (by assumption) ?_
                  refine wpAnyH_take (i := 8) (v := .bool true) rfl (by kernel_rfl) (by kernel_rfl) (by kernel_rfl) (fun _ _ _ h => h) (Or.inl ⟨by kernel_rfl, fun w hSw => by (try dsimp only at hSw); (first | (go_simp; done) | (go_simp; with_reducible rfl))⟩) (by assumption) ?_
                  refine wpAnyH_take (i := 9) (v := undef) rfl (by kernel_rfl) (by kernel_rfl) (by kernel_rfl) (fun _ _ _ h => h) (Or.inr ⟨by kernel_rfl, rfl⟩) (by assumption) ?_
                  refine wpAnyH_take (i := 10) (v := undef) rfl (by kernel_rfl) (by kernel_rfl) (by kernel_rfl) (fun _ _ _ h => h) (Or.inr ⟨by kernel_rfl, rfl⟩) (by assumption) ?_
                  refine wpAnyH_take (i := 11) (v := undef) rfl (by kernel_rfl) (by kernel_rfl) (by kernel_rfl) (fun _ _ _ h => h) (Or.inr ⟨by kernel_rfl, rfl⟩) (by assumption) ?_
                  refine wpAnyH_take (i := 12) (v := undef) rfl (by kernel_rfl) (by kernel_rfl) (by kernel_rfl) (fun _ _ _ h => h) (Or.inr ⟨by kernel_rfl, rfl⟩) (by assumption) ?_
                  refine wpAnyH_take (i := 13) (v := undef) rfl (by kernel_rfl) (by kernel_rfl) (by kernel_rfl) (fun _ _ _ h => h) (Or.inr ⟨by kernel_rfl, rfl⟩) (by assumption) ?_
                  refine wpAnyH_take (i := 14) (v := undef) rfl (by kernel_rfl) (by kernel_rfl) (by kernel_rfl) (fun _ _ _ h => h) (Or.inr ⟨by kernel_rfl, rfl⟩) (by assumption) ?_
                  refine wpAnyH_take (i := 15) (v := .bool true) rfl (by kernel_rfl) (by kernel_rfl) (by kernel_rfl) (fun _ _ _ h => h) (Or.inl ⟨by kernel_rfl, fun w hSw => by (try dsimp only at hSw); (first | (go_simp; done) | (go_simp; with_reducible rfl))⟩) (by assumption) ?_
                  refine wpAnyH_done (by kernel_rfl) ?_ _
                  go_simp
                  go_wp2
                  go_meet
                  exact ⟨by rw [hv.out], Lib.hid (Below.refl _ _).drew⟩
                · have q1b : decide (blk.fin.kind < 1) = false := decide_eq_false q1
                  have q2b : decide (5 < blk.fin.kind) = false := decide_eq_false q2
                  have HVE : Hid (V = !((endUsesL blk.fin).all (belowB · x.temps))) := Lib.hid (by rw [HV.out, endUses_same (by omega)]; unfold endFit; rw [decide_eq_true (show 1 ≤ blk.fin.kind by omega), decide_eq_true (show blk.fin.kind ≤ 5 by omega)]; rfl)
                  obtain ⟨U, hU⟩ : ∃ U, U = (endUsesL blk.fin).all (belowB · x.temps) := ⟨_, rfl⟩
                  rw [← hU] at HVE
                  have HU := Lib.hid hU
                  clear hU
                  cases hu : U with
                  | false =>
                    have hv : Hid (V = true) := Lib.hid (by rw [HVE.out, hu]; rfl)
                    rw [hu] at HU
                    refine wp_region_held_drew (S := (fun W => W.cell? ⟨wr.heap.size, 0, none⟩ = some (.int .i64 blk.fin.kind) ∧ W.cell? ⟨wr.heap.size, 1, none⟩ = some (.int .i64 blk.fin.op) ∧ W.cell? ⟨wr.heap.size, 2, none⟩ = some (.int .i64 blk.fin.a) ∧ W.cell? ⟨wr.heap.size, 3, none⟩ = some (.int .i64 blk.fin.b) ∧ W.cell? ⟨wr.heap.size, 4, none⟩ = some (.int .u32 blk.fin.n) ∧ W.cell? ⟨wr.heap.size, 5, none⟩ = some (.int .i64 blk.fin.to) ∧ W.cell? ⟨wr.heap.size, 6, none⟩ = some (.int .i64 blk.fin.els) ∧ W.cell? ⟨wr.heap.size, 7, none⟩ = some (.slice pz blk.fin.cases.length cc) ∧ W.cell? ⟨wr.heap.size, 8, none⟩ = some (.slice pt blk.fin.targets.length ct) ∧ W.cell? ⟨w.heap.size, 1, none⟩ = some (.int .i64 x.temps))) (by kernel_rfl) (HCI.out _ (Below.refl _ _).drew) (fun hHeld => ?_)
                    refine wpAnyH_take (i := 0) (v := .pointer (some ⟨wr.heap.size, 0, none⟩)) rfl (by kernel_rfl) (by kernel_rfl) (by kernel_rfl) (fun _ _ _ h => h) (Or.inl ⟨by kernel_rfl, fun w hSw => by (try dsimp only at hSw); (first | (go_simp; done) | (go_simp; with_reducible rfl))⟩) (by assumption) ?_
                    refine wpAnyH_take (i := 1) (v := .int .i64 blk.fin.kind) rfl (by kernel_rfl) (by kernel_rfl) (by kernel_rfl) (fun _ _ _ h => h) (Or.inl ⟨by kernel_rfl, fun w hSw => by (try dsimp only at hSw); (first | (go_simp; done) | (go_simp; with_reducible rfl))⟩) (by assumption) ?_
                    refine wpAnyH_take (i := 2) (v := .bool false) rfl (by kernel_rfl) (by kernel_rfl) (by kernel_rfl) (fun _ _ _ h => h) (Or.inl ⟨by kernel_rfl, fun w hSw => by (try dsimp only at hSw); (first | (go_simp; done) | (go_simp; with_reducible rfl))⟩) (by assumption) ?_
                    refine wpAnyH_take (i := 3) (v := .bool false) rfl (by kernel_rfl) (by kernel_rfl) (by kernel_rfl) (fun _ _ _ h => h) (Or.inl ⟨by kernel_rfl, fun w hSw => by (try dsimp only at hSw); (first | (go_simp; done) | (go_simp; with_reducible rfl))⟩) (by assumption) ?_
                    refine wpAnyH_take (i := 4) (v := .pointer (some ⟨wr.heap.size, 0, none⟩)) rfl (by kernel_rfl) (by kernel_rfl) (by kernel_rfl) (fun _ _ _ h => h) (Or.inl ⟨by kernel_rfl, fun w hSw => by (try dsimp only at hSw); (first | (go_simp; done) | (go_simp; with_reducible rfl))⟩) (by assumption) ?_
                    refine wpAnyH_take (i := 5) (v := .int .i64 blk.fin.kind) rfl (by kernel_rfl) (by kernel_rfl) (by kernel_rfl) (fun _ _ _ h => h) (Or.inl ⟨by kernel_rfl, fun w hSw => by (try dsimp only at hSw); (first | (go_simp; done) | (go_simp; with_reducible rfl))⟩) (by assumption) ?_
                    refine wpAnyH_take (i := 6) (v := .bool false) rfl (by kernel_rfl) (by kernel_rfl) (by kernel_rfl) (fun _ _ _ h => h) (Or.inl ⟨by kernel_rfl, fun w hSw => by (try dsimp only at hSw); (first | (go_simp; done) | (go_simp; with_reducible rfl))⟩) (by assumption) ?_
                    refine wpAnyH_take (i := 7) (v := .bool false) rfl (by kernel_rfl) (by kernel_rfl) (by kernel_rfl) (fun _ _ _ h => h) (Or.inl ⟨by kernel_rfl, fun w hSw => by (try dsimp only at hSw); (first | (go_simp; done) | (go_simp; with_reducible rfl))⟩) (by assumption) ?_
                    refine wpAnyH_take (i := 8) (v := .bool false) rfl (by kernel_rfl) (by kernel_rfl) (by kernel_rfl) (fun _ _ _ h => h) (Or.inl ⟨by kernel_rfl, fun w hSw => by (try dsimp only at hSw); (first | (go_simp; done) | (go_simp; with_reducible rfl))⟩) (by assumption) ?_
                    refine wpAnyH_take (i := 9) (v := .agg #[.int .i64 blk.fin.kind, .int .i64 blk.fin.op, .int .i64 blk.fin.a, .int .i64 blk.fin.b, .int .u32 blk.fin.n, .int .i64 blk.fin.to, .int .i64 blk.fin.els, .slice pz blk.fin.cases.length cc, .slice pt blk.fin.targets.length ct]) rfl (by kernel_rfl) (by kernel_rfl) (by kernel_rfl) (fun _ _ _ h => h) (Or.inl ⟨by kernel_rfl, fun w hSw => by (try dsimp only at hSw); (first | (go_simp; done) | (go_simp; with_reducible rfl))⟩) (by assumption) ?_
                    refine wpAnyH_take (i := 11) (v := .pointer (some ⟨w.heap.size, 1, none⟩)) rfl (by kernel_rfl) (by kernel_rfl) (by kernel_rfl) (fun _ _ _ h => h) (Or.inl ⟨by kernel_rfl, fun w hSw => by (try dsimp only at hSw); (first | (go_simp; done) | (go_simp; with_reducible rfl))⟩) (by assumption) ?_
                    refine wpAnyH_take (i := 12) (v := .int .i64 x.temps) rfl (by kernel_rfl) (by kernel_rfl) (by kernel_rfl) (fun _ _ _ h => h) (Or.inl ⟨by kernel_rfl, fun w hSw => by (try dsimp only at hSw); (first | (go_simp; done) | (go_simp; with_reducible rfl))⟩) (by assumption) ?_
                    refine wpAnyH_ready (rs := [10]) (by kernel_rfl) (by simp) ?_
                    refine AllReadyH.cons rfl (fun K hK => ?_) AllReadyH.nil
                    rw [if_pos (by kernel_rfl)]
                    go_simp
                    refine (HEU.out _).mono ?_
                    rintro e w7 ⟨p7, n7, c7, rfl, hi7, hb7⟩
                    have HI7 := Lib.hid hi7
                    have HB7 : Hid (Below W2.heap.size W2 w7) := Lib.hid (below_then (Below.refl _ _).drew hb7)
                    clear hi7 hb7
                    refine hK.out _ _ ?_ (fun hHeld => ?_)
                    · exact HCI.out _ HB7.out
                    clear hK K
                    refine wpAnyH_ready (rs := [13]) (by kernel_rfl) (by simp) ?_
                    refine AllReadyH.cons rfl (fun K hK => ?_) AllReadyH.nil
                    rw [if_pos (by kernel_rfl)]
                    go_simp
                    refine (temps13_any _ _ _ _ HI7.out).mono ?_
                    rintro e w8 ⟨he, rfl⟩
                    rw [← HU.out] at he
                    subst he
                    refine hK.out _ _ ?_ (fun hHeld => ?_)
                    · exact HCI.out _ HB7.out
                    clear hK K
                    refine wpAnyH_take (i := 14) (v := .bool true) rfl (by kernel_rfl) (by kernel_rfl) (by kernel_rfl) (fun _ _ _ h => h) (Or.inl ⟨by kernel_rfl, fun w hSw => by (try dsimp only at hSw); (first | (go_simp; done) | (go_simp; with_reducible rfl))⟩) (by assumption) ?_
                    refine wpAnyH_take (i := 15) (v := .bool true) rfl (by kernel_rfl) (by kernel_rfl) (by kernel_rfl) (fun _ _ _ h => h) (Or.inl ⟨by kernel_rfl, fun w hSw => by (try dsimp only at hSw); (first | (go_simp; done) | (go_simp; with_reducible rfl))⟩) (by assumption) ?_
                    refine wpAnyH_done (by kernel_rfl) ?_ _
                    go_simp
                    go_wp2
                    go_meet
                    exact ⟨by rw [hv.out], HB7⟩
                  | true =>
                    have hv : Hid (V = false) := Lib.hid (by rw [HVE.out, hu]; rfl)
                    rw [hu] at HU
                    refine wp_region_held_drew (S := (fun W => W.cell? ⟨wr.heap.size, 0, none⟩ = some (.int .i64 blk.fin.kind) ∧ W.cell? ⟨wr.heap.size, 1, none⟩ = some (.int .i64 blk.fin.op) ∧ W.cell? ⟨wr.heap.size, 2, none⟩ = some (.int .i64 blk.fin.a) ∧ W.cell? ⟨wr.heap.size, 3, none⟩ = some (.int .i64 blk.fin.b) ∧ W.cell? ⟨wr.heap.size, 4, none⟩ = some (.int .u32 blk.fin.n) ∧ W.cell? ⟨wr.heap.size, 5, none⟩ = some (.int .i64 blk.fin.to) ∧ W.cell? ⟨wr.heap.size, 6, none⟩ = some (.int .i64 blk.fin.els) ∧ W.cell? ⟨wr.heap.size, 7, none⟩ = some (.slice pz blk.fin.cases.length cc) ∧ W.cell? ⟨wr.heap.size, 8, none⟩ = some (.slice pt blk.fin.targets.length ct) ∧ W.cell? ⟨w.heap.size, 1, none⟩ = some (.int .i64 x.temps))) (by kernel_rfl) (HCI.out _ (Below.refl _ _).drew) (fun hHeld => ?_)
                    refine wpAnyH_take (i := 0) (v := .pointer (some ⟨wr.heap.size, 0, none⟩)) rfl (by kernel_rfl) (by kernel_rfl) (by kernel_rfl) (fun _ _ _ h => h) (Or.inl ⟨by kernel_rfl, fun w hSw => by (try dsimp only at hSw); (first | (go_simp; done) | (go_simp; with_reducible rfl))⟩) (by assumption) ?_
                    refine wpAnyH_take (i := 1) (v := .int .i64 blk.fin.kind) rfl (by kernel_rfl) (by kernel_rfl) (by kernel_rfl) (fun _ _ _ h => h) (Or.inl ⟨by kernel_rfl, fun w hSw => by (try dsimp only at hSw); (first | (go_simp; done) | (go_simp; with_reducible rfl))⟩) (by assumption) ?_
                    refine wpAnyH_take (i := 2) (v := .bool false) rfl (by kernel_rfl) (by kernel_rfl) (by kernel_rfl) (fun _ _ _ h => h) (Or.inl ⟨by kernel_rfl, fun w hSw => by (try dsimp only at hSw); (first | (go_simp; done) | (go_simp; with_reducible rfl))⟩) (by assumption) ?_
                    refine wpAnyH_take (i := 3) (v := .bool false) rfl (by kernel_rfl) (by kernel_rfl) (by kernel_rfl) (fun _ _ _ h => h) (Or.inl ⟨by kernel_rfl, fun w hSw => by (try dsimp only at hSw); (first | (go_simp; done) | (go_simp; with_reducible rfl))⟩) (by assumption) ?_
                    refine wpAnyH_take (i := 4) (v := .pointer (some ⟨wr.heap.size, 0, none⟩)) rfl (by kernel_rfl) (by kernel_rfl) (by kernel_rfl) (fun _ _ _ h => h) (Or.inl ⟨by kernel_rfl, fun w hSw => by (try dsimp only at hSw); (first | (go_simp; done) | (go_simp; with_reducible rfl))⟩) (by assumption) ?_
                    refine wpAnyH_take (i := 5) (v := .int .i64 blk.fin.kind) rfl (by kernel_rfl) (by kernel_rfl) (by kernel_rfl) (fun _ _ _ h => h) (Or.inl ⟨by kernel_rfl, fun w hSw => by (try dsimp only at hSw); (first | (go_simp; done) | (go_simp; with_reducible rfl))⟩) (by assumption) ?_
                    refine wpAnyH_take (i := 6) (v := .bool false) rfl (by kernel_rfl) (by kernel_rfl) (by kernel_rfl) (fun _ _ _ h => h) (Or.inl ⟨by kernel_rfl, fun w hSw => by (try dsimp only at hSw); (first | (go_simp; done) | (go_simp; with_reducible rfl))⟩) (by assumption) ?_
                    refine wpAnyH_take (i := 7) (v := .bool false) rfl (by kernel_rfl) (by kernel_rfl) (by kernel_rfl) (fun _ _ _ h => h) (Or.inl ⟨by kernel_rfl, fun w hSw => by (try dsimp only at hSw); (first | (go_simp; done) | (go_simp; with_reducible rfl))⟩) (by assumption) ?_
                    refine wpAnyH_take (i := 8) (v := .bool false) rfl (by kernel_rfl) (by kernel_rfl) (by kernel_rfl) (fun _ _ _ h => h) (Or.inl ⟨by kernel_rfl, fun w hSw => by (try dsimp only at hSw); (first | (go_simp; done) | (go_simp; with_reducible rfl))⟩) (by assumption) ?_
                    refine wpAnyH_take (i := 9) (v := .agg #[.int .i64 blk.fin.kind, .int .i64 blk.fin.op, .int .i64 blk.fin.a, .int .i64 blk.fin.b, .int .u32 blk.fin.n, .int .i64 blk.fin.to, .int .i64 blk.fin.els, .slice pz blk.fin.cases.length cc, .slice pt blk.fin.targets.length ct]) rfl (by kernel_rfl) (by kernel_rfl) (by kernel_rfl) (fun _ _ _ h => h) (Or.inl ⟨by kernel_rfl, fun w hSw => by (try dsimp only at hSw); (first | (go_simp; done) | (go_simp; with_reducible rfl))⟩) (by assumption) ?_
                    refine wpAnyH_take (i := 11) (v := .pointer (some ⟨w.heap.size, 1, none⟩)) rfl (by kernel_rfl) (by kernel_rfl) (by kernel_rfl) (fun _ _ _ h => h) (Or.inl ⟨by kernel_rfl, fun w hSw => by (try dsimp only at hSw); (first | (go_simp; done) | (go_simp; with_reducible rfl))⟩) (by assumption) ?_
                    refine wpAnyH_take (i := 12) (v := .int .i64 x.temps) rfl (by kernel_rfl) (by kernel_rfl) (by kernel_rfl) (fun _ _ _ h => h) (Or.inl ⟨by kernel_rfl, fun w hSw => by (try dsimp only at hSw); (first | (go_simp; done) | (go_simp; with_reducible rfl))⟩) (by assumption) ?_
                    refine wpAnyH_ready (rs := [10]) (by kernel_rfl) (by simp) ?_
                    refine AllReadyH.cons rfl (fun K hK => ?_) AllReadyH.nil
                    rw [if_pos (by kernel_rfl)]
                    go_simp
                    refine (HEU.out _).mono ?_
                    rintro e w7 ⟨p7, n7, c7, rfl, hi7, hb7⟩
                    have HI7 := Lib.hid hi7
                    have HB7 : Hid (Below W2.heap.size W2 w7) := Lib.hid (below_then (Below.refl _ _).drew hb7)
                    clear hi7 hb7
                    refine hK.out _ _ ?_ (fun hHeld => ?_)
                    · exact HCI.out _ HB7.out
                    clear hK K
                    refine wpAnyH_ready (rs := [13]) (by kernel_rfl) (by simp) ?_
                    refine AllReadyH.cons rfl (fun K hK => ?_) AllReadyH.nil
                    rw [if_pos (by kernel_rfl)]
                    go_simp
                    refine (temps13_any _ _ _ _ HI7.out).mono ?_
                    rintro e w8 ⟨he, rfl⟩
                    rw [← HU.out] at he
                    subst he
                    refine hK.out _ _ ?_ (fun hHeld => ?_)
                    · exact HCI.out _ HB7.out
                    clear hK K
                    refine wpAnyH_take (i := 14) (v := .bool false) rfl (by kernel_rfl) (by kernel_rfl) (by kernel_rfl) (fun _ _ _ h => h) (Or.inl ⟨by kernel_rfl, fun w hSw => by (try dsimp only at hSw); (first | (go_simp; done) | (go_simp; with_reducible rfl))⟩) (by assumption) ?_
                    refine wpAnyH_take (i := 15) (v := .bool false) rfl (by kernel_rfl) (by kernel_rfl) (by kernel_rfl) (fun _ _ _ h => h) (Or.inl ⟨by kernel_rfl, fun w hSw => by (try dsimp only at hSw); (first | (go_simp; done) | (go_simp; with_reducible rfl))⟩) (by assumption) ?_
                    refine wpAnyH_done (by kernel_rfl) ?_ _
                    go_simp
                    go_wp2
                    go_meet
                    exact ⟨by rw [hv.out], HB7⟩
            case rest =>
              obtain ⟨rfl, HQ⟩ := hcut
              cases hq : V with
              | true =>
                have hr : Hid (fitsB x = false) := Lib.hid (HNOB.out (by
                  have := HV.out; rw [hq] at this
                  have h : endFit x.temps blk.fin = false := by cases h : endFit x.temps blk.fin <;> first | rfl | (rw [h] at this; cases this)
                  unfold blkFit; rw [h, Bool.and_false]))
                go_wp2
                go_ret
                exact ⟨by rw [hr.out]; rfl, below_then HWE.out HQ.out⟩
              | false =>
                have hr : Hid (blkFit x.temps blk = true) := Lib.hid (by
                  have := HV.out; rw [hq] at this
                  have h : endFit x.temps blk.fin = true := by cases h : endFit x.temps blk.fin <;> first | rfl | (rw [h] at this; cases this)
                  unfold blkFit; rw [h, HCD.out]; rfl)
                go_wp2
                refine ⟨⟨b + 1, by omega, by go_num, Lib.hid (below_then HW.out (below_then HB2.out HQ.out)), Lib.hid (fun j t hj ht => ?_)⟩, by simp [intOf]; omega⟩
                by_cases e : j = b
                · subst e
                  have := HBLK.out
                  rw [ht] at this
                  cases this
                  exact hr.out
                · exact HA.out j t (by omega) ht
      · have hbn2 : b = n := by omega
        have bi : ¬ ((b : Int) < n) := by omega
        have hr : Hid (fitsB x = true) := Lib.hid (HBL.out (fun t ht => by
          obtain ⟨j, hj, e⟩ := List.mem_iff_getElem.1 ht
          exact HA.out j t (by have := HN.out; omega) (by rw [List.getElem?_eq_getElem hj, e])))
        go_wp2
        go_ret
        exact ⟨by rw [hr.out]; rfl, below_then HB5.out HB.out⟩
end Go.Proofs.YtcijaaiopfbffaaDoor.Live
