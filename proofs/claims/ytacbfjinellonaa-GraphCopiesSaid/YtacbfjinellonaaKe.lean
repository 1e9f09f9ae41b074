/- The program's copyBlock, at any block. -/
import Derived.Test.YtacbfjinellonaaKC
import Derived.Deep.RegionHeld3
import Derived.IntWalk
namespace Go.Proofs.Ytacbfjinellonaa.Graph
open Go.RowKit

/-- A block of row g at o is copied: its three lists are new, all else of the row is as it was. -/
def CopiedB (g o : Nat) (x : PBlk) (cur : Array Value) (t : TypeId) (w w' : World) : Prop :=
  w.grownBy w' (some g) ∧ ∃ u0 u8 u9, w'.heap[g]? = some (.cells (((cur.setIfInBounds o u0).setIfInBounds (o + 8) u8).setIfInBounds (o + 9) u9) t (0, 0)) ∧ CodeR (cutW (New w.heap.size w') w') u0 x.code ∧ EndL (cutW (New w.heap.size w') w') u8 u9 x.fin
theorem tail_step {g o : Nat} {x : PBlk} {cur : Array Value} {t : TypeId} {w wr wa wb : World} {u0 u8 u9 : Value}
    (hl : g < w.heap.size) (hgr : w.grownBy wr (some g)) (hg : wr.heap[g]? = some (.cells (cur.setIfInBounds o u0) t (0, 0))) (hcode : CodeR (cutW (New w.heap.size wr) wr) u0 x.code) (hwn : 0 ≤ x.fin.n ∧ x.fin.n ≤ 4294967295)
    (b1 : Below wr.heap.size wr wa) (l1 : CasesR (cutW (New wr.heap.size wa) wa) u8 x.fin.cases)
    (b2 : Below (wa.setCell ⟨g, o + 8, none⟩ u8).heap.size (wa.setCell ⟨g, o + 8, none⟩ u8) wb) (l2 : IntsR (cutW (New (wa.setCell ⟨g, o + 8, none⟩ u8).heap.size wb) wb) u9 x.fin.targets) :
    CopiedB g o x cur t w (wb.setCell ⟨g, o + 9, none⟩ u9) := by
  have g1 : w.grownBy (wa.setCell ⟨g, o + 8, none⟩ u8) (some g) := grown_step hgr b1
  have g2 : w.grownBy (wb.setCell ⟨g, o + 9, none⟩ u9) (some g) := grown_step g1 b2
  have hlr := lt_of_block hg
  have hla : g < wa.heap.size := Nat.lt_of_lt_of_le hlr b1.size
  have k5 := heap_setCell_same wa g (o + 8) _ t u8 ((b1.block g hlr).trans hg)
  have hl5 := lt_of_block k5
  have k7 := heap_setCell_same wb g (o + 9) _ t u9 ((b2.block g hl5).trans k5)
  have hs5 : (wa.setCell ⟨g, o + 8, none⟩ u8).heap.size = wa.heap.size := by simp
  have hs7 : (wb.setCell ⟨g, o + 9, none⟩ u9).heap.size = wb.heap.size := by simp
  have ea : ∀ b, b < wa.heap.size → b ≠ g → (wb.setCell ⟨g, o + 9, none⟩ u9).heap[b]? = wa.heap[b]? := fun b hb hne => by
    rw [heap_setCell_other wb ⟨g, o + 9, none⟩ b u9 (fun e => hne e), b2.block b (by rw [hs5]; exact hb), heap_setCell_other wa ⟨g, o + 8, none⟩ b u8 (fun e => hne e)]
  have eb : ∀ b, b ≠ g → (wb.setCell ⟨g, o + 9, none⟩ u9).heap[b]? = wb.heap[b]? := fun b hne => heap_setCell_other wb ⟨g, o + 9, none⟩ b u9 (fun e => hne e)
  have hsz : wa.heap.size ≤ (wb.setCell ⟨g, o + 9, none⟩ u9).heap.size := by rw [hs7, ← hs5]; exact b2.size
  have h1 := hgr.size
  have h2 := b1.size
  refine ⟨g2, u0, u8, u9, k7, ?_, ⟨?_, ?_, hwn⟩⟩
  · refine CodeR.holds (cut_to (Nat.le_trans b1.size hsz) fun b hb hn => ?_) hcode
    have hne : b ≠ g := by have := hn.1; omega
    have e : (wb.setCell ⟨g, o + 9, none⟩ u9).heap[b]? = wr.heap[b]? := (ea b (by omega) hne).trans (b1.block b hb)
    exact ⟨⟨hn.1, unf_keep hn.2 e⟩, e⟩
  · refine CasesR.holds (cut_to hsz fun b hb hn => ?_) l1
    have hne : b ≠ g := by have := hn.1; omega
    exact ⟨⟨by have := hn.1; omega, unf_keep hn.2 (ea b hb hne)⟩, ea b hb hne⟩
  · refine IntsR.holds (cut_to (by rw [hs7]; exact Nat.le_refl _) fun b hb hn => ?_) l2
    have hne : b ≠ g := by have := hn.1; omega
    exact ⟨⟨by have := hn.1; omega, unf_keep hn.2 (eb b hne)⟩, eb b hne⟩
theorem ne_cut {g : Nat} {w wr : World} (h : w.grownBy wr (some g)) : Holds2 (cutW (· ≠ g) w) wr :=
  ⟨by rw [cutW_size]; exact h.size, fun b o v hc => by
    obtain ⟨h1, h2⟩ := cutW_cell.1 hc
    rw [← h2]
    unfold World.cell?
    rw [h.block b (World.block_lt_of_cell? w _ h2) (fun e => h1 (by injection e))]⟩
set_option maxHeartbeats 8000000 in
set_option maxRecDepth 100000 in
theorem copyBlock_any (x : PBlk) (g o : Nat) (v0 v8 v9 : Value) (cur : Array Value) (t : TypeId) (w : World) (hg : w.heap[g]? = some (.cells cur t (0, 0))) (c0 : cur[o]? = some v0) (c8 : cur[o + 8]? = some v8) (c9 : cur[o + 9]? = some v9)
    (hk : CodeR (cutW (· ≠ g) w) v0 x.code) (he : EndL (cutW (· ≠ g) w) v8 v9 x.fin) (hs : SmB x) :
    Calls Try.prog 69 #[.pointer (some ⟨g, o, none⟩)] w fun e w' => e = .returned (.tuple #[]) ∧ CopiedB g o x cur t w w' := by
  have hl : g < w.heap.size := lt_of_block hg
  have HG := Lib.hid hg
  obtain ⟨s1, s2, s3, s4⟩ := hs
  have HWN := Lib.hid he.wn
  have HEC := Lib.hid (fun (wx : World) (hx : w.grownBy wx (some g)) => CasesR.holds (ne_cut hx) he.cases)
  have HET := Lib.hid (fun (wx : World) (hx : w.grownBy wx (some g)) => IntsR.holds (ne_cut hx) he.targets)
  obtain ⟨pk, ck, rfl⟩ := hk.form
  obtain ⟨pc, cc, rfl⟩ := he.cases.form
  obtain ⟨pt, ct, rfl⟩ := he.targets.form
  obtain ⟨a0, f0⟩ := cell_of_block hg c0
  obtain ⟨a8, f8⟩ := cell_of_block hg c8
  obtain ⟨a9, f9⟩ := cell_of_block hg c9
  have HSI := Lib.hid s2
  have HSB := Lib.hid s1
  have hob : o + 9 < cur.size := by
    rcases Nat.lt_or_ge (o + 9) cur.size with h | h
    · exact h
    · rw [Array.getElem?_eq_none h] at c9; cases c9
  have HOB := Lib.hid hob
  have HCN := Lib.hid (copyN_any (· ≠ g) x.code pk ck w hk s1)
  have HC0 := Lib.hid c0
  have HC8 := Lib.hid c8
  have HC9 := Lib.hid c9
  have HS3 := Lib.hid s3
  have HS4 := Lib.hid s4
  clear hg hk he s1 s2 s3 s4 c0 c8 c9 hob f0 f8 f9 a8 a9
  go_enter Try.func69, Try.ntmps69
  go_upto_region 1 with (
    go_at_call 97
    fail)
  refine HCN.out.mono ?_
  intro e w2 h2
  rcases h2 with ⟨h0, q, d, rfl, hb2⟩ | ⟨h0, rfl, hb2, hlt2, hmid⟩
  · have x0 := (hb2.cell (p := ⟨g, o, none⟩) hl).trans a0
    obtain ⟨_, y0⟩ := cell_of_block ((hb2.block g hl).trans HG.out) HC0.out
    have hl2 : g < w2.heap.size := Nat.lt_of_lt_of_le hl hb2.size
    have HGR := Lib.hid (grown_step (k := o) (v := .slice q 0 d) (World.grownBy.refl w (some g)) hb2)
    have HGB := Lib.hid (heap_setCell_same w2 g o _ t (.slice q 0 d) ((hb2.block g hl).trans HG.out))
    have hnil : x.code = [] := List.length_eq_zero_iff.1 h0
    clear hb2
    go_wp2
    generalize hw3 : w2.setCell ⟨g, o, none⟩ (.slice q 0 d) = w3
    rw [hw3] at HGR HGB
    have HCD : Hid (CodeR (cutW (New w.heap.size w3) w3) (.slice q 0 d) x.code) := Lib.hid (by rw [hnil]; exact .inl ⟨rfl, _, _, rfl⟩)
    clear hw3 x0 y0 hl2 a0
    go_loopw [16] (fun i wr => i = .int .i64 0 ∧ wr = w3) (fun _ _ => 0)
    case atStart => exact ⟨rfl, rfl⟩
    case round =>
      obtain ⟨rfl, rfl⟩ := hrel
      obtain ⟨a8, f8⟩ := cell_of_block HGB.out (k := o + 8) (v := .slice pc x.fin.cases.length cc) (by rw [Array.getElem?_setIfInBounds_ne (by omega)]; exact HC8.out)
      obtain ⟨a9, f9⟩ := cell_of_block HGB.out (k := o + 9) (v := .slice pt x.fin.targets.length ct) (by rw [Array.getElem?_setIfInBounds_ne (by omega)]; exact HC9.out)
      have hlr := lt_of_block HGB.out
      go_upto_region 8 with (
        go_at_call 98
        fail)
      refine (copyC_any x.fin.cases pc cc _ (HEC.out _ HGR.out) HS3.out).mono ?_
      rintro e w4 ⟨q8, d8, rfl, l8, hb4⟩
      have L8 := Lib.hid l8
      have B4 := Lib.hid hb4
      have x8 := (hb4.cell (p := ⟨g, o + 8, none⟩) hlr).trans a8
      have y8 : w4.frozen? ⟨g, o + 8, none⟩ = false := by unfold World.frozen? at f8 ⊢; rw [hb4.block g hlr]; exact f8
      have x9 := (hb4.cell (p := ⟨g, o + 9, none⟩) hlr).trans a9
      have y9 : w4.frozen? ⟨g, o + 9, none⟩ = false := by unfold World.frozen? at f9 ⊢; rw [hb4.block g hlr]; exact f9
      have hl4 : g < w4.heap.size := Nat.lt_of_lt_of_le hlr hb4.size
      have G5 := Lib.hid (grown_step (k := o + 8) (v := .slice q8 x.fin.cases.length d8) HGR.out hb4)
      clear l8 hb4
      go_wp2_with (
        go_at_call 41
        fail)
      refine (copyI_any x.fin.targets pt ct _ (HET.out _ G5.out) HS4.out).mono ?_
      rintro e w6 ⟨q9, d9, rfl, l9, hb6⟩
      have L9 := Lib.hid l9
      have B6 := Lib.hid hb6
      have hl5 : g < (w4.setCell ⟨g, o + 8, none⟩ (.slice q8 x.fin.cases.length d8)).heap.size := by simpa using hl4
      have z9 : w6.cell? ⟨g, o + 9, none⟩ = some (.slice pt x.fin.targets.length ct) := by rw [hb6.cell (p := ⟨g, o + 9, none⟩) hl5, cell_set_ne w4 _ (by omega)]; exact x9
      have fz : (w4.setCell ⟨g, o + 8, none⟩ (.slice q8 x.fin.cases.length d8)).frozen? ⟨g, o + 9, none⟩ = false := by simpa using y9
      have v9' : w6.frozen? ⟨g, o + 9, none⟩ = false := by unfold World.frozen? at fz ⊢; rw [hb6.block g hl5] at *; exact fz
      have hl6 : g < w6.heap.size := Nat.lt_of_lt_of_le hl5 hb6.size
      clear l9 hb6 fz
      go_wp2
      go_end0
      exact ⟨rfl, tail_step hl HGR.out HGB.out HCD.out HWN.out B4.out L8.out B6.out L9.out⟩
  · have x0 := (hb2.cell (p := ⟨g, o, none⟩) hl).trans a0
    obtain ⟨_, y0⟩ := cell_of_block ((hb2.block g hl).trans HG.out) HC0.out
    have hl2 : g < w2.heap.size := Nat.lt_of_lt_of_le hl hb2.size
    have HGR0 := Lib.hid (grown_step (k := o) (v := (.slice (some ⟨w.heap.size, 0, none⟩) x.code.length x.code.length)) (World.grownBy.refl w (some g)) hb2)
    have HGB0 := Lib.hid (heap_setCell_same w2 g o _ t (.slice (some ⟨w.heap.size, 0, none⟩) x.code.length x.code.length) ((hb2.block g hl).trans HG.out))
    have hgC : g ≠ w.heap.size := Nat.ne_of_lt hl
    have hCg : w.heap.size ≠ g := fun e => hgC e.symm
    have HM0 := Lib.hid (Mid.start (g := g) (o := o) (v := (.slice (some ⟨w.heap.size, 0, none⟩) x.code.length x.code.length)) hmid hgC (fun h => h.1 rfl))
    clear hb2 hmid
    go_wp2
    have hlt3 : w.heap.size < (w2.setCell ⟨g, o, none⟩ (.slice (some ⟨w.heap.size, 0, none⟩) x.code.length x.code.length)).heap.size := by simpa using hlt2
    generalize hw3 : w2.setCell ⟨g, o, none⟩ (.slice (some ⟨w.heap.size, 0, none⟩) x.code.length x.code.length) = w3
    rw [hw3] at HGR0 HGB0 HM0 hlt3
    clear hw3 x0 y0 hl2 a0 hlt2
    obtain ⟨n, hn⟩ : ∃ n, n = x.code.length := ⟨_, rfl⟩
    have HN := Lib.hid hn
    have hnb : n ≤ 9223372036854775807 := by have := HSB.out; unfold reachBytes at this; omega
    have hnI : (n : Int) ≤ 9223372036854775807 := by omega
    have hl3 := lt_of_block HGB0.out
    rw [← hn] at HGB0
    rw [← hn]
    have HN0 := Lib.hid h0
    clear hn h0
    go_loopw [16] (fun i wr => ∃ k : Nat, k ≤ n ∧ i = .int .i64 k ∧ Hid (Mid x.code w.heap.size (fun b => b ≠ g ∧ b < w.heap.size) w3 wr k)) (fun i _ => n - (intOf i).toNat)
    case atStart => exact ⟨0, Nat.zero_le _, rfl, HM0⟩
    case round =>
      obtain ⟨k, hk, rfl, HM⟩ := hrel
      have HGB : Hid (wr.heap[g]? = some (.cells (cur.setIfInBounds o (.slice (some ⟨w.heap.size, 0, none⟩) n n)) t (0, 0))) := Lib.hid ((HM.out.grown.block g hl3 (fun e => hgC (by injection e))).trans HGB0.out)
      obtain ⟨a0, _⟩ := cell_of_block HGB.out (k := o) (v := .slice (some ⟨w.heap.size, 0, none⟩) n n) (by have := HOB.out; rw [Array.getElem?_setIfInBounds_self_of_lt (by omega)])
      have hlr0 := lt_of_block HGB.out
      have hCr : w.heap.size < wr.heap.size := Nat.lt_of_lt_of_le hlt3 HM.out.grown.size
      by_cases hlt : k < n
      · obtain ⟨u, hu⟩ := getN HN.out hlt
        obtain ⟨va, vr, hi, _, hold⟩ := HM.out.ins k u hu
        have HOLD := Lib.hid (hold (Nat.le_refl _))
        clear hold
        obtain ⟨z1, z2⟩ := HSI.out u (List.mem_of_getElem? hu)
        have HI := Lib.hid hi
        obtain ⟨pa, ca, rfl⟩ := hi.l.args.form
        obtain ⟨pr, cr, rfl⟩ := hi.l.arrs.form
        have HU := Lib.hid hu
        have HCP := Lib.hid (fun (wx : World) (hx : Below wr.heap.size wr wx) => copyI_any u.args pa ca wx (hi.l.args.below hx) z1)
        have a6 := hi.ca
        have a7 := hi.cr
        have hrow := HM.out.row
        obtain ⟨rc, rt, hrow⟩ := hrow
        have fr6 : wr.frozen? ⟨w.heap.size, k * 8 + 6, none⟩ = false := by simp [World.frozen?, hrow]
        have fr7 : wr.frozen? ⟨w.heap.size, k * 8 + 7, none⟩ = false := by simp [World.frozen?, hrow]
        have k0 : (0 : Int) ≤ k := by omega
        have k1 : (k : Int) < n := by omega
        clear hu hi hrow
        go_upto_region 4 with (fail)
        go_cut [0] (fun v wc => v = .pointer (some ⟨g, o, none⟩) ∧ Hid (∃ wx q d, wc = wx.setCell ⟨w.heap.size, k * 8 + 6, none⟩ (.slice q u.args.length d) ∧ Below wr.heap.size wr wx ∧ IntsR (cutW (New wr.heap.size wx) wx) (.slice q u.args.length d) u.args))
        case first =>
          go_region_with (go_at_call 41; refine (HCP.out _ (Below.refl _ _).drew).mono ?_; rintro e w4 ⟨q1, d1, rfl, l1, hb4⟩
                          have x1 := (hb4.cell (p := ⟨g, o, none⟩) hlr0).trans a0
                          have x6 := (hb4.cell (p := ⟨w.heap.size, k * 8 + 6, none⟩) hCr).trans a6
                          have y6 : w4.frozen? ⟨w.heap.size, k * 8 + 6, none⟩ = false := by unfold World.frozen? at fr6 ⊢; rw [hb4.block w.heap.size hCr]; exact fr6
                          have hC4 : w.heap.size < w4.heap.size := Nat.lt_of_lt_of_le hCr hb4.size
                          have hg4 : g < w4.heap.size := Nat.lt_of_lt_of_le hlr0 hb4.size)
          all_goals
            go_wp2_with fail
            go_meet
            exact ⟨rfl, Lib.hid ⟨_, _, _, rfl, (Below.refl _ _).drew.trans hb4, l1⟩⟩
        case rest =>
        obtain ⟨rfl, HCUT⟩ := hcut
        obtain ⟨w4, q1, d1, rfl, hb4, l1⟩ := HCUT.out
        have B4 : Hid (Below wr.heap.size wr w4) := Lib.hid hb4
        have L1 : Hid (IntsR (cutW (New wr.heap.size w4) w4) (.slice q1 u.args.length d1) u.args) := Lib.hid l1
        have x1 := (hb4.cell (p := ⟨g, o, none⟩) hlr0).trans a0
        have hC4 : w.heap.size < w4.heap.size := Nat.lt_of_lt_of_le hCr hb4.size
        have hg4 : g < w4.heap.size := Nat.lt_of_lt_of_le hlr0 hb4.size
        have HO5 : Hid (Holds2 (cutW (fun b => b ≠ g ∧ b < w.heap.size) wr) (w4.setCell ⟨w.heap.size, k * 8 + 6, none⟩ (.slice q1 u.args.length d1))) := Lib.hid ⟨by rw [cutW_size]; simpa using B4.out.size, fun b o' v hc => by
          obtain ⟨h1, h2⟩ := cutW_cell.1 hc
          rw [cell_set_ne w4 _ (fun e => by omega)]
          exact (B4.out.cell (p := ⟨b, o', none⟩) (World.block_lt_of_cell? wr _ h2)).trans h2⟩
        have b0 : (w4.setCell ⟨w.heap.size, k * 8 + 6, none⟩ (.slice q1 u.args.length d1)).cell? ⟨g, o, none⟩ = some (.slice (some ⟨w.heap.size, 0, none⟩) n n) := by rw [cell_set_ne w4 _ (fun e => hgC e.1)]; exact x1
        have b7 : (w4.setCell ⟨w.heap.size, k * 8 + 6, none⟩ (.slice q1 u.args.length d1)).cell? ⟨w.heap.size, k * 8 + 7, none⟩ = some (.slice pr u.arrs.length cr) := by rw [cell_set_ne w4 _ (fun e => by omega)]; exact (B4.out.cell (p := ⟨w.heap.size, k * 8 + 7, none⟩) hCr).trans a7
        have e7 : (w4.setCell ⟨w.heap.size, k * 8 + 6, none⟩ (.slice q1 u.args.length d1)).frozen? ⟨w.heap.size, k * 8 + 7, none⟩ = false := by
          have : w4.frozen? ⟨w.heap.size, k * 8 + 7, none⟩ = false := by unfold World.frozen? at fr7 ⊢; rw [B4.out.block w.heap.size hCr]; exact fr7
          simpa using this
        have h5C : w.heap.size < (w4.setCell ⟨w.heap.size, k * 8 + 6, none⟩ (.slice q1 u.args.length d1)).heap.size := by simpa using hC4
        have h5g : g < (w4.setCell ⟨w.heap.size, k * 8 + 6, none⟩ (.slice q1 u.args.length d1)).heap.size := by simpa using hg4
        go_upto_region 5 with (fail)
        generalize hw5 : w4.setCell ⟨w.heap.size, k * 8 + 6, none⟩ (.slice q1 u.args.length d1) = w5
        rw [hw5] at HO5 b0 b7 e7 h5C h5g
        have HW5 := Lib.hid hw5
        have HCR := Lib.hid (fun (wx : World) (hx : Below w5.heap.size w5 wx) => copyI_any u.arrs pr cr wx ((IntsR.holds HO5.out HOLD.out.arrs).below hx) z2)
        clear hw5 l1 hb4 x1 hC4 hg4 a0 a6 a7 fr6 fr7 hlr0 HCUT
        go_region_with (go_at_call 41; refine (HCR.out _ (Below.refl _ _).drew).mono ?_; rintro e w6 ⟨q2, d2, rfl, l1, hb4⟩
                        have x1 := (hb4.cell (p := ⟨g, o, none⟩) h5g).trans b0
                        have x6 := (hb4.cell (p := ⟨w.heap.size, k * 8 + 7, none⟩) h5C).trans b7
                        have y6 : w6.frozen? ⟨w.heap.size, k * 8 + 7, none⟩ = false := by unfold World.frozen? at e7 ⊢; rw [hb4.block w.heap.size h5C]; exact e7
                        have hC4 : w.heap.size < w6.heap.size := Nat.lt_of_lt_of_le h5C hb4.size
                        have hg4 : g < w6.heap.size := Nat.lt_of_lt_of_le h5g hb4.size)
        all_goals
          have B6 : Hid (Below w5.heap.size w5 w6) := Lib.hid ((Below.refl _ w5).drew.trans hb4)
          have L2 : Hid (IntsR (cutW (New w5.heap.size w6) w6) (.slice q2 u.arrs.length d2) u.arrs) := Lib.hid l1
          have HMS : Hid (Mid x.code w.heap.size (fun b => b ≠ g ∧ b < w.heap.size) w3 (w6.setCell ⟨w.heap.size, k * 8 + 7, none⟩ (.slice q2 u.arrs.length d2)) (k + 1)) := Lib.hid (by
            have b6 := B6.out
            have l6 := L2.out
            rw [← HW5.out] at b6 l6
            exact Mid.step (fun h => by have := h.2; omega) HM.out HU.out HI.out hCr hlt3 B4.out L1.out b6 l6)
          clear hb4 l1
          go_wp2
          exact ⟨⟨k + 1, Nat.succ_le_of_lt hlt, by go_num, HMS⟩, by simp [intOf]; omega⟩
      · obtain rfl : k = n := by omega
        have HGR := Lib.hid (grown_past HGR0.out HM.out.grown (Nat.le_refl _))
        have HCD : Hid (CodeR (cutW (New w.heap.size wr) wr) (.slice (some ⟨w.heap.size, 0, none⟩) k k) x.code) := Lib.hid (by
          have hm := HM.out
          have hnn := HN.out
          subst hnn
          exact Mid.code hm HN0.out hCr hnb)
        clear a0 hlr0
        obtain ⟨a8, f8⟩ := cell_of_block HGB.out (k := o + 8) (v := .slice pc x.fin.cases.length cc) (by rw [Array.getElem?_setIfInBounds_ne (by omega)]; exact HC8.out)
        obtain ⟨a9, f9⟩ := cell_of_block HGB.out (k := o + 9) (v := .slice pt x.fin.targets.length ct) (by rw [Array.getElem?_setIfInBounds_ne (by omega)]; exact HC9.out)
        have hlr := lt_of_block HGB.out
        go_upto_region 8 with (
          go_at_call 98
          fail)
        refine (copyC_any x.fin.cases pc cc _ (HEC.out _ HGR.out) HS3.out).mono ?_
        rintro e w4 ⟨q8, d8, rfl, l8, hb4⟩
        have L8 := Lib.hid l8
        have B4 := Lib.hid hb4
        have x8 := (hb4.cell (p := ⟨g, o + 8, none⟩) hlr).trans a8
        have y8 : w4.frozen? ⟨g, o + 8, none⟩ = false := by unfold World.frozen? at f8 ⊢; rw [hb4.block g hlr]; exact f8
        have x9 := (hb4.cell (p := ⟨g, o + 9, none⟩) hlr).trans a9
        have y9 : w4.frozen? ⟨g, o + 9, none⟩ = false := by unfold World.frozen? at f9 ⊢; rw [hb4.block g hlr]; exact f9
        have hl4 : g < w4.heap.size := Nat.lt_of_lt_of_le hlr hb4.size
        have G5 := Lib.hid (grown_step (k := o + 8) (v := .slice q8 x.fin.cases.length d8) HGR.out hb4)
        clear l8 hb4
        go_wp2_with (
          go_at_call 41
          fail)
        refine (copyI_any x.fin.targets pt ct _ (HET.out _ G5.out) HS4.out).mono ?_
        rintro e w6 ⟨q9, d9, rfl, l9, hb6⟩
        have L9 := Lib.hid l9
        have B6 := Lib.hid hb6
        have hl5 : g < (w4.setCell ⟨g, o + 8, none⟩ (.slice q8 x.fin.cases.length d8)).heap.size := by simpa using hl4
        have z9 : w6.cell? ⟨g, o + 9, none⟩ = some (.slice pt x.fin.targets.length ct) := by rw [hb6.cell (p := ⟨g, o + 9, none⟩) hl5, cell_set_ne w4 _ (by omega)]; exact x9
        have fz : (w4.setCell ⟨g, o + 8, none⟩ (.slice q8 x.fin.cases.length d8)).frozen? ⟨g, o + 9, none⟩ = false := by simpa using y9
        have v9' : w6.frozen? ⟨g, o + 9, none⟩ = false := by unfold World.frozen? at fz ⊢; rw [hb6.block g hl5] at *; exact fz
        have hl6 : g < w6.heap.size := Nat.lt_of_lt_of_le hl5 hb6.size
        clear l9 hb6 fz
        go_wp2
        go_end0
        exact ⟨rfl, tail_step hl HGR.out HGB.out HCD.out HWN.out B4.out L8.out B6.out L9.out⟩
end Go.Proofs.Ytacbfjinellonaa.Graph
