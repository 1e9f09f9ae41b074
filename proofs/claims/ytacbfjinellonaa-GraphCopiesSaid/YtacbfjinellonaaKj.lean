/- The program's Copy, at any module. -/
import Derived.Test.YtacbfjinellonaaKi
namespace Go.Proofs.Ytacbfjinellonaa.Graph
open Go.RowKit

/-- A copied module: three lists in new blocks, nothing of before changed. -/
def CopiedM (x : PMod) (w : World) (e : Ending) (w' : World) : Prop := ∃ vg va vf, e = .returned (modV x vg va vf) ∧ ModL (cutW (New w.heap.size w') w') vg va vf x ∧ Below w.heap.size w w'
theorem below_cut {w w1 : World} {g : Nat} (hg : g = w.heap.size) (h : Below w.heap.size w w1) : Holds2 w (cutW (· ≠ g) w1) :=
  to_cut ⟨h.size, fun b o v hc => (h.cell (p := ⟨b, o, none⟩) (World.block_lt_of_cell? w _ hc)).trans hc⟩ fun b o v hc => by
    have hlt : b < w.heap.size := World.block_lt_of_cell? w _ hc
    omega
theorem copiedM_of {g : Nat} {x : PMod} {w w2 w3 w4 w5 wr : World} {v0 v1 v2 : Value} (hl : g < w.heap.size) (G3 : w.grownBy w3 (some g)) (W3 : w2.setCell ⟨g, 0, none⟩ v0 = w3) (L0 : WordsR (cutW (New w.heap.size w2) w2) v0 x.globals)
    (B4 : Below w3.heap.size w3 w4) (W5 : w4.setCell ⟨g, 1, none⟩ v1 = w5) (L1 : IntsR (cutW (New w3.heap.size w4) w4) v1 x.arrays)
    (G7 : w5.grownBy wr (some g)) (L2 : GrsR (cutW (New w5.heap.size wr) wr) v2 x.funcs) : w.grownBy wr (some g) ∧ ModL (cutW (New w.heap.size wr) wr) v0 v1 v2 x := by
  have G53 : w3.grownBy w5 (some g) := W5 ▸ grown_step (World.grownBy.refl w3 (some g)) B4
  have h3 := G3.size
  have h5 := G53.size
  refine ⟨grown_trans (grown_trans G3 G53) G7, ?_, ?_, ?_⟩
  · subst W3
    exact WordsR.holds (new_step hl (grown_trans G53 G7)) L0
  · subst W5
    exact IntsR.holds (new_more wr h3) (IntsR.holds (new_step (by omega) G7) L1)
  · exact GrsR.holds (new_more wr (by omega)) L2
theorem copied_end {x : PMod} {g : Nat} {w w1 wr we : World} {v0 v1 v2 : Value} (hg : g = w.heap.size) (H1 : Below w.heap.size w w1) (hgr : w1.grownBy wr (some g)) (hlr : g + 1 < w1.heap.size) (hm : ModL (cutW (New w1.heap.size wr) wr) v0 v1 v2 x) (hwe : wr.grownBy we (some (g + 1))) : ModL (cutW (New w.heap.size we) we) v0 v1 v2 x ∧ Below w.heap.size w we := by
  have h1 := H1.size
  have h2 := hgr.size
  refine ⟨ModL.holds (cut_to hwe.size fun b hb hn => ?_) hm, Below.grown (Below.grown H1 hgr h1 (fun k hk => by injection hk with hk; omega)) hwe (by omega) (fun k hk => by injection hk with hk; omega)⟩
  have hne : b ≠ g + 1 := by have := hn.1; omega
  have e : we.heap[b]? = wr.heap[b]? := hwe.block b hb (fun e => hne (by injection e))
  exact ⟨⟨by have := hn.1; omega, unf_keep hn.2 e⟩, e⟩
theorem set_row4 {r : Nat} {t : TypeId} {w : World} {z0 z1 z2 z3 : Value} (v0 v1 v2 v3 : Value) (h : w.heap[r]? = some (.cells #[z0, z1, z2, z3] t (0, 0))) :
    w.grownBy ((((w.setCell ⟨r, 0, none⟩ v0).setCell ⟨r, 1, none⟩ v1).setCell ⟨r, 2, none⟩ v2).setCell ⟨r, 3, none⟩ v3) (some r) ∧
    ((((w.setCell ⟨r, 0, none⟩ v0).setCell ⟨r, 1, none⟩ v1).setCell ⟨r, 2, none⟩ v2).setCell ⟨r, 3, none⟩ v3).heap[r]? = some (.cells #[v0, v1, v2, v3] t (0, 0)) := by
  refine ⟨grown_step (grown_step (grown_step (grown_step (World.grownBy.refl w (some r)) (Below.refl _ _)) (Below.refl _ _)) (Below.refl _ _)) (Below.refl _ _), ?_⟩
  exact heap_setCell_same _ r 3 _ t v3 (heap_setCell_same _ r 2 _ t v2 (heap_setCell_same _ r 1 _ t v1 (heap_setCell_same _ r 0 _ t v0 h)))
set_option maxHeartbeats 8000000 in
set_option maxRecDepth 100000 in
theorem Copy_any (x : PMod) (vg va vf : Value) (w : World) (hL : ModL w vg va vf x) (hs : SmM x) :
    Calls Try.prog 17 #[modV x vg va vf] w (CopiedM x w) := by
  obtain ⟨s1, s2, s3, s4⟩ := hs
  have HL := Lib.hid hL
  obtain ⟨gp, gc, rfl⟩ := hL.globals.form
  obtain ⟨ap, ac, rfl⟩ := hL.arrays.form
  obtain ⟨fp, fc, rfl⟩ := hL.funcs.form
  have HS1 := Lib.hid s1
  have HS2 := Lib.hid s2
  have HS3 := Lib.hid s3
  have HS4 := Lib.hid s4
  clear hL s1 s2 s3 s4
  unfold CopiedM modV
  go_enter Try.func17, Try.ntmps17
  go_upto_region 1 with (fail)
  obtain ⟨cur, hcur⟩ : ∃ cur : Array Value, cur = #[.slice gp x.globals.length gc, .slice ap x.arrays.length ac, .slice fp x.funcs.length fc, .int .i64 x.main] := ⟨_, rfl⟩
  rw [← hcur]
  have c0 : cur[0]? = some (.slice gp x.globals.length gc) := by rw [hcur]; rfl
  have c1 : cur[1]? = some (.slice ap x.arrays.length ac) := by rw [hcur]; rfl
  have c2 : cur[2]? = some (.slice fp x.funcs.length fc) := by rw [hcur]; rfl
  have c3 : cur[3]? = some (.int .i64 x.main) := by rw [hcur]; rfl
  have hsz : cur.size = 4 := by rw [hcur]; rfl
  have hb1 := below_then (below_alloc w (.cells cur 26)) (below_alloc (w.alloc (.cells cur 26)) (.cells #[.slice none 0 0, .slice none 0 0, .slice none 0 0, .int .i64 0] 26))
  have hrow : ((w.alloc (.cells cur 26)).alloc (.cells #[.slice none 0 0, .slice none 0 0, .slice none 0 0, .int .i64 0] 26)).heap[w.heap.size]? = some (.cells cur 26 (0, 0)) := ((below_alloc (w.alloc (.cells cur 26)) _).block w.heap.size (by simp [World.size_alloc])).trans (heap_new w _)
  have hres : ((w.alloc (.cells cur 26)).alloc (.cells #[.slice none 0 0, .slice none 0 0, .slice none 0 0, .int .i64 0] 26)).heap[w.heap.size + 1]? = some (.cells #[.slice none 0 0, .slice none 0 0, .slice none 0 0, .int .i64 0] 26 (0, 0)) := by
    have h := heap_new (w.alloc (.cells cur 26)) (.cells #[.slice none 0 0, .slice none 0 0, .slice none 0 0, .int .i64 0] 26)
    rw [World.size_alloc] at h
    exact h
  generalize hw1 : (w.alloc (.cells cur 26)).alloc (.cells #[.slice none 0 0, .slice none 0 0, .slice none 0 0, .int .i64 0] 26) = w1
  rw [hw1] at hb1 hrow hres
  obtain ⟨g, hg⟩ : ∃ g, g = w.heap.size := ⟨_, rfl⟩
  have HM1 := Lib.hid (ModL.holds (below_cut hg hb1) HL.out)
  rw [← hg] at hrow hres
  have H1 := Lib.hid hb1
  have HGE := Lib.hid hg
  rw [← hg]
  have HRES := Lib.hid hres
  have HG := Lib.hid hrow
  have HC := Lib.hid (And.intro c0 (And.intro c1 (And.intro c2 (And.intro c3 hsz))))
  have hl : g < w1.heap.size := lt_of_block hrow
  have hlr1 : g + 1 < w1.heap.size := lt_of_block hres
  obtain ⟨a0, f0⟩ := cell_of_block hrow c0
  have HP := Lib.hid (fun (wx : World) (hx : w1.grownBy wx (some g)) => WordsR.holds (ne_cut hx) HM1.out.globals)
  have HA := Lib.hid (fun (wx : World) (hx : w1.grownBy wx (some g)) => IntsR.holds (ne_cut hx) HM1.out.arrays)
  have HB := Lib.hid (fun (wx : World) (hx : w1.grownBy wx (some g)) => GrsR.holds (show Holds2 (cutW (· ≠ g) w1) (cutW (· ≠ g) wx) from cut_to hx.size fun b _ hn => ⟨hn, hx.block b ‹_› (fun e => hn (by injection e))⟩) HM1.out.funcs)
  clear hw1 hg hrow hres hb1 c0 c1 c2 c3 hsz hcur
  go_upto_region 2 with (
    go_at_call 40
    fail)
  refine (copyU_any x.globals gp gc _ (HP.out _ (World.grownBy.refl w1 (some g))) HS1.out).mono ?_
  rintro e w2 ⟨q0, d0, rfl, l0, hb2⟩
  have L0 := Lib.hid l0
  have x0 := (hb2.cell (p := ⟨g, 0, none⟩) hl).trans a0
  have y0 : w2.frozen? ⟨g, 0, none⟩ = false := by unfold World.frozen? at f0 ⊢; rw [hb2.block g hl]; exact f0
  have hl2 : g < w2.heap.size := Nat.lt_of_lt_of_le hl hb2.size
  have G3 := Lib.hid (grown_step (k := 0) (v := .slice q0 x.globals.length d0) (World.grownBy.refl w1 (some g)) hb2)
  have R3 := Lib.hid (heap_setCell_same w2 g 0 _ 26 (.slice q0 x.globals.length d0) ((hb2.block g hl).trans HG.out))
  clear l0 hb2 a0 f0
  go_upto_region 2 with (fail)
  generalize hw3 : w2.setCell ⟨g, 0, none⟩ (.slice q0 x.globals.length d0) = w3
  rw [hw3] at G3 R3
  have W3 := Lib.hid hw3
  clear hw3 x0 y0 hl2
  obtain ⟨a2, f2⟩ := cell_of_block R3.out (k := 1) (v := .slice ap x.arrays.length ac) (by rw [Array.getElem?_setIfInBounds_ne (by omega)]; exact HC.out.2.1)
  have hl3 := lt_of_block R3.out
  go_upto_region 3 with (
    go_at_call 41
    fail)
  refine (copyI_any x.arrays ap ac _ (HA.out _ G3.out) HS2.out).mono ?_
  rintro e w4 ⟨q2, d2, rfl, l2, hb4⟩
  have L2 := Lib.hid l2
  have B4 := Lib.hid hb4
  have x2 := (hb4.cell (p := ⟨g, 1, none⟩) hl3).trans a2
  have y2 : w4.frozen? ⟨g, 1, none⟩ = false := by unfold World.frozen? at f2 ⊢; rw [hb4.block g hl3]; exact f2
  have hl4 : g < w4.heap.size := Nat.lt_of_lt_of_le hl3 hb4.size
  have G5 := Lib.hid (grown_step (k := 1) (v := .slice q2 x.arrays.length d2) G3.out hb4)
  have R5 := Lib.hid (heap_setCell_same w4 g 1 _ 26 (.slice q2 x.arrays.length d2) ((hb4.block g hl3).trans R3.out))
  clear l2 hb4 a2 f2
  go_upto_region 3 with (fail)
  generalize hw5 : w4.setCell ⟨g, 1, none⟩ (.slice q2 x.arrays.length d2) = w5
  rw [hw5] at G5 R5
  have W5 := Lib.hid hw5
  clear hw5 x2 y2 hl4 hl3
  obtain ⟨a3, f3⟩ := cell_of_block R5.out (k := 2) (v := .slice fp x.funcs.length fc) (by rw [Array.getElem?_setIfInBounds_ne (by omega), Array.getElem?_setIfInBounds_ne (by omega)]; exact HC.out.2.2.1)
  have hl5 := lt_of_block R5.out
  go_upto_region 4 with (
    go_at_call 42
    fail)
  refine (copyGs_any (· ≠ g) x.funcs fp fc _ (HB.out _ G5.out) HS3.out).mono ?_
  rintro e w6 h6
  rcases h6 with ⟨h0, q, d, rfl, hb6⟩ | ⟨h0, rfl, hb6, hlt6, hmid⟩
  · have x3 := (hb6.cell (p := ⟨g, 2, none⟩) hl5).trans a3
    have y3 : w6.frozen? ⟨g, 2, none⟩ = false := by unfold World.frozen? at f3 ⊢; rw [hb6.block g hl5]; exact f3
    have hl6 : g < w6.heap.size := Nat.lt_of_lt_of_le hl5 hb6.size
    have R7 := Lib.hid (heap_setCell_same w6 g 2 _ 26 (.slice q 0 d) ((hb6.block g hl5).trans R5.out))
    have G7 := Lib.hid (grown_step (k := 2) (v := (.slice q 0 d)) (World.grownBy.refl w5 (some g)) hb6)
    clear hb6 a3 f3
    have hnil : x.funcs = [] := List.length_eq_zero_iff.1 h0
    go_upto_region 4 with (fail)
    generalize hw7 : w6.setCell ⟨g, 2, none⟩ (.slice q 0 d) = w7
    rw [hw7] at R7 G7
    clear hw7 x3 y3 hl6 hl5 h0
    obtain ⟨a3, _⟩ := cell_of_block R7.out (k := 2) (v := (.slice q 0 d)) (by have := HC.out.2.2.2.2; rw [Array.getElem?_setIfInBounds_self_of_lt (by simp; omega)])
    have hl7 := lt_of_block R7.out
    go_wp2
    go_loopw [19] (fun i wr => i = .int .i64 0 ∧ wr = w7) (fun _ _ => 0)
    case atStart => exact ⟨rfl, rfl⟩
    case round =>
      obtain ⟨rfl, rfl⟩ := hrel
      obtain ⟨hgr, hmod⟩ := copiedM_of (v2 := (.slice q 0 d)) hl G3.out W3.out L0.out B4.out W5.out L2.out (G7.out) (by rw [hnil]; exact .inl ⟨rfl, _, _, rfl⟩)
      have hsz := HC.out.2.2.2.2
      obtain ⟨b0, _⟩ := cell_of_block R7.out (k := 0) (v := .slice q0 x.globals.length d0) (by rw [Array.getElem?_setIfInBounds_ne (by omega), Array.getElem?_setIfInBounds_ne (by omega), Array.getElem?_setIfInBounds_self_of_lt (by omega)])
      obtain ⟨b1, _⟩ := cell_of_block R7.out (k := 1) (v := .slice q2 x.arrays.length d2) (by rw [Array.getElem?_setIfInBounds_ne (by omega), Array.getElem?_setIfInBounds_self_of_lt (by simp; omega)])
      obtain ⟨b2, _⟩ := cell_of_block R7.out (k := 2) (v := (.slice q 0 d)) (by rw [Array.getElem?_setIfInBounds_self_of_lt (by simp; omega)])
      obtain ⟨b3, _⟩ := cell_of_block R7.out (k := 3) (v := .int .i64 x.main) (by rw [Array.getElem?_setIfInBounds_ne (by omega), Array.getElem?_setIfInBounds_ne (by omega), Array.getElem?_setIfInBounds_ne (by omega)]; exact HC.out.2.2.2.1)
      have hres := (hgr.block (g + 1) hlr1 (fun e => by injection e with e; omega)).trans HRES.out
      obtain ⟨r0, z0⟩ := cell_of_block hres (k := 0) rfl
      obtain ⟨r1, z1⟩ := cell_of_block hres (k := 1) rfl
      obtain ⟨r2, z2⟩ := cell_of_block hres (k := 2) rfl
      obtain ⟨r3, z3⟩ := cell_of_block hres (k := 3) rfl
      have HGR := Lib.hid hgr
      have HMOD := Lib.hid hmod
      have HEND := Lib.hid (set_row4 (.slice q0 x.globals.length d0) (.slice q2 x.arrays.length d2) (.slice q 0 d) (.int .i64 x.main) hres)
      clear hgr hmod hres a3
      go_wp2
      obtain ⟨gw, ew⟩ := HEND.out
      generalize ((((World.setCell wr ⟨g + 1, 0, none⟩ (.slice q0 x.globals.length d0)).setCell ⟨g + 1, 1, none⟩ (.slice q2 x.arrays.length d2)).setCell ⟨g + 1, 2, none⟩ (.slice q 0 d)).setCell ⟨g + 1, 3, none⟩ (.int .i64 x.main)) = we at gw ew ⊢
      obtain ⟨p0, _⟩ := cell_of_block ew (k := 0) rfl
      obtain ⟨p1, _⟩ := cell_of_block ew (k := 1) rfl
      obtain ⟨p2, _⟩ := cell_of_block ew (k := 2) rfl
      obtain ⟨p3, _⟩ := cell_of_block ew (k := 3) rfl
      have HF := Lib.hid (copied_end HGE.out H1.out HGR.out hlr1 HMOD.out gw)
      clear ew gw
      try simp only [Exit.inBlock, Exit.then]
      refine bodyPost_ret (v := .agg #[.slice q0 x.globals.length d0, .slice q2 x.arrays.length d2, (.slice q 0 d), .int .i64 x.main]) ?_ rfl ?_
      · simp [results, Try.results17, go_sem, p0, p1, p2, p3]
      · exact ⟨_, _, _, rfl, HF.out.1, HF.out.2⟩
  · have x3 := (hb6.cell (p := ⟨g, 2, none⟩) hl5).trans a3
    have y3 : w6.frozen? ⟨g, 2, none⟩ = false := by unfold World.frozen? at f3 ⊢; rw [hb6.block g hl5]; exact f3
    have hl6 : g < w6.heap.size := Nat.lt_of_lt_of_le hl5 hb6.size
    have R7 := Lib.hid (heap_setCell_same w6 g 2 _ 26 (.slice (some ⟨w5.heap.size, 0, none⟩) x.funcs.length x.funcs.length) ((hb6.block g hl5).trans R5.out))
    have G7 := Lib.hid (grown_step (k := 2) (v := (.slice (some ⟨w5.heap.size, 0, none⟩) x.funcs.length x.funcs.length)) (World.grownBy.refl w5 (some g)) hb6)
    clear hb6 a3 f3
    have hgB : g ≠ w5.heap.size := Nat.ne_of_lt hl5
    have HM0 := Lib.hid (MidG.start (g := g) (o := 2) (v := (.slice (some ⟨w5.heap.size, 0, none⟩) x.funcs.length x.funcs.length)) hmid hgB (fun h => h.1 rfl))
    have hlt7 : w5.heap.size < (w6.setCell ⟨g, 2, none⟩ (.slice (some ⟨w5.heap.size, 0, none⟩) x.funcs.length x.funcs.length)).heap.size := by simpa using hlt6
    clear hmid hlt6
    go_upto_region 4 with (fail)
    generalize hw7 : w6.setCell ⟨g, 2, none⟩ (.slice (some ⟨w5.heap.size, 0, none⟩) x.funcs.length x.funcs.length) = w7
    rw [hw7] at R7 G7 HM0 hlt7
    clear hw7 x3 y3 hl6
    obtain ⟨B, hB⟩ : ∃ B, B = w5.heap.size := ⟨_, rfl⟩
    have HBE := Lib.hid hB
    rw [← hB] at R7 HM0 hlt7 hgB
    rw [← hB]
    clear hB
    obtain ⟨n, hn⟩ : ∃ n, n = x.funcs.length := ⟨_, rfl⟩
    have HN := Lib.hid hn
    have hnb : n ≤ 9223372036854775807 := by have := HS3.out; unfold reachBytes at this; omega
    have hnI : (n : Int) ≤ 9223372036854775807 := by omega
    rw [← hn] at R7
    rw [← hn]
    have HN0 := Lib.hid h0
    clear hn h0
    obtain ⟨a3, _⟩ := cell_of_block R7.out (k := 2) (v := .slice (some ⟨B, 0, none⟩) n n) (by have := HC.out.2.2.2.2; rw [Array.getElem?_setIfInBounds_self_of_lt (by simp; omega)])
    have hl7 := lt_of_block R7.out
    go_wp2
    clear a3
    go_loopw [19] (fun i wr => ∃ k : Nat, k ≤ n ∧ i = .int .i64 k ∧ Hid (MidG x.funcs B (fun b => b ≠ g ∧ b < B) w7 wr k)) (fun i _ => n - (intOf i).toNat)
    case atStart => exact ⟨0, Nat.zero_le _, rfl, HM0⟩
    case round =>
      obtain ⟨k, hk, rfl, HM⟩ := hrel
      have HR := Lib.hid ((HM.out.grown.block g hl7 (fun e => hgB (by injection e))).trans R7.out)
      obtain ⟨a3, _⟩ := cell_of_block HR.out (k := 2) (v := .slice (some ⟨B, 0, none⟩) n n) (by have := HC.out.2.2.2.2; rw [Array.getElem?_setIfInBounds_self_of_lt (by simp; omega)])
      have hlr := lt_of_block HR.out
      have hBr : B < wr.heap.size := Nat.lt_of_lt_of_le hlt7 HM.out.grown.size
      by_cases hlt : k < n
      · obtain ⟨u, hu⟩ := getN HN.out hlt
        obtain ⟨cur', t', hb', hins⟩ := HM.out.row
        obtain ⟨vp, va, vb, hv, _, hold⟩ := hins k u hu
        have toNe : Holds2 (cutW (fun b => b ≠ g ∧ b < B) wr) (cutW (· ≠ B) wr) := cut_to (Nat.le_refl _) fun b _ h1 => ⟨fun e => by have := h1.2; omega, rfl⟩
        have HCB := Lib.hid (copyFunc_any u B (k * 4) vp va vb cur' t' wr hb' hv (GrL.holds toNe (hold (Nat.le_refl _))) (HS4.out u (List.mem_of_getElem? hu)))
        have HST := Lib.hid (fun (wa : World) (hc : CopiedF B (k * 4) u cur' t' wr wa) => MidG.step (fun h => by have := h.2; omega) HM.out hb' hu hc)
        have k0 : (0 : Int) ≤ k := by omega
        have k1 : (k : Int) < n := by omega
        clear hu hb' hins hv hold toNe
        go_wp2_with (go_at_call 43; refine HCB.out.mono ?_; rintro e wa ⟨rfl, hc⟩; have HMS := Lib.hid (HST.out wa hc); clear hc)
        exact ⟨⟨k + 1, Nat.succ_le_of_lt hlt, by go_num, HMS⟩, by simp [intOf]; omega⟩
      · obtain rfl : k = n := by omega
        have L3 : GrsR (cutW (New w5.heap.size wr) wr) (.slice (some ⟨B, 0, none⟩) k k) x.funcs := by
          have hm := HM.out
          have hBe := HBE.out
          have hnn := HN.out
          subst hnn hBe
          exact MidG.done hm HN0.out hnb
        have hBw : w5.heap.size ≤ B := Nat.le_of_eq HBE.out.symm
        obtain ⟨hgr, hmod⟩ := copiedM_of (v2 := (.slice (some ⟨B, 0, none⟩) k k)) hl G3.out W3.out L0.out B4.out W5.out L2.out (grown_past G7.out HM.out.grown hBw) (L3)
        have hsz := HC.out.2.2.2.2
        obtain ⟨b0, _⟩ := cell_of_block HR.out (k := 0) (v := .slice q0 x.globals.length d0) (by rw [Array.getElem?_setIfInBounds_ne (by omega), Array.getElem?_setIfInBounds_ne (by omega), Array.getElem?_setIfInBounds_self_of_lt (by omega)])
        obtain ⟨b1, _⟩ := cell_of_block HR.out (k := 1) (v := .slice q2 x.arrays.length d2) (by rw [Array.getElem?_setIfInBounds_ne (by omega), Array.getElem?_setIfInBounds_self_of_lt (by simp; omega)])
        obtain ⟨b2, _⟩ := cell_of_block HR.out (k := 2) (v := (.slice (some ⟨B, 0, none⟩) k k)) (by rw [Array.getElem?_setIfInBounds_self_of_lt (by simp; omega)])
        obtain ⟨b3, _⟩ := cell_of_block HR.out (k := 3) (v := .int .i64 x.main) (by rw [Array.getElem?_setIfInBounds_ne (by omega), Array.getElem?_setIfInBounds_ne (by omega), Array.getElem?_setIfInBounds_ne (by omega)]; exact HC.out.2.2.2.1)
        have hres := (hgr.block (g + 1) hlr1 (fun e => by injection e with e; omega)).trans HRES.out
        obtain ⟨r0, z0⟩ := cell_of_block hres (k := 0) rfl
        obtain ⟨r1, z1⟩ := cell_of_block hres (k := 1) rfl
        obtain ⟨r2, z2⟩ := cell_of_block hres (k := 2) rfl
        obtain ⟨r3, z3⟩ := cell_of_block hres (k := 3) rfl
        have HGR := Lib.hid hgr
        have HMOD := Lib.hid hmod
        have HEND := Lib.hid (set_row4 (.slice q0 x.globals.length d0) (.slice q2 x.arrays.length d2) (.slice (some ⟨B, 0, none⟩) k k) (.int .i64 x.main) hres)
        clear hgr hmod hres a3
        go_wp2
        obtain ⟨gw, ew⟩ := HEND.out
        generalize ((((World.setCell wr ⟨g + 1, 0, none⟩ (.slice q0 x.globals.length d0)).setCell ⟨g + 1, 1, none⟩ (.slice q2 x.arrays.length d2)).setCell ⟨g + 1, 2, none⟩ (.slice (some ⟨B, 0, none⟩) k k)).setCell ⟨g + 1, 3, none⟩ (.int .i64 x.main)) = we at gw ew ⊢
        obtain ⟨p0, _⟩ := cell_of_block ew (k := 0) rfl
        obtain ⟨p1, _⟩ := cell_of_block ew (k := 1) rfl
        obtain ⟨p2, _⟩ := cell_of_block ew (k := 2) rfl
        obtain ⟨p3, _⟩ := cell_of_block ew (k := 3) rfl
        have HF := Lib.hid (copied_end HGE.out H1.out HGR.out hlr1 HMOD.out gw)
        clear ew gw
        try simp only [Exit.inBlock, Exit.then]
        refine bodyPost_ret (v := .agg #[.slice q0 x.globals.length d0, .slice q2 x.arrays.length d2, (.slice (some ⟨B, 0, none⟩) k k), .int .i64 x.main]) ?_ rfl ?_
        · simp [results, Try.results17, go_sem, p0, p1, p2, p3]
        · exact ⟨_, _, _, rfl, HF.out.1, HF.out.2⟩
end Go.Proofs.Ytacbfjinellonaa.Graph
