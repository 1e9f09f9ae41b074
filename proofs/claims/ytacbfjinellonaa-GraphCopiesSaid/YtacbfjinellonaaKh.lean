/- The program's copyFunc, at any graph. -/
import Derived.Test.YtacbfjinellonaaKF
namespace Go.Proofs.Ytacbfjinellonaa.Graph
open Go.RowKit

theorem MidB.start {bs : List PBlk} {B g o : Nat} {S : Nat → Prop} {w2 : World} {v : Value} (h : MidB bs B S w2 w2 0) (hg : g ≠ B) (hS : ¬ S g) : MidB bs B S (w2.setCell ⟨g, o, none⟩ v) (w2.setCell ⟨g, o, none⟩ v) 0 := by
  have oth : ∀ b, b ≠ g → (w2.setCell ⟨g, o, none⟩ v).heap[b]? = w2.heap[b]? := fun b hne => heap_setCell_other w2 ⟨g, o, none⟩ b v (fun e => hne e)
  have toOld : Holds2 (cutW S w2) (cutW S (w2.setCell ⟨g, o, none⟩ v)) := cut_to (by simp) fun b hb h1 => ⟨h1, oth b (fun e => hS (e ▸ h1))⟩
  obtain ⟨cur, t, hb, hins⟩ := h.blk
  refine ⟨World.grownBy.refl _ _, cur, t, (oth B (fun e => hg e.symm)).trans hb, fun i x hx => ?_⟩
  obtain ⟨vk, vc, vt, h1, _, h3⟩ := hins i x hx
  exact ⟨vk, vc, vt, h1, fun hh => by omega, fun hh => ⟨CodeR.holds toOld (h3 hh).1, EndL.holds toOld (h3 hh).2⟩⟩
/-- What is new at w2 is still there after the row's cell is set, and after more that leaves it. -/
theorem new_step {g o N : Nat} {v : Value} {w2 wr : World} (hN : g < N) (h : (w2.setCell ⟨g, o, none⟩ v).grownBy wr (some g)) : Holds2 (cutW (New N w2) w2) (cutW (New N wr) wr) :=
  cut_to (by simpa using h.size) fun b hb hn => by
    have hne : b ≠ g := by have := hn.1; omega
    have e : wr.heap[b]? = w2.heap[b]? := (h.block b (by simpa using hb) (fun e => hne (by injection e))).trans (heap_setCell_other w2 ⟨g, o, none⟩ b v (fun e => hne e))
    exact ⟨⟨hn.1, unf_keep hn.2 e⟩, e⟩
theorem new_more {N M : Nat} (w : World) (h : N ≤ M) : Holds2 (cutW (New M w) w) (cutW (New N w) w) := cut_to (Nat.le_refl _) fun _b _ hn => ⟨⟨Nat.le_trans h hn.1, hn.2⟩, rfl⟩
theorem copiedF_of {g o : Nat} {x : PGr} {cur : Array Value} {t : TypeId} {w w2 w3 w4 w5 wr : World} {v0 v2 v3 : Value} (hl : g < w.heap.size) (G3 : w.grownBy w3 (some g)) (W3 : w2.setCell ⟨g, o, none⟩ v0 = w3) (L0 : IntsR (cutW (New w.heap.size w2) w2) v0 x.params)
    (B4 : Below w3.heap.size w3 w4) (W5 : w4.setCell ⟨g, o + 2, none⟩ v2 = w5) (L2 : ArrsR (cutW (New w3.heap.size w4) w4) v2 x.arrays)
    (G7 : w5.grownBy wr (some g)) (row : wr.heap[g]? = some (.cells (((cur.setIfInBounds o v0).setIfInBounds (o + 2) v2).setIfInBounds (o + 3) v3) t (0, 0))) (L3 : BlksR (cutW (New w5.heap.size wr) wr) v3 x.blocks) : CopiedF g o x cur t w wr := by
  have G53 : w3.grownBy w5 (some g) := W5 ▸ grown_step (World.grownBy.refl w3 (some g)) B4
  have h3 := G3.size
  have h5 := G53.size
  refine ⟨grown_trans (grown_trans G3 G53) G7, v0, v2, v3, row, ?_, ?_, ?_⟩
  · subst W3
    exact IntsR.holds (new_step hl (grown_trans G53 G7)) L0
  · subst W5
    exact ArrsR.holds (new_more wr h3) (ArrsR.holds (new_step (by omega) G7) L2)
  · exact BlksR.holds (new_more wr (by omega)) L3
set_option maxHeartbeats 8000000 in
set_option maxRecDepth 100000 in
theorem copyFunc_any (x : PGr) (g o : Nat) (vp va vb : Value) (cur : Array Value) (t : TypeId) (w : World) (hg : w.heap[g]? = some (.cells cur t (0, 0))) (hv : GrV cur o x vp va vb)
    (hL : GrL (cutW (· ≠ g) w) vp va vb x) (hs : SmG x) :
    Calls Try.prog 43 #[.pointer (some ⟨g, o, none⟩)] w fun e w' => e = .returned (.tuple #[]) ∧ CopiedF g o x cur t w w' := by
  have hl : g < w.heap.size := lt_of_block hg
  have HG := Lib.hid hg
  have HV := Lib.hid hv
  obtain ⟨s1, s2, s3, s4⟩ := hs
  have HP := Lib.hid (fun (wx : World) (hx : w.grownBy wx (some g)) => IntsR.holds (ne_cut hx) hL.params)
  have HA := Lib.hid (fun (wx : World) (hx : w.grownBy wx (some g)) => ArrsR.holds (ne_cut hx) hL.arrays)
  have HB := Lib.hid (fun (wx : World) (hx : w.grownBy wx (some g)) => BlksR.holds (show Holds2 (cutW (· ≠ g) w) (cutW (· ≠ g) wx) from cut_to hx.size fun b _ hn => ⟨hn, hx.block b ‹_› (fun e => hn (by injection e))⟩) hL.blocks)
  obtain ⟨pp, pc, rfl⟩ := hL.params.form
  obtain ⟨ap, ac, rfl⟩ := hL.arrays.form
  obtain ⟨bp, bc, rfl⟩ := hL.blocks.form
  obtain ⟨a0, f0⟩ := cell_of_block hg hv.cp
  have hob : o + 3 < cur.size := by
    rcases Nat.lt_or_ge (o + 3) cur.size with h | h
    · exact h
    · have h2 := hv.cb; rw [Array.getElem?_eq_none h] at h2; cases h2
  have HOB := Lib.hid hob
  have HS1 := Lib.hid s1
  have HS2 := Lib.hid s2
  have HS3 := Lib.hid s3
  have HS4 := Lib.hid s4
  clear hg hv hL s1 s2 s3 s4 hob
  go_enter Try.func43, Try.ntmps43
  go_upto_region 1 with (
    go_at_call 41
    fail)
  refine (copyI_any x.params pp pc _ (HP.out _ (World.grownBy.refl w (some g))) HS1.out).mono ?_
  rintro e w2 ⟨q0, d0, rfl, l0, hb2⟩
  have L0 := Lib.hid l0
  have B2 := Lib.hid hb2
  have x0 := (hb2.cell (p := ⟨g, o, none⟩) hl).trans a0
  have y0 : w2.frozen? ⟨g, o, none⟩ = false := by unfold World.frozen? at f0 ⊢; rw [hb2.block g hl]; exact f0
  have hl2 : g < w2.heap.size := Nat.lt_of_lt_of_le hl hb2.size
  have G3 := Lib.hid (grown_step (k := o) (v := .slice q0 x.params.length d0) (World.grownBy.refl w (some g)) hb2)
  have R3 := Lib.hid (heap_setCell_same w2 g o _ t (.slice q0 x.params.length d0) ((hb2.block g hl).trans HG.out))
  clear l0 hb2 a0 f0
  go_upto_region 1 with (fail)
  generalize hw3 : w2.setCell ⟨g, o, none⟩ (.slice q0 x.params.length d0) = w3
  rw [hw3] at G3 R3
  have W3 := Lib.hid hw3
  clear hw3 x0 y0 hl2
  obtain ⟨a2, f2⟩ := cell_of_block R3.out (k := o + 2) (v := .slice ap x.arrays.length ac) (by rw [Array.getElem?_setIfInBounds_ne (by omega)]; exact HV.out.ca)
  have hl3 := lt_of_block R3.out
  go_upto_region 2 with (
    go_at_call 67
    fail)
  refine (copyA_any x.arrays ap ac _ (HA.out _ G3.out) HS2.out).mono ?_
  rintro e w4 ⟨q2, d2, rfl, l2, hb4⟩
  have L2 := Lib.hid l2
  have B4 := Lib.hid hb4
  have x2 := (hb4.cell (p := ⟨g, o + 2, none⟩) hl3).trans a2
  have y2 : w4.frozen? ⟨g, o + 2, none⟩ = false := by unfold World.frozen? at f2 ⊢; rw [hb4.block g hl3]; exact f2
  have hl4 : g < w4.heap.size := Nat.lt_of_lt_of_le hl3 hb4.size
  have G5 := Lib.hid (grown_step (k := o + 2) (v := .slice q2 x.arrays.length d2) G3.out hb4)
  have R5 := Lib.hid (heap_setCell_same w4 g (o + 2) _ t (.slice q2 x.arrays.length d2) ((hb4.block g hl3).trans R3.out))
  have S5 : Hid (w.heap.size ≤ w3.heap.size) := Lib.hid G3.out.size
  clear l2 hb4 a2 f2
  go_upto_region 2 with (fail)
  generalize hw5 : w4.setCell ⟨g, o + 2, none⟩ (.slice q2 x.arrays.length d2) = w5
  rw [hw5] at G5 R5
  have W5 := Lib.hid hw5
  clear hw5 x2 y2 hl4 hl3
  obtain ⟨a3, f3⟩ := cell_of_block R5.out (k := o + 3) (v := .slice bp x.blocks.length bc) (by rw [Array.getElem?_setIfInBounds_ne (by omega), Array.getElem?_setIfInBounds_ne (by omega)]; exact HV.out.cb)
  have hl5 := lt_of_block R5.out
  go_upto_region 3 with (
    go_at_call 68
    fail)
  refine (copyBs_any (· ≠ g) x.blocks bp bc _ (HB.out _ G5.out) HS3.out).mono ?_
  rintro e w6 h6
  rcases h6 with ⟨h0, q, d, rfl, hb6⟩ | ⟨h0, rfl, hb6, hlt6, hmid⟩
  · have x3 := (hb6.cell (p := ⟨g, o + 3, none⟩) hl5).trans a3
    have y3 : w6.frozen? ⟨g, o + 3, none⟩ = false := by unfold World.frozen? at f3 ⊢; rw [hb6.block g hl5]; exact f3
    have hl6 : g < w6.heap.size := Nat.lt_of_lt_of_le hl5 hb6.size
    have R7 := Lib.hid (heap_setCell_same w6 g (o + 3) _ t (.slice q 0 d) ((hb6.block g hl5).trans R5.out))
    have G7 := Lib.hid (grown_step (k := o + 3) (v := (.slice q 0 d)) (World.grownBy.refl w5 (some g)) hb6)
    clear hb6 a3 f3
    have hnil : x.blocks = [] := List.length_eq_zero_iff.1 h0
    go_upto_region 3 with (fail)
    generalize hw7 : w6.setCell ⟨g, o + 3, none⟩ (.slice q 0 d) = w7
    rw [hw7] at R7 G7
    clear hw7 x3 y3 hl6 hl5 h0
    obtain ⟨a3, _⟩ := cell_of_block R7.out (k := o + 3) (v := (.slice q 0 d)) (by have := HOB.out; rw [Array.getElem?_setIfInBounds_self_of_lt (by simp; omega)])
    have hl7 := lt_of_block R7.out
    go_wp2
    go_loopw [32] (fun i wr => i = .int .i64 0 ∧ wr = w7) (fun _ _ => 0)
    case atStart => exact ⟨rfl, rfl⟩
    case round =>
      obtain ⟨rfl, rfl⟩ := hrel
      go_wp2
      go_end0
      exact ⟨rfl, copiedF_of hl G3.out W3.out L0.out B4.out W5.out L2.out G7.out R7.out (by rw [hnil]; exact .inl ⟨rfl, _, _, rfl⟩)⟩
  · have x3 := (hb6.cell (p := ⟨g, o + 3, none⟩) hl5).trans a3
    have y3 : w6.frozen? ⟨g, o + 3, none⟩ = false := by unfold World.frozen? at f3 ⊢; rw [hb6.block g hl5]; exact f3
    have hl6 : g < w6.heap.size := Nat.lt_of_lt_of_le hl5 hb6.size
    have R7 := Lib.hid (heap_setCell_same w6 g (o + 3) _ t (.slice (some ⟨w5.heap.size, 0, none⟩) x.blocks.length x.blocks.length) ((hb6.block g hl5).trans R5.out))
    have G7 := Lib.hid (grown_step (k := o + 3) (v := (.slice (some ⟨w5.heap.size, 0, none⟩) x.blocks.length x.blocks.length)) (World.grownBy.refl w5 (some g)) hb6)
    clear hb6 a3 f3
    have hgB : g ≠ w5.heap.size := Nat.ne_of_lt hl5
    have HM0 := Lib.hid (MidB.start (g := g) (o := o + 3) (v := (.slice (some ⟨w5.heap.size, 0, none⟩) x.blocks.length x.blocks.length)) hmid hgB (fun h => h.1 rfl))
    have hlt7 : w5.heap.size < (w6.setCell ⟨g, o + 3, none⟩ (.slice (some ⟨w5.heap.size, 0, none⟩) x.blocks.length x.blocks.length)).heap.size := by simpa using hlt6
    clear hmid hlt6
    go_upto_region 3 with (fail)
    generalize hw7 : w6.setCell ⟨g, o + 3, none⟩ (.slice (some ⟨w5.heap.size, 0, none⟩) x.blocks.length x.blocks.length) = w7
    rw [hw7] at R7 G7 HM0 hlt7
    clear hw7 x3 y3 hl6
    obtain ⟨B, hB⟩ : ∃ B, B = w5.heap.size := ⟨_, rfl⟩
    have HBE := Lib.hid hB
    rw [← hB] at R7 HM0 hlt7 hgB
    rw [← hB]
    clear hB
    obtain ⟨n, hn⟩ : ∃ n, n = x.blocks.length := ⟨_, rfl⟩
    have HN := Lib.hid hn
    have hnb : n ≤ 9223372036854775807 := by have := HS3.out; unfold reachBytes at this; omega
    have hnI : (n : Int) ≤ 9223372036854775807 := by omega
    rw [← hn] at R7
    rw [← hn]
    have HN0 := Lib.hid h0
    clear hn h0
    obtain ⟨a3, _⟩ := cell_of_block R7.out (k := o + 3) (v := .slice (some ⟨B, 0, none⟩) n n) (by have := HOB.out; rw [Array.getElem?_setIfInBounds_self_of_lt (by simp; omega)])
    have hl7 := lt_of_block R7.out
    go_wp2
    clear a3
    go_loopw [32] (fun i wr => ∃ k : Nat, k ≤ n ∧ i = .int .i64 k ∧ Hid (MidB x.blocks B (fun b => b ≠ g ∧ b < B) w7 wr k)) (fun i _ => n - (intOf i).toNat)
    case atStart => exact ⟨0, Nat.zero_le _, rfl, HM0⟩
    case round =>
      obtain ⟨k, hk, rfl, HM⟩ := hrel
      have HR := Lib.hid ((HM.out.grown.block g hl7 (fun e => hgB (by injection e))).trans R7.out)
      obtain ⟨a3, _⟩ := cell_of_block HR.out (k := o + 3) (v := .slice (some ⟨B, 0, none⟩) n n) (by have := HOB.out; rw [Array.getElem?_setIfInBounds_self_of_lt (by simp; omega)])
      have hlr := lt_of_block HR.out
      have hBr : B < wr.heap.size := Nat.lt_of_lt_of_le hlt7 HM.out.grown.size
      by_cases hlt : k < n
      · obtain ⟨u, hu⟩ := getN HN.out hlt
        obtain ⟨cur', t', hb', hins⟩ := HM.out.blk
        obtain ⟨vk, vc, vt, hv, _, hold⟩ := hins k u hu
        have toNe : Holds2 (cutW (fun b => b ≠ g ∧ b < B) wr) (cutW (· ≠ B) wr) := cut_to (Nat.le_refl _) fun b _ h1 => ⟨fun e => by have := h1.2; omega, rfl⟩
        have HCB := Lib.hid (copyBlock_any u B (k * 10) vk vc vt cur' t' wr hb' hv.ck hv.cc hv.ct (CodeR.holds toNe (hold (Nat.le_refl _)).1) (EndL.holds toNe (hold (Nat.le_refl _)).2) (HS4.out u (List.mem_of_getElem? hu)))
        have HST := Lib.hid (fun (wa : World) (hc : CopiedB B (k * 10) u cur' t' wr wa) => MidB.step (fun h => by have := h.2; omega) HM.out hb' hu hc)
        have k0 : (0 : Int) ≤ k := by omega
        have k1 : (k : Int) < n := by omega
        clear hu hb' hins hv hold toNe
        go_wp2_with (go_at_call 69; refine HCB.out.mono ?_; rintro e wa ⟨rfl, hc⟩; have HMS := Lib.hid (HST.out wa hc); clear hc)
        exact ⟨⟨k + 1, Nat.succ_le_of_lt hlt, by go_num, HMS⟩, by simp [intOf]; omega⟩
      · obtain rfl : k = n := by omega
        go_wp2
        go_end0
        have hBe := HBE.out
        have hnn := HN.out
        refine ⟨rfl, copiedF_of hl G3.out W3.out L0.out B4.out W5.out L2.out (grown_past G7.out HM.out.grown (by omega)) HR.out ?_⟩
        have hm := HM.out
        subst hnn hBe
        exact MidB.done hm HN0.out hnb
end Go.Proofs.Ytacbfjinellonaa.Graph
