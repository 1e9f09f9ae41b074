/- Two modules that lie as the same one are the same. -/
import Derived.Test.YtacbfjinellonaaJb
namespace Go.Proofs.Ytacbfjinellonaa.Graph
open Go.RowKit

theorem word_at {w wr : World} {p : Option Addr} {m c : Nat} {l : List Int} (h : WordsR w (.slice p m c) l) (hb : Below w.heap.size w wr) {k : Nat} {t : Int} (ht : l[k]? = some t) :
    ∃ g o, p = some ⟨g, o, none⟩ ∧ l.length ≤ c ∧ wr.cell? ⟨g, o + k, none⟩ = some (.int .u32 t) ∧ g < wr.heap.size := by
  have hk : k < l.length := by
    rcases Nat.lt_or_ge k l.length with h | h
    · exact h
    · rw [List.getElem?_eq_none h] at ht; cases ht
  obtain ⟨g, o, cap, hv, hcap, hgl, hcell⟩ := SlR.form2 h (by omega)
  injection hv with hv _ hc
  subst hv hc
  have c0 := hcell k hk t ht
  rw [Nat.mul_one] at c0
  exact ⟨g, o, rfl, hcap.1, (hb.cell (p := ⟨g, o + k, none⟩) hgl).trans c0, Nat.lt_of_lt_of_le hgl hb.size⟩
theorem gr_at2 {w wr : World} {p : Option Addr} {m c : Nat} {l : List PGr} (h : GrsR w (.slice p m c) l) (hb : Below w.heap.size w wr) {k : Nat} {t : PGr} (ht : l[k]? = some t) :
    ∃ g o pp pc ap ac bp bc, p = some ⟨g, o, none⟩ ∧ l.length ≤ c ∧ wr.cell? ⟨g, o + k * 4, none⟩ = some (.slice pp t.params.length pc) ∧ wr.cell? ⟨g, o + k * 4 + 1, none⟩ = some (.int .i64 t.temps) ∧ wr.cell? ⟨g, o + k * 4 + 2, none⟩ = some (.slice ap t.arrays.length ac) ∧ wr.cell? ⟨g, o + k * 4 + 3, none⟩ = some (.slice bp t.blocks.length bc) ∧
      GrL wr (.slice pp t.params.length pc) (.slice ap t.arrays.length ac) (.slice bp t.blocks.length bc) t ∧ g < wr.heap.size := by
  have hk : k < l.length := by
    rcases Nat.lt_or_ge k l.length with h | h
    · exact h
    · rw [List.getElem?_eq_none h] at ht; cases ht
  obtain ⟨g, o, cap, hv, hcap, hgl, hcell⟩ := SlR.form2 h (by omega)
  injection hv with hv _ hc
  subst hv hc
  obtain ⟨pp, pc, ap, ac, bp, bc, h1, h2, h3, h4, h5, h6⟩ := gr_at (n := m) h hb ht
  exact ⟨g, o, pp, pc, ap, ac, bp, bc, rfl, hcap.1, h1, h2, h3, h4, h5, h6⟩
set_option maxHeartbeats 8000000 in
set_option maxRecDepth 100000 in
theorem same_any (x : PMod) (vg va vf vg2 va2 vf2 : Value) (w : World) (h : ModL w vg va vf x) (h2 : ModL w vg2 va2 vf2 x) :
    Calls Try.prog 10 #[modV x vg va vf, modV x vg2 va2 vf2] w (Is (.bool true) w) := by
  have HP := Lib.hid (fun (wx : World) (hx : Below w.heap.size w wx) => ints_any x.arrays x.arrays va va2 wx (h.arrays.below hx) (h2.arrays.below hx))
  have n1 := sl_len h.globals
  have n2 := sl_len h.funcs
  have HG := Lib.hid h.globals
  have HG2 := Lib.hid h2.globals
  have HF := Lib.hid h.funcs
  have HF2 := Lib.hid h2.funcs
  obtain ⟨gp, gc, rfl⟩ := h.globals.form
  obtain ⟨rp, rc, rfl⟩ := h.arrays.form
  obtain ⟨fp, fc, rfl⟩ := h.funcs.form
  obtain ⟨gp2, gc2, rfl⟩ := h2.globals.form
  obtain ⟨rp2, rc2, rfl⟩ := h2.arrays.form
  obtain ⟨fp2, fc2, rfl⟩ := h2.funcs.form
  have t1 : decide (x.arrays = x.arrays) = true := decide_eq_true rfl
  rw [t1] at HP
  obtain ⟨globals, arrays, funcs, mn⟩ := x
  simp only at *
  obtain ⟨ng, hng⟩ : ∃ n, n = globals.length := ⟨_, rfl⟩
  obtain ⟨nf, hnf⟩ : ∃ n, n = funcs.length := ⟨_, rfl⟩
  have HNG := Lib.hid hng
  have HNF := Lib.hid hnf
  rw [← hng] at n1
  rw [← hnf] at n2
  have n3 : (ng : Int) ≤ 9223372036854775807 := by omega
  have n4 : (nf : Int) ≤ 9223372036854775807 := by omega
  unfold modV
  rw [← hng, ← hnf]
  clear h h2 t1 hng hnf
  go_enter Try.func10, Try.ntmps10
  go_wp2_with (
      go_at_call 16
      refine (HP.out _ (below2 w _ _)).mono ?_
      rintro e w2 ⟨rfl, hb2⟩
      have B1 : Box4 w2 w.heap.size (.slice gp ng gc) (.slice rp arrays.length rc) (.slice fp nf fc) (.int .i64 mn) := Box4.below ⟨by go_simp, by go_simp, by go_simp, by go_simp, by go_simp⟩ hb2
      have B2 : Box4 w2 (w.heap.size + 1) (.slice gp2 ng gc2) (.slice rp2 arrays.length rc2) (.slice fp2 nf fc2) (.int .i64 mn) := Box4.below ⟨by go_simp, by go_simp, by go_simp, by go_simp, by go_simp⟩ hb2
      have X1 := Lib.hid B1
      have X2 := Lib.hid B2
      have H2 := Lib.hid (below_then (below2 w _ _) hb2)
      obtain ⟨y0, y1, y2, y3, y4⟩ := B1
      obtain ⟨z0, z1, z2, z3, z4⟩ := B2
      clear hb2)
  go_loopw [5] (fun i wr => ∃ k : Nat, k ≤ ng ∧ i = .int .i64 k ∧ Below w2.heap.size w2 wr) (fun i _ => ng - (intOf i).toNat)
  case atStart => exact ⟨0, Nat.zero_le _, rfl, Below.refl _ _⟩
  case round =>
    obtain ⟨k, hk, rfl, hbw⟩ := hrel
    have HBW := Lib.hid hbw
    clear y0 y1 y2 y3 y4 z0 z1 z2 z3 z4
    obtain ⟨y0, y1, y2, y3, y4⟩ := X1.out.below hbw
    obtain ⟨z0, z1, z2, z3, z4⟩ := X2.out.below hbw
    by_cases hlt : k < ng
    · obtain ⟨t, ht⟩ := getN HNG.out hlt
      obtain ⟨g, o, rfl, hc1, c0, l0⟩ := word_at HG.out (H2.out.trans (hbw.mono H2.out.size)) ht
      obtain ⟨g2, o2, rfl, hc2, d0, l1⟩ := word_at HG2.out (H2.out.trans (hbw.mono H2.out.size)) ht
      have k0 : (0 : Int) ≤ k := by omega
      have k1 : (k : Int) < ng := by omega
      have k2 : (ng : Int) ≤ gc := by have := HNG.out; omega
      have k3 : (ng : Int) ≤ gc2 := by have := HNG.out; omega
      clear ht hbw hc1 hc2
      go_wp2
      go_quiet (fail)
      go_wp2
      exact ⟨⟨k + 1, Nat.succ_le_of_lt hlt, by go_num, below_drew HBW.out nq⟩, by simp [intOf]; omega⟩
    · obtain rfl : k = ng := by omega
      clear hbw
      go_wp2
      rename World => wa
      go_loopw [6] (fun i wr => ∃ k : Nat, k ≤ nf ∧ i = .int .i64 k ∧ Below w2.heap.size w2 wr) (fun i _ => nf - (intOf i).toNat)
      case atStart => exact ⟨0, Nat.zero_le _, rfl, HBW.out⟩
      case round =>
        obtain ⟨k, hk, rfl, hbw⟩ := hrel
        have HBW2 := Lib.hid hbw
        clear y0 y1 y2 y3 y4 z0 z1 z2 z3 z4
        obtain ⟨y0, y1, y2, y3, y4⟩ := X1.out.below hbw
        obtain ⟨z0, z1, z2, z3, z4⟩ := X2.out.below hbw
        by_cases hlt : k < nf
        · obtain ⟨u, hu⟩ := getN HNF.out hlt
          have hbt := H2.out.trans (hbw.mono H2.out.size)
          obtain ⟨g3, o3, pp, pc, ap, ac, bp, bc, rfl, hc1, c0, c1, c2, c3, hl1, l0⟩ := gr_at2 HF.out hbt hu
          obtain ⟨g4, o4, pp2, pc2, ap2, ac2, bp2, bc2, rfl, hc2, d0, d1, d2, d3, hl2, l1⟩ := gr_at2 HF2.out hbt hu
          have k0 : (0 : Int) ≤ k := by omega
          have k1 : (k : Int) < nf := by omega
          have k2 : (nf : Int) ≤ fc := by have := HNF.out; omega
          have k3 : (nf : Int) ≤ fc2 := by have := HNF.out; omega
          have HS := Lib.hid (sameGraph_any u _ _ _ _ _ _ wr.drew (hl1.below (Below.refl _ _).drew) (hl2.below (Below.refl _ _).drew))
          unfold grV at HS
          have q00 : ∀ t d e r, (({ heap := wr.heap, tape := t, drawn := d, os := e, output := r } : World)).cell? ⟨g3, o3 + k * 4, none⟩ = some (.slice pp u.params.length pc) := fun _ _ _ _ => c0
          have q01 : ∀ t d e r, (({ heap := wr.heap, tape := t, drawn := d, os := e, output := r } : World)).cell? ⟨g3, o3 + k * 4 + 1, none⟩ = some (.int .i64 u.temps) := fun _ _ _ _ => c1
          have q02 : ∀ t d e r, (({ heap := wr.heap, tape := t, drawn := d, os := e, output := r } : World)).cell? ⟨g3, o3 + k * 4 + 2, none⟩ = some (.slice ap u.arrays.length ac) := fun _ _ _ _ => c2
          have q03 : ∀ t d e r, (({ heap := wr.heap, tape := t, drawn := d, os := e, output := r } : World)).cell? ⟨g3, o3 + k * 4 + 3, none⟩ = some (.slice bp u.blocks.length bc) := fun _ _ _ _ => c3
          have s0 : ∀ t d e r, g3 < (({ heap := wr.heap, tape := t, drawn := d, os := e, output := r } : World)).heap.size := fun _ _ _ _ => l0
          have q10 : ∀ t d e r, (({ heap := wr.heap, tape := t, drawn := d, os := e, output := r } : World)).cell? ⟨g4, o4 + k * 4, none⟩ = some (.slice pp2 u.params.length pc2) := fun _ _ _ _ => d0
          have q11 : ∀ t d e r, (({ heap := wr.heap, tape := t, drawn := d, os := e, output := r } : World)).cell? ⟨g4, o4 + k * 4 + 1, none⟩ = some (.int .i64 u.temps) := fun _ _ _ _ => d1
          have q12 : ∀ t d e r, (({ heap := wr.heap, tape := t, drawn := d, os := e, output := r } : World)).cell? ⟨g4, o4 + k * 4 + 2, none⟩ = some (.slice ap2 u.arrays.length ac2) := fun _ _ _ _ => d2
          have q13 : ∀ t d e r, (({ heap := wr.heap, tape := t, drawn := d, os := e, output := r } : World)).cell? ⟨g4, o4 + k * 4 + 3, none⟩ = some (.slice bp2 u.blocks.length bc2) := fun _ _ _ _ => d3
          have s1 : ∀ t d e r, g4 < (({ heap := wr.heap, tape := t, drawn := d, os := e, output := r } : World)).heap.size := fun _ _ _ _ => l1
          have b0 : ∀ t d e r, (({ heap := wr.heap, tape := t, drawn := d, os := e, output := r } : World)).cell? ⟨w.heap.size, 2, none⟩ = some (.slice (some ⟨g3, o3, none⟩) nf fc) := fun _ _ _ _ => y3
          have b1 : ∀ t d e r, (({ heap := wr.heap, tape := t, drawn := d, os := e, output := r } : World)).cell? ⟨w.heap.size + 1, 2, none⟩ = some (.slice (some ⟨g4, o4, none⟩) nf fc2) := fun _ _ _ _ => z3
          have s2 : ∀ t d e r, w.heap.size < (({ heap := wr.heap, tape := t, drawn := d, os := e, output := r } : World)).heap.size := fun _ _ _ _ => y0
          have s3 : ∀ t d e r, w.heap.size + 1 < (({ heap := wr.heap, tape := t, drawn := d, os := e, output := r } : World)).heap.size := fun _ _ _ _ => z0
          clear hu hbw hbt hc1 hc2 hl1 hl2 c0 c1 c2 c3 d0 d1 d2 d3
          go_upto_region 11 with (fail)
          go_still_tail 10, (by kernel_rfl)
          change wpList _ _ _ _ _ (World.drew wr)
          clear q00 q01 q02 q03 q10 q11 q12 q13 b0 b1 s0 s1 s2 s3
          go_wp2_with (
            go_at_call 33
            refine HS.out.mono ?_
            rintro e w6 ⟨rfl, hb6⟩
            have H6 := Lib.hid (HBW2.out.drew.trans (hb6.mono HBW2.out.size))
            clear hb6)
          exact ⟨⟨k + 1, Nat.succ_le_of_lt hlt, by go_num, H6.out⟩, by simp [intOf]; omega⟩
        · obtain rfl : k = nf := by omega
          clear hbw
          go_wp2
          go_ret
          exact ⟨rfl, H2.out.trans (HBW2.out.mono H2.out.size)⟩
end Go.Proofs.Ytacbfjinellonaa.Graph
