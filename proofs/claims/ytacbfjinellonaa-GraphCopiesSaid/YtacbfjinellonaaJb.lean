/- Two graphs that lie as the same one are the same. -/
import Derived.Test.YtacbfjinellonaaJa
import Derived.StillTailTactics
namespace Go.Proofs.Ytacbfjinellonaa.Graph
open Go.RowKit

theorem sl_len {w : World} {sz : Nat} {v : Value} {n : Nat} {P : Nat → Nat → Nat → Prop} (h : SlR w sz v n P) : n ≤ 9223372036854775807 := by
  rcases h with ⟨h0, _⟩ | ⟨_, _, _, _, _, hc, _⟩
  · omega
  · omega
theorem sl_len2 {w : World} {sz : Nat} {p : Option Addr} {n m c : Nat} {P : Nat → Nat → Nat → Prop} (h : SlR w sz (.slice p m c) n P) (h0 : 0 < n) : n ≤ c := by
  rcases h with ⟨h1, _⟩ | ⟨_, _, _, hv, _, hc, _⟩
  · omega
  · injection hv with _ _ hv; omega
/-- A graph's array at a place, in a later world. -/
theorem arr_at {w wr : World} {p : Option Addr} {m c : Nat} {l : List PArr} (h : ArrsR w (.slice p m c) l) (hb : Below w.heap.size w wr) {k : Nat} {t : PArr} (ht : l[k]? = some t) :
    ∃ g o, p = some ⟨g, o, none⟩ ∧ l.length ≤ c ∧ wr.cell? ⟨g, o + k * 2, none⟩ = some (.int .i64 t.kind) ∧ wr.cell? ⟨g, o + k * 2 + 1, none⟩ = some (.int .i64 t.n) ∧ g < wr.heap.size := by
  have hk : k < l.length := by
    rcases Nat.lt_or_ge k l.length with h | h
    · exact h
    · rw [List.getElem?_eq_none h] at ht; cases ht
  obtain ⟨g, o, cap, hv, hcap, hgl, hcell⟩ := SlR.form2 h (by omega)
  injection hv with hv _ hc
  subst hv hc
  obtain ⟨c0, c1⟩ := hcell k hk t ht
  exact ⟨g, o, rfl, hcap.1, (hb.cell (p := ⟨g, o + k * 2, none⟩) hgl).trans c0, (hb.cell (p := ⟨g, o + k * 2 + 1, none⟩) hgl).trans c1, Nat.lt_of_lt_of_le hgl hb.size⟩
theorem ins_at {w wr : World} {p : Option Addr} {m c : Nat} {l : List PIns} (h : CodeR w (.slice p m c) l) (hb : Below w.heap.size w wr) {k : Nat} {t : PIns} (ht : l[k]? = some t) :
    ∃ g o pa ca pr cr, p = some ⟨g, o, none⟩ ∧ l.length ≤ c ∧ InsR wr g (o + k * 8) t (.slice pa t.args.length ca) (.slice pr t.arrs.length cr) ∧ g < wr.heap.size := by
  have hk : k < l.length := by
    rcases Nat.lt_or_ge k l.length with h | h
    · exact h
    · rw [List.getElem?_eq_none h] at ht; cases ht
  obtain ⟨g, o, cap, hv, hcap, hgl, hcell⟩ := SlR.form2 h (by omega)
  injection hv with hv _ hc
  subst hv hc
  obtain ⟨va, vr, hi⟩ := hcell k hk t ht
  obtain ⟨pa, ca, rfl⟩ := hi.l.args.form
  obtain ⟨pr, cr, rfl⟩ := hi.l.arrs.form
  exact ⟨g, o, pa, ca, pr, cr, rfl, hcap.1, hi.below hgl hb, Nat.lt_of_lt_of_le hgl hb.size⟩
theorem blk_at2 {w wr : World} {p : Option Addr} {m c : Nat} {l : List PBlk} (h : BlksR w (.slice p m c) l) (hb : Below w.heap.size w wr) {k : Nat} {t : PBlk} (ht : l[k]? = some t) :
    ∃ g o pk ck pc cc pt ct, p = some ⟨g, o, none⟩ ∧ l.length ≤ c ∧ BlkC wr g (o + k * 10) t (.slice pk t.code.length ck) (.slice pc t.fin.cases.length cc) (.slice pt t.fin.targets.length ct) ∧
    CodeR wr (.slice pk t.code.length ck) t.code ∧ EndL wr (.slice pc t.fin.cases.length cc) (.slice pt t.fin.targets.length ct) t.fin ∧ g < wr.heap.size := by
  have hk : k < l.length := by
    rcases Nat.lt_or_ge k l.length with h | h
    · exact h
    · rw [List.getElem?_eq_none h] at ht; cases ht
  obtain ⟨g, o, cap, hv, hcap, hgl, hcell⟩ := SlR.form2 h (by omega)
  injection hv with hv _ hc
  subst hv hc
  obtain ⟨pk, ck, pc, cc, pt, ct, h1, h2, h3, h4⟩ := blk_at (n := m) h hb ht
  exact ⟨g, o, pk, ck, pc, cc, pt, ct, rfl, hcap.1, h1, h2, h3, h4⟩
set_option maxHeartbeats 8000000 in
set_option maxRecDepth 100000 in
theorem sameGraph_any (x : PGr) (vp va vb vp2 va2 vb2 : Value) (w : World) (h : GrL w vp va vb x) (h2 : GrL w vp2 va2 vb2 x) :
    Calls Try.prog 33 #[grV x vp va vb, grV x vp2 va2 vb2] w (Is (.bool true) w) := by
  have HP := Lib.hid (fun (wx : World) (hx : Below w.heap.size w wx) => ints_any x.params x.params vp vp2 wx (h.params.below hx) (h2.params.below hx))
  have n1 := sl_len h.arrays
  have n2 := sl_len h.blocks
  have HA := Lib.hid h.arrays
  have HA2 := Lib.hid h2.arrays
  have HB := Lib.hid h.blocks
  have HB2 := Lib.hid h2.blocks
  obtain ⟨pp, pc, rfl⟩ := h.params.form
  obtain ⟨ap, ac, rfl⟩ := h.arrays.form
  obtain ⟨bp, bc, rfl⟩ := h.blocks.form
  obtain ⟨qp, qc, rfl⟩ := h2.params.form
  obtain ⟨cp, cc, rfl⟩ := h2.arrays.form
  obtain ⟨dp, dc, rfl⟩ := h2.blocks.form
  have t1 : decide (x.params = x.params) = true := decide_eq_true rfl
  rw [t1] at HP
  obtain ⟨params, temps, arrays, blocks⟩ := x
  simp only at *
  obtain ⟨na, hna⟩ : ∃ n, n = arrays.length := ⟨_, rfl⟩
  obtain ⟨nb, hnb⟩ : ∃ n, n = blocks.length := ⟨_, rfl⟩
  have HNA := Lib.hid hna
  have HNB := Lib.hid hnb
  rw [← hna] at n1
  rw [← hnb] at n2
  have n3 : (na : Int) ≤ 9223372036854775807 := by omega
  have n4 : (nb : Int) ≤ 9223372036854775807 := by omega
  unfold grV
  rw [← hna, ← hnb]
  clear h h2 t1 hna hnb
  go_enter Try.func33, Try.ntmps33
  go_wp2_with (
      go_at_call 16
      refine (HP.out _ (below2 w _ _)).mono ?_
      rintro e w2 ⟨rfl, hb2⟩
      have B1 : Box4 w2 w.heap.size (.slice pp params.length pc) (.int .i64 temps) (.slice ap na ac) (.slice bp nb bc) := Box4.below ⟨by go_simp, by go_simp, by go_simp, by go_simp, by go_simp⟩ hb2
      have B2 : Box4 w2 (w.heap.size + 1) (.slice qp params.length qc) (.int .i64 temps) (.slice cp na cc) (.slice dp nb dc) := Box4.below ⟨by go_simp, by go_simp, by go_simp, by go_simp, by go_simp⟩ hb2
      have X1 := Lib.hid B1
      have X2 := Lib.hid B2
      have H2 := Lib.hid (below_then (below2 w _ _) hb2)
      obtain ⟨y0, y1, y2, y3, y4⟩ := B1
      obtain ⟨z0, z1, z2, z3, z4⟩ := B2
      clear hb2)
  go_loopw [5] (fun i wr => ∃ k : Nat, k ≤ na ∧ i = .int .i64 k ∧ Below w2.heap.size w2 wr) (fun i _ => na - (intOf i).toNat)
  case atStart => exact ⟨0, Nat.zero_le _, rfl, Below.refl _ _⟩
  case round =>
    obtain ⟨k, hk, rfl, hbw⟩ := hrel
    have HBW := Lib.hid hbw
    clear y0 y1 y2 y3 y4 z0 z1 z2 z3 z4
    obtain ⟨y0, y1, y2, y3, y4⟩ := X1.out.below hbw
    obtain ⟨z0, z1, z2, z3, z4⟩ := X2.out.below hbw
    by_cases hlt : k < na
    · obtain ⟨t, ht⟩ := getN HNA.out hlt
      obtain ⟨g, o, rfl, hc1, c0, c1, l0⟩ := arr_at HA.out (H2.out.trans (hbw.mono H2.out.size)) ht
      obtain ⟨g2, o2, rfl, hc2, d0, d1, l1⟩ := arr_at HA2.out (H2.out.trans (hbw.mono H2.out.size)) ht
      have k0 : (0 : Int) ≤ k := by omega
      have k1 : (k : Int) < na := by omega
      have k2 : (na : Int) ≤ ac := by have := HNA.out; omega
      have k3 : (na : Int) ≤ cc := by have := HNA.out; omega
      clear ht hbw hc1 hc2
      go_wp2
      go_quiet (fail)
      go_wp2
      exact ⟨⟨k + 1, Nat.succ_le_of_lt hlt, by go_num, below_drew HBW.out nq⟩, by simp [intOf]; omega⟩
    · obtain rfl : k = na := by omega
      clear hbw
      go_wp2
      rename World => wa
      go_loopw [6] (fun i wr => ∃ k : Nat, k ≤ nb ∧ i = .int .i64 k ∧ Below w2.heap.size w2 wr) (fun i _ => nb - (intOf i).toNat)
      case atStart => exact ⟨0, Nat.zero_le _, rfl, HBW.out⟩
      case round =>
        rename World => wb
        obtain ⟨b, hb, rfl, hbw⟩ := hrel
        have HBW2 := Lib.hid hbw
        clear y0 y1 y2 y3 y4 z0 z1 z2 z3 z4
        obtain ⟨y0, y1, y2, y3, y4⟩ := X1.out.below hbw
        obtain ⟨z0, z1, z2, z3, z4⟩ := X2.out.below hbw
        by_cases hlt : b < nb
        · obtain ⟨t, ht⟩ := getN HNB.out hlt
          have hbt := H2.out.trans (hbw.mono H2.out.size)
          obtain ⟨g, o, pk, ck, px, cx, pt, ct, rfl, hc1, ⟨c0, c1, c2, c3, c4, c5, c6, c7, c8, c9⟩, hk1, he1, l0⟩ := blk_at2 HB.out hbt ht
          obtain ⟨g2, o2, pk2, ck2, px2, cx2, pt2, ct2, rfl, hc2, ⟨d0, d1, d2, d3, d4, d5, d6, d7, d8, d9⟩, hk2, he2, l1⟩ := blk_at2 HB2.out hbt ht
          have k0 : (0 : Int) ≤ b := by omega
          have k1 : (b : Int) < nb := by omega
          have k2 : (nb : Int) ≤ bc := by have := HNB.out; omega
          have k3 : (nb : Int) ≤ dc := by have := HNB.out; omega
          have K1 := Lib.hid hk1
          have K2 := Lib.hid hk2
          have m1 := sl_len hk1
          have HE := Lib.hid (fun (wx : World) (hx : Below wb.heap.size wb wx) => sameEnd_any t.fin _ _ _ _ wx (he1.below hx) (he2.below hx))
          unfold endV at HE
          obtain ⟨code, kd, op, ea, eb, en, dst, els, cases, targets⟩ := t
          simp only at *
          obtain ⟨m, hm⟩ : ∃ n, n = code.length := ⟨_, rfl⟩
          have HM := Lib.hid hm
          rw [← hm] at c0 d0 m1
          have m2 : (m : Int) ≤ 9223372036854775807 := by omega
          clear ht hbw hc1 hc2 hbt hk1 hk2 he1 he2 hm
          go_wp2_with (
            go_at_call 63
            refine (HE.out _ (below2 wb _ _)).mono ?_
            rintro e w4 ⟨rfl, hb4⟩
            have f0 : w4.cell? ⟨wb.heap.size, 0, none⟩ = some (.slice pk m ck) := by rw [hb4.cell (two_sz0 wb _ _)]; go_simp
            have f1 : w4.cell? ⟨wb.heap.size + 1, 0, none⟩ = some (.slice pk2 m ck2) := by rw [hb4.cell (two_sz1 wb _ _)]; go_simp
            have f2 : wb.heap.size + 1 < w4.heap.size := Nat.lt_of_lt_of_le (two_sz1 wb _ _) hb4.size
            have H4 := Lib.hid (below_then (below2 wb _ _) hb4)
            clear hb4)
          go_loopw [9] (fun i wq => ∃ j : Nat, j ≤ m ∧ i = .int .i64 j ∧ Below w4.heap.size w4 wq) (fun i _ => m - (intOf i).toNat)
          case atStart => exact ⟨0, Nat.zero_le _, rfl, Below.refl _ _⟩
          case round =>
            obtain ⟨j, hj, rfl, hbw⟩ := hrel
            have HBQ := Lib.hid hbw
            have e0 := (hbw.cell (p := ⟨wb.heap.size, 0, none⟩) (Nat.lt_of_succ_lt f2)).trans f0
            have e1 := (hbw.cell (p := ⟨wb.heap.size + 1, 0, none⟩) f2).trans f1
            have e2 : wb.heap.size + 1 < wr.heap.size := Nat.lt_of_lt_of_le f2 hbw.size
            clear f0 f1 f2 y0 y1 y2 y3 y4 z0 z1 z2 z3 z4 c0 c1 c2 c3 c4 c5 c6 c7 c8 c9 d0 d1 d2 d3 d4 d5 d6 d7 d8 d9 l0 l1
            by_cases hlj : j < m
            · obtain ⟨u, hu⟩ := getN HM.out hlj
              have hbt := H4.out.trans (hbw.mono H4.out.size)
              obtain ⟨g3, o3, pa, ca, pr, cr, rfl, hc1, hi1, l0⟩ := ins_at K1.out hbt hu
              obtain ⟨g4, o4, pa2, ca2, pr2, cr2, rfl, hc2, hi2, l1⟩ := ins_at K2.out hbt hu
              have k0 : (0 : Int) ≤ j := by omega
              have k1 : (j : Int) < m := by omega
              have k2 : (m : Int) ≤ ck := by have := HM.out; omega
              have k3 : (m : Int) ≤ ck2 := by have := HM.out; omega
              have HS := Lib.hid (sameIns_any u _ _ _ _ wr.drew (hi1.l.below (Below.refl _ _).drew) (hi2.l.below (Below.refl _ _).drew))
              unfold insV at HS
              have q00 : ∀ t d e r, (({ heap := wr.heap, tape := t, drawn := d, os := e, output := r } : World)).cell? ⟨g3, o3 + j * 8, none⟩ = some (.int .i64 u.op) := fun _ _ _ _ => hi1.op
              have q01 : ∀ t d e r, (({ heap := wr.heap, tape := t, drawn := d, os := e, output := r } : World)).cell? ⟨g3, o3 + j * 8 + 1, none⟩ = some (.int .i64 u.d) := fun _ _ _ _ => hi1.d
              have q02 : ∀ t d e r, (({ heap := wr.heap, tape := t, drawn := d, os := e, output := r } : World)).cell? ⟨g3, o3 + j * 8 + 2, none⟩ = some (.int .i64 u.a) := fun _ _ _ _ => hi1.fa
              have q03 : ∀ t d e r, (({ heap := wr.heap, tape := t, drawn := d, os := e, output := r } : World)).cell? ⟨g3, o3 + j * 8 + 3, none⟩ = some (.int .i64 u.b) := fun _ _ _ _ => hi1.fb
              have q04 : ∀ t d e r, (({ heap := wr.heap, tape := t, drawn := d, os := e, output := r } : World)).cell? ⟨g3, o3 + j * 8 + 4, none⟩ = some (.int .i64 u.f) := fun _ _ _ _ => hi1.f
              have q05 : ∀ t d e r, (({ heap := wr.heap, tape := t, drawn := d, os := e, output := r } : World)).cell? ⟨g3, o3 + j * 8 + 5, none⟩ = some (.int .u32 u.n) := fun _ _ _ _ => hi1.n
              have q06 : ∀ t d e r, (({ heap := wr.heap, tape := t, drawn := d, os := e, output := r } : World)).cell? ⟨g3, o3 + j * 8 + 6, none⟩ = some (.slice pa u.args.length ca) := fun _ _ _ _ => hi1.ca
              have q07 : ∀ t d e r, (({ heap := wr.heap, tape := t, drawn := d, os := e, output := r } : World)).cell? ⟨g3, o3 + j * 8 + 7, none⟩ = some (.slice pr u.arrs.length cr) := fun _ _ _ _ => hi1.cr
              have q10 : ∀ t d e r, (({ heap := wr.heap, tape := t, drawn := d, os := e, output := r } : World)).cell? ⟨g4, o4 + j * 8, none⟩ = some (.int .i64 u.op) := fun _ _ _ _ => hi2.op
              have q11 : ∀ t d e r, (({ heap := wr.heap, tape := t, drawn := d, os := e, output := r } : World)).cell? ⟨g4, o4 + j * 8 + 1, none⟩ = some (.int .i64 u.d) := fun _ _ _ _ => hi2.d
              have q12 : ∀ t d e r, (({ heap := wr.heap, tape := t, drawn := d, os := e, output := r } : World)).cell? ⟨g4, o4 + j * 8 + 2, none⟩ = some (.int .i64 u.a) := fun _ _ _ _ => hi2.fa
              have q13 : ∀ t d e r, (({ heap := wr.heap, tape := t, drawn := d, os := e, output := r } : World)).cell? ⟨g4, o4 + j * 8 + 3, none⟩ = some (.int .i64 u.b) := fun _ _ _ _ => hi2.fb
              have q14 : ∀ t d e r, (({ heap := wr.heap, tape := t, drawn := d, os := e, output := r } : World)).cell? ⟨g4, o4 + j * 8 + 4, none⟩ = some (.int .i64 u.f) := fun _ _ _ _ => hi2.f
              have q15 : ∀ t d e r, (({ heap := wr.heap, tape := t, drawn := d, os := e, output := r } : World)).cell? ⟨g4, o4 + j * 8 + 5, none⟩ = some (.int .u32 u.n) := fun _ _ _ _ => hi2.n
              have q16 : ∀ t d e r, (({ heap := wr.heap, tape := t, drawn := d, os := e, output := r } : World)).cell? ⟨g4, o4 + j * 8 + 6, none⟩ = some (.slice pa2 u.args.length ca2) := fun _ _ _ _ => hi2.ca
              have q17 : ∀ t d e r, (({ heap := wr.heap, tape := t, drawn := d, os := e, output := r } : World)).cell? ⟨g4, o4 + j * 8 + 7, none⟩ = some (.slice pr2 u.arrs.length cr2) := fun _ _ _ _ => hi2.cr
              have s0 : ∀ t d e r, g3 < (({ heap := wr.heap, tape := t, drawn := d, os := e, output := r } : World)).heap.size := fun _ _ _ _ => l0
              have s1 : ∀ t d e r, g4 < (({ heap := wr.heap, tape := t, drawn := d, os := e, output := r } : World)).heap.size := fun _ _ _ _ => l1
              have b0 : ∀ t d e r, (({ heap := wr.heap, tape := t, drawn := d, os := e, output := r } : World)).cell? ⟨wb.heap.size, 0, none⟩ = some (.slice (some ⟨g3, o3, none⟩) m ck) := fun _ _ _ _ => e0
              have b1 : ∀ t d e r, (({ heap := wr.heap, tape := t, drawn := d, os := e, output := r } : World)).cell? ⟨wb.heap.size + 1, 0, none⟩ = some (.slice (some ⟨g4, o4, none⟩) m ck2) := fun _ _ _ _ => e1
              have s2 : ∀ t d e r, wb.heap.size < (({ heap := wr.heap, tape := t, drawn := d, os := e, output := r } : World)).heap.size := fun _ _ _ _ => (Nat.lt_of_succ_lt e2)
              have s3 : ∀ t d e r, wb.heap.size + 1 < (({ heap := wr.heap, tape := t, drawn := d, os := e, output := r } : World)).heap.size := fun _ _ _ _ => e2
              have s4 : wb.heap.size < wr.heap.size := Nat.lt_of_succ_lt e2
              clear hu hbw hbt hc1 hc2 hi1 hi2
              go_upto_region 18 with (fail)
              go_still_tail 10, (by kernel_rfl)
              change wpList _ _ _ _ _ (World.drew wr)
              clear q00 q01 q02 q03 q04 q05 q06 q07 q10 q11 q12 q13 q14 q15 q16 q17 b0 b1 s0 s1 s2 s3
              go_wp2_with (
                go_at_call 64
                refine HS.out.mono ?_
                rintro e w6 ⟨rfl, hb6⟩
                have H6 := Lib.hid (HBQ.out.drew.trans (hb6.mono HBQ.out.size))
                clear hb6)
              exact ⟨⟨j + 1, Nat.succ_le_of_lt hlj, by go_num, H6.out⟩, by simp [intOf]; omega⟩
            · obtain rfl : j = m := by omega
              have HZ := Lib.hid (HBW2.out.trans ((below_then H4.out hbw).mono HBW2.out.size))
              clear hbw
              go_wp2
              exact ⟨⟨b + 1, Nat.succ_le_of_lt hlt, by go_num, HZ.out⟩, by simp [intOf]; omega⟩
        · obtain rfl : b = nb := by omega
          clear hbw
          go_wp2
          go_ret
          exact ⟨rfl, H2.out.trans (HBW2.out.mono H2.out.size)⟩
end Go.Proofs.Ytacbfjinellonaa.Graph
