/- Two instructions that lie as the same one are the same; two ends. -/
import Derived.Test.YtacbfjinellonaaIa
import Derived.Test.YtacbfjinellonaaHd
namespace Go.Proofs.Ytacbfjinellonaa.Graph
open Go.RowKit

theorem two_sz0 (w : World) (a b : Obj) : w.heap.size < ((w.alloc a).alloc b).heap.size := by rw [World.size_alloc, World.size_alloc]; omega
theorem two_sz1 (w : World) (a b : Obj) : w.heap.size + 1 < ((w.alloc a).alloc b).heap.size := by rw [World.size_alloc, World.size_alloc]; omega
set_option maxHeartbeats 4000000 in
set_option maxRecDepth 100000 in
theorem sameIns_any (x : PIns) (va vr va2 vr2 : Value) (w : World) (h : InsL w va vr x) (h2 : InsL w va2 vr2 x) :
    Calls Try.prog 64 #[insV x va vr, insV x va2 vr2] w (Is (.bool true) w) := by
  have HA := Lib.hid (fun (wx : World) (hx : Below w.heap.size w wx) => ints_any x.args x.args va va2 wx (h.args.below hx) (h2.args.below hx))
  have HR := Lib.hid (fun (wx : World) (hx : Below w.heap.size w wx) => ints_any x.arrs x.arrs vr vr2 wx (h.arrs.below hx) (h2.arrs.below hx))
  obtain ⟨pa, ca, rfl⟩ := h.args.form
  obtain ⟨pr, cr, rfl⟩ := h.arrs.form
  obtain ⟨pb, cb, rfl⟩ := h2.args.form
  obtain ⟨ps, cs, rfl⟩ := h2.arrs.form
  have t1 : decide (x.args = x.args) = true := decide_eq_true rfl
  have t2 : decide (x.arrs = x.arrs) = true := decide_eq_true rfl
  rw [t1] at HA
  rw [t2] at HR
  obtain ⟨op, d, a, b, f, n, args, arrs⟩ := x
  simp only at *
  unfold insV
  clear h h2 t1 t2
  go_enter Try.func64, Try.ntmps64
  go_wp2_with (first
    | (
      go_at_call 16
      have hh := H2.out
      refine (HR.out _ hh).mono ?_
      rintro e w3 ⟨rfl, hb3⟩
      have H3 := Lib.hid (below_then H2.out hb3)
      clear hb3 hh)
    | (
      go_at_call 16
      refine (HA.out _ (below2 w _ _)).mono ?_
      rintro e w2 ⟨rfl, hb2⟩
      have d0 : w2.cell? ⟨w.heap.size, 7, none⟩ = some (.slice pr arrs.length cr) := by rw [hb2.cell (two_sz0 w _ _)]; go_simp
      have d1 : w2.cell? ⟨w.heap.size + 1, 7, none⟩ = some (.slice ps arrs.length cs) := by rw [hb2.cell (two_sz1 w _ _)]; go_simp
      have l0 : w.heap.size + 1 < w2.heap.size := Nat.lt_of_lt_of_le (two_sz1 w _ _) hb2.size
      have H2 := Lib.hid (below_then (below2 w _ _) hb2)
      clear hb2))
  go_ret
  exact ⟨rfl, H3.out⟩
set_option maxHeartbeats 4000000 in
set_option maxRecDepth 100000 in
theorem sameEnd_any (x : PEnd) (vc vt vc2 vt2 : Value) (w : World) (h : EndL w vc vt x) (h2 : EndL w vc2 vt2 x) :
    Calls Try.prog 63 #[endV x vc vt, endV x vc2 vt2] w (Is (.bool true) w) := by
  have HA := Lib.hid (fun (wx : World) (hx : Below w.heap.size w wx) => ints_any x.targets x.targets vt vt2 wx (h.targets.below hx) (h2.targets.below hx))
  have HC := Lib.hid h.cases
  have HC2 := Lib.hid h2.cases
  obtain ⟨pc, cc, rfl⟩ := h.cases.form
  obtain ⟨pt, ct, rfl⟩ := h.targets.form
  obtain ⟨pd, cd, rfl⟩ := h2.cases.form
  obtain ⟨pu, cu, rfl⟩ := h2.targets.form
  have t1 : decide (x.targets = x.targets) = true := decide_eq_true rfl
  rw [t1] at HA
  obtain ⟨kd, op, a, b, n, dst, els, cases, targets⟩ := x
  simp only at *
  obtain ⟨m, hm⟩ : ∃ m, m = cases.length := ⟨_, rfl⟩
  have HM := Lib.hid hm
  have b3 : m ≤ 9223372036854775807 := by
    rcases HC.out with ⟨h0, _⟩ | ⟨_, _, _, _, _, hc, _⟩
    · show m ≤ _; omega
    · show m ≤ _; omega
  have b4 : (m : Int) ≤ 9223372036854775807 := by omega
  unfold endV
  rw [← hm]
  clear h h2 t1 hm
  go_enter Try.func63, Try.ntmps63
  go_wp2_with (
      go_at_call 16
      refine (HA.out _ (below2 w _ _)).mono ?_
      rintro e w2 ⟨rfl, hb2⟩
      have d0 : w2.cell? ⟨w.heap.size, 7, none⟩ = some (.slice pc m cc) := by rw [hb2.cell (two_sz0 w _ _)]; go_simp
      have d1 : w2.cell? ⟨w.heap.size + 1, 7, none⟩ = some (.slice pd m cd) := by rw [hb2.cell (two_sz1 w _ _)]; go_simp
      have l0 : w.heap.size + 1 < w2.heap.size := Nat.lt_of_lt_of_le (two_sz1 w _ _) hb2.size
      have H2 := Lib.hid (below_then (below2 w _ _) hb2)
      clear hb2)
  go_loopw [5] (fun i wr => ∃ k : Nat, k ≤ m ∧ i = .int .i64 k ∧ Below w2.heap.size w2 wr) (fun i _ => m - (intOf i).toNat)
  case atStart => exact ⟨0, Nat.zero_le _, rfl, Below.refl _ _⟩
  case round =>
    obtain ⟨k, hk, rfl, hbw⟩ := hrel
    have e0 := (hbw.cell (p := ⟨w.heap.size, 7, none⟩) (Nat.lt_of_succ_lt l0)).trans d0
    have e1 := (hbw.cell (p := ⟨w.heap.size + 1, 7, none⟩) l0).trans d1
    have l1 : w.heap.size + 1 < wr.heap.size := Nat.lt_of_lt_of_le l0 hbw.size
    by_cases hlt : k < m
    · obtain ⟨t, ht⟩ := getN HM.out hlt
      obtain ⟨g, o, cap, hv, hcap, hgl, hcell⟩ := SlR.form2 HC.out (by have := HM.out; show 0 < cases.length; omega)
      obtain ⟨g2, o2, cap2, hv2, hcap2, hgl2, hcell2⟩ := SlR.form2 HC2.out (by have := HM.out; show 0 < cases.length; omega)
      injection hv with hv hvn hvc
      injection hv2 with hv2 hvn2 hvc2
      clear hvn hvn2
      subst hv hvc hv2 hvc2
      obtain ⟨c0, c1⟩ := hcell k (by have := HM.out; show k < cases.length; omega) t ht
      obtain ⟨f0, f1⟩ := hcell2 k (by have := HM.out; show k < cases.length; omega) t ht
      have hb := H2.out.trans (hbw.mono H2.out.size)
      replace c0 := (hb.cell (p := ⟨g, o + k * 2, none⟩) hgl).trans c0
      replace c1 := (hb.cell (p := ⟨g, o + k * 2 + 1, none⟩) hgl).trans c1
      replace f0 := (hb.cell (p := ⟨g2, o2 + k * 2, none⟩) hgl2).trans f0
      replace f1 := (hb.cell (p := ⟨g2, o2 + k * 2 + 1, none⟩) hgl2).trans f1
      have l2 : g < wr.heap.size := Nat.lt_of_lt_of_le hgl hb.size
      have l3 : g2 < wr.heap.size := Nat.lt_of_lt_of_le hgl2 hb.size
      have k0 : (0 : Int) ≤ k := by omega
      have k1 : (k : Int) < m := by omega
      have k2 : (m : Int) ≤ cc := by have := HM.out; have := hcap.1; omega
      have k3 : (m : Int) ≤ cd := by have := HM.out; have := hcap2.1; omega
      have HBW := Lib.hid hbw
      clear ht hbw hb hcap hcap2 hcell hcell2
      go_wp2
      go_quiet (fail)
      go_wp2
      exact ⟨⟨k + 1, Nat.succ_le_of_lt hlt, by go_num, below_drew HBW.out nq⟩, by simp [intOf]; omega⟩
    · obtain rfl : k = m := by omega
      have HBW := Lib.hid (H2.out.trans (hbw.mono H2.out.size))
      clear hbw
      go_wp2
      go_ret
      exact ⟨rfl, HBW.out⟩
end Go.Proofs.Ytacbfjinellonaa.Graph
