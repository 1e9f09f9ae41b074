/- What is no function's: the program's outside. -/
import Derived.Test.YthaombggdchgbaaGi
namespace Go.Proofs.Ythaombggdchgbaa.Graph
open Go.RowKit

/-- A graph of a list, in a later world. -/
theorem gr_at {w wr : World} {g o cap n : Nat} {l : List PGr} (h : GrsR w (.slice (some ⟨g, o, none⟩) n cap) l) (hb : Below w.heap.size w wr) {k : Nat} {t : PGr} (ht : l[k]? = some t) :
    ∃ pp pc ap ac bp bc, wr.cell? ⟨g, o + k * 4, none⟩ = some (.slice pp t.params.length pc) ∧ wr.cell? ⟨g, o + k * 4 + 1, none⟩ = some (.int .i64 t.temps) ∧ wr.cell? ⟨g, o + k * 4 + 2, none⟩ = some (.slice ap t.arrays.length ac) ∧ wr.cell? ⟨g, o + k * 4 + 3, none⟩ = some (.slice bp t.blocks.length bc) ∧
      GrL wr (.slice pp t.params.length pc) (.slice ap t.arrays.length ac) (.slice bp t.blocks.length bc) t ∧ g < wr.heap.size := by
  have hk : k < l.length := by
    rcases Nat.lt_or_ge k l.length with h | h
    · exact h
    · rw [List.getElem?_eq_none h] at ht; cases ht
  obtain ⟨h1, h2⟩ := SlR.at_ h hk
  obtain ⟨vp, va, vb, h3⟩ := h1 t ht
  replace h3 := h3.below h2 hb
  obtain ⟨pp, pc, rfl⟩ := h3.l.params.form
  obtain ⟨ap, ac, rfl⟩ := h3.l.arrays.form
  obtain ⟨bp, bc, rfl⟩ := h3.l.blocks.form
  exact ⟨pp, pc, ap, ac, bp, bc, h3.cp, h3.temps, h3.ca, h3.cb, h3.l, Nat.lt_of_lt_of_le h2 hb.size⟩
def wordB (x : Int) : Bool := decide (1 ≤ x) && decide (x ≤ 1000)
/-- What of a module is seen at once. -/
def startB (m : PMod) : Bool := decide (1 ≤ m.funcs.length) && decide (m.funcs.length ≤ 60) && belowB m.main m.funcs.length && decide (m.globals.length ≤ 200) && decide (m.arrays.length ≤ 200)
theorem whole_eq (m : PMod) : wholeB m = (startB m && m.arrays.all wordB && decide (sumI m.arrays ≤ 10000) && (match m.funcs[m.main.toNat]? with | some g => decide (g.params.length = 0) && decide (apN g.arrays = 0) | none => false)) := rfl
theorem sumI_take {l : List Int} {k : Nat} {t : Int} (ht : l[k]? = some t) : sumI (l.take (k + 1)) = sumI (l.take k) + t := by
  rw [List.take_add_one, ht, Option.toList_some, sum_snoc]
theorem start_no {m : PMod} (h : startB m = false) : wholeB m = false := by rw [whole_eq, h]; rfl
theorem start_n0 {m : PMod} (h : m.funcs.length = 0) : startB m = false := by unfold startB; rw [decide_eq_false (show ¬ 1 ≤ m.funcs.length by omega)]; rfl
theorem start_n1 {m : PMod} (h : 60 < m.funcs.length) : startB m = false := by unfold startB; rw [decide_eq_false (show ¬ m.funcs.length ≤ 60 by omega), Bool.and_false]; rfl
theorem start_b {m : PMod} (h : belowB m.main m.funcs.length = false) : startB m = false := by unfold startB; rw [h, Bool.and_false]; rfl
theorem start_g {m : PMod} (h : 200 < m.globals.length) : startB m = false := by unfold startB; rw [decide_eq_false (show ¬ m.globals.length ≤ 200 by omega), Bool.and_false]; rfl
theorem start_a {m : PMod} (h : 200 < m.arrays.length) : startB m = false := by unfold startB; rw [decide_eq_false (show ¬ m.arrays.length ≤ 200 by omega), Bool.and_false]
theorem start_yes {m : PMod} (h1 : ¬ m.funcs.length = 0) (h2 : m.funcs.length ≤ 60) (h3 : belowB m.main m.funcs.length = true) (h4 : m.globals.length ≤ 200) (h5 : m.arrays.length ≤ 200) : startB m = true := by
  unfold startB; rw [decide_eq_true (show 1 ≤ m.funcs.length by omega), decide_eq_true h2, h3, decide_eq_true h4, decide_eq_true h5]; rfl
def outE (m : PMod) : Int := if wholeB m then 0 else 56
set_option maxHeartbeats 4000000 in
set_option maxRecDepth 100000 in
theorem outside_any (M : PMod) (vg vr vf : Value) (w : World) (hM : ModL w vg vr vf M) :
    Calls Try.prog 14 #[modV M vg vr vf] w (Is (.int .i64 (outE M)) w) := by
  have HM := hM
  obtain ⟨gp, gc, rfl⟩ := hM.globals.form
  obtain ⟨fp, fc, rfl⟩ := hM.funcs.form
  have hF := Lib.hid HM.funcs
  have hA := Lib.hid HM.arrays
  obtain ⟨rp, rc, rfl⟩ := hM.arrays.form
  have hE : startB M = false → outE M = 56 := fun h => by unfold outE; rw [start_no h]; rfl
  have HE := Lib.hid hE
  unfold modV
  clear hM HM hE
  by_cases q0 : M.funcs.length = 0
  · have HV := Lib.hid (HE.out (start_n0 q0))
    rw [q0]
    go_enter Try.func14, Try.ntmps14
    go_wp2
    go_ret
    exact ⟨by rw [HV.out]; rfl, below_alloc w _⟩
  obtain ⟨nf, hnf⟩ : ∃ n, n = M.funcs.length := ⟨_, rfl⟩
  have p0 : (0 : Int) < nf := by omega
  have e0 : ((nf : Int) == 0) = false := by simp; omega
  by_cases q1 : 60 < M.funcs.length
  · have HV := Lib.hid (HE.out (start_n1 q1))
    have p1 : (60 : Int) < nf := by omega
    rw [← hnf]
    clear hnf q0 q1
    go_enter Try.func14, Try.ntmps14
    go_wp2
    go_ret
    exact ⟨by rw [HV.out]; rfl, below_alloc w _⟩
  have p1 : (nf : Int) ≤ 60 := by omega
  have HB := Lib.hid (fun w => below_any M.main nf w)
  by_cases q2 : belowB M.main nf = true
  case neg =>
    have HV := Lib.hid (HE.out (start_b (by rw [← hnf]; simpa using q2)))
    have q3 : belowB M.main nf = false := by simpa using q2
    rw [q3] at HB
    rw [← hnf]
    clear hnf q0 q1 q2 q3
    go_enter Try.func14, Try.ntmps14
    go_wp2_with (go_at_call 30; refine (HB.out _).mono ?_; rintro e w2 ⟨rfl, h2⟩; have H2 := Lib.hid h2; clear h2)
    go_ret
    exact ⟨by rw [HV.out]; rfl, by rw [H2.out]; exact below_alloc w _⟩
  rw [q2] at HB
  by_cases q3 : 200 < M.globals.length
  · have HV := Lib.hid (HE.out (start_g q3))
    have p2 : (200 : Int) < M.globals.length := by omega
    rw [← hnf]
    clear hnf q0 q1 q2 q3
    go_enter Try.func14, Try.ntmps14
    go_wp2_with (go_at_call 30; refine (HB.out _).mono ?_; rintro e w2 ⟨rfl, h2⟩; subst h2)
    go_ret
    exact ⟨by rw [HV.out]; rfl, below_alloc w _⟩
  by_cases q4 : 200 < M.arrays.length
  · have HV := Lib.hid (HE.out (start_a q4))
    have p2 : (M.globals.length : Int) ≤ 200 := by omega
    have p3 : (200 : Int) < M.arrays.length := by omega
    rw [← hnf]
    clear hnf q0 q1 q2 q3 q4
    go_enter Try.func14, Try.ntmps14
    go_wp2_with (go_at_call 30; refine (HB.out _).mono ?_; rintro e w2 ⟨rfl, h2⟩; subst h2)
    go_ret
    exact ⟨by rw [HV.out]; rfl, below_alloc w _⟩
  have hst : startB M = true := start_yes q0 (by omega) (by rw [← hnf]; exact q2) (by omega) (by omega)
  have hE2 : outE M = if M.arrays.all wordB && decide (sumI M.arrays ≤ 10000) && (match M.funcs[M.main.toNat]? with | some g => decide (g.params.length = 0) && decide (apN g.arrays = 0) | none => false) then 0 else 56 := by
    unfold outE; rw [whole_eq, hst, Bool.true_and]
  have b1 : 0 ≤ M.main ∧ M.main < nf := by simpa [belowB] using q2
  obtain ⟨mn, hmn⟩ : ∃ m, m = M.main := ⟨_, rfl⟩
  obtain ⟨i0, i1⟩ := b1
  have p2 : (M.globals.length : Int) ≤ 200 := by omega
  obtain ⟨l, hl⟩ : ∃ l, l = M.arrays := ⟨_, rfl⟩
  obtain ⟨t, ht⟩ : ∃ t, M.funcs[M.main.toNat]? = some t := ⟨_, List.getElem?_eq_getElem (by omega)⟩
  rw [ht] at hE2
  obtain ⟨g, o, cap, hv, hcap, hgl, _⟩ := SlR.form2 hF.out (by omega)
  injection hv with hv hv1 hv2
  subst hv hv2
  have HGR := Lib.hid (fun (wr : World) (hb : Below w.heap.size w wr) => gr_at hF.out hb ht)
  rw [← hnf] at hcap
  rw [← hmn] at i0 i1 HB HGR
  rw [← hl] at q4 hE2 hA
  rw [← hmn, ← hnf, ← hl]
  obtain ⟨n, hN⟩ : ∃ n, n = l.length := ⟨_, rfl⟩
  have hn2 : n ≤ 200 := by omega
  have p3 : (n : Int) ≤ 200 := by omega
  rw [← hN] at hA
  rw [← hN]
  have HN := Lib.hid hN
  have HE2 := Lib.hid hE2
  obtain ⟨m1, m2⟩ := hcap
  clear hnf q0 q1 q2 q3 q4 hst hmn hl ht hF hN hE2 HE
  go_enter Try.func14, Try.ntmps14
  go_wp2_with (go_at_call 30; refine (HB.out _).mono ?_; rintro e w2 ⟨rfl, h2⟩; subst h2)
  go_loopw [3, 39] (fun s i wr => ∃ k : Nat, k ≤ n ∧ s = .int .i64 (sumI (l.take k)) ∧ i = .int .i64 k ∧ Hid ((l.take k).all wordB = true) ∧ (0 ≤ sumI (l.take k) ∧ sumI (l.take k) ≤ 1000 * k) ∧ Below w.heap.size w wr ∧
    Box4 wr w.heap.size (.slice gp M.globals.length gc) (.slice rp n rc) (.slice (some ⟨g, o, none⟩) nf fc) (.int .i64 mn)) (fun _ i _ => n - (intOf i).toNat)
  case atStart => exact ⟨0, Nat.zero_le _, rfl, rfl, Lib.hid rfl, by simp [sumI], by go_simp; exact below_alloc w _, by go_simp, by go_simp, by go_simp, by go_simp, by go_simp⟩
  case round =>
    obtain ⟨k, hk, rfl, rfl, HD, ⟨hs0, hs1⟩, hbw, hbm⟩ := hrel
    have HBM := Lib.hid hbm
    obtain ⟨y0, y1, y2, y3, y4⟩ := hbm
    have HBW := Lib.hid hbw
    obtain ⟨s, hs⟩ : ∃ s, s = sumI (l.take k) := ⟨_, rfl⟩
    by_cases hlt : k < n
    · obtain ⟨u, hu⟩ := getN HN.out hlt
      obtain ⟨g1, o1, c1, hv, hc1, hg1, hcell⟩ := SlR.form2 hA.out (by have := HN.out; omega)
      injection hv with hv hvn hv2
      clear hvn
      subst hv hv2
      have c0 := (hbw.cell (p := ⟨g1, o1 + k * 1, none⟩) hg1).trans (hcell k (by have := HN.out; omega) u hu)
      rw [Nat.mul_one] at c0
      have l0 : g1 < wr.heap.size := Nat.lt_of_lt_of_le hg1 hbw.size
      have k0 : (0 : Int) ≤ k := by omega
      have k1 : (k : Int) < n := by omega
      have k2 : (n : Int) ≤ rc := by have := HN.out; omega
      have hstop : wordB u = false → l.all wordB = false := fun h => all_stop hu h
      have hgo : wordB u = true → (l.take (k + 1)).all wordB = true := fun h => all_take hu HD.out h
      have HST := Lib.hid hstop
      have HGO := Lib.hid hgo
      have HSN := Lib.hid (sumI_take hu)
      rw [← hs] at hs0 hs1 HSN
      rw [← hs]
      have s2 : s ≤ 200000 := by omega
      have HLE := Lib.hid hs1
      clear hbw hu hstop hgo hs hs1 hcell hc1
      by_cases u0 : u < 1
      · have HW : Hid (wordB u = false) := Lib.hid (by unfold wordB; rw [decide_eq_false (show ¬ 1 ≤ u by omega)]; rfl)
        go_wp2
        go_ret
        exact ⟨by rw [HE2.out, HST.out HW.out]; rfl, HBW.out⟩
      by_cases u1 : 1000 < u
      · have HW : Hid (wordB u = false) := Lib.hid (by unfold wordB; rw [decide_eq_false (show ¬ u ≤ 1000 by omega), Bool.and_false])
        have u2 : 1 ≤ u := by omega
        clear u0
        go_wp2
        go_ret
        exact ⟨by rw [HE2.out, HST.out HW.out]; rfl, HBW.out⟩
      have u2 : 1 ≤ u := by omega
      have u3 : u ≤ 1000 := by omega
      have HW : Hid (wordB u = true) := Lib.hid (by unfold wordB; rw [decide_eq_true u2, decide_eq_true u3]; rfl)
      clear u0 u1
      go_wp2
      have hle := HLE.out
      exact ⟨⟨k + 1, by omega, by rw [HSN.out], by go_num, Lib.hid (HGO.out HW.out), by rw [HSN.out]; omega, HBW.out, HBM.out⟩, by simp [intOf]; omega⟩
    · obtain rfl : k = n := by omega
      obtain ⟨pp, pc, ap, ac, bp, bc, c0, c1, c2, c3, hgl2, l0⟩ := HGR.out wr hbw
      have hall : l.all wordB = true := all_full HN.out HD.out
      rw [← hs] at hs0 hs1
      rw [← hs]
      rw [HN.out, List.take_length] at hs
      have HV : Hid (outE M = if decide (s ≤ 10000) && (decide (t.params.length = 0) && decide (apN t.arrays = 0)) then 0 else 56) := Lib.hid (by rw [HE2.out, hall, ← hs, Bool.true_and])
      have hpar := fun (w' : World) (hb : Below wr.heap.size wr w') => arrayParams_any t _ _ _ w' (hgl2.below hb)
      unfold grV at hpar
      obtain ⟨np, hnp⟩ : ∃ n, n = t.params.length := ⟨_, rfl⟩
      obtain ⟨a, ha⟩ : ∃ n, n = apN t.arrays := ⟨_, rfl⟩
      rw [← hnp] at hpar HV c0
      rw [← ha] at hpar HV
      have HPAR := Lib.hid hpar
      clear hs hall hbw hnp ha hpar hgl2
      by_cases r0 : s ≤ 10000
      case neg =>
        have r1 : 10000 < s := by omega
        clear r0
        go_wp2
        go_ret
        exact ⟨by rw [HV.out, decide_eq_false (show ¬ s ≤ 10000 by omega)]; rfl, HBW.out.alloc HBW.out.size _⟩
      by_cases r1 : np = 0
      case neg =>
        have r2 : (0 : Int) < np := by omega
        have HR1 := Lib.hid r1
        clear r1
        go_wp2
        go_ret
        exact ⟨by rw [HV.out, decide_eq_false HR1.out, Bool.false_and, Bool.and_false]; rfl, HBW.out.alloc HBW.out.size _⟩
      subst r1
      by_cases r2 : a = 0
      · subst r2
        go_wp2_with (go_at_call 31; refine (HPAR.out _ (below_alloc wr _)).mono ?_; rintro e w3 ⟨rfl, h3⟩; have H3 := Lib.hid (below_then (below_alloc wr _) h3); clear h3)
        go_ret
        exact ⟨by rw [HV.out, decide_eq_true r0]; rfl, below_then HBW.out H3.out⟩
      · have r3 : (0 : Int) < a := by omega
        have HR2 := Lib.hid r2
        clear r2
        go_wp2_with (go_at_call 31; refine (HPAR.out _ (below_alloc wr _)).mono ?_; rintro e w3 ⟨rfl, h3⟩; have H3 := Lib.hid (below_then (below_alloc wr _) h3); clear h3)
        go_ret
        exact ⟨by rw [HV.out, decide_eq_false HR2.out, Bool.and_false, Bool.and_false]; rfl, below_then HBW.out H3.out⟩
end Go.Proofs.Ythaombggdchgbaa.Graph
