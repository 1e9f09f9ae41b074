/- A function's arrays: the document's arrays. -/
import Derived.Test.YthaombggdchgbaaGf
namespace Go.Proofs.Ythaombggdchgbaa.Graph
open Go.RowKit

theorem sum_snoc (l : List Int) (x : Int) : sumI (l ++ [x]) = sumI l + x := by
  unfold sumI
  induction l with
  | nil => simp
  | cons a l ih => simp only [List.cons_append, List.foldr_cons, ih]; omega
theorem sum_take {l : List PArr} {k : Nat} {t : PArr} (ht : l[k]? = some t) : sumI ((l.take (k + 1)).map arrW) = sumI ((l.take k).map arrW) + arrW t := by
  rw [List.take_add_one, ht, Option.toList_some, List.map_append, List.map_singleton, sum_snoc]
def arrQ (na q z : Int) : Bool := if q = 1 then belowB z na else if q = 2 then decide (1 ≤ z) && decide (z ≤ 1000) else if q = 3 then decide (z = 0) else false
theorem arrB_eq (m : PMod) (a : PArr) : arrB m a = arrQ m.arrays.length a.kind a.n := rfl
set_option maxHeartbeats 4000000 in
set_option maxRecDepth 100000 in
theorem rarrays_any (M : PMod) (vg vr vf : Value) (x : PGr) (vp va vb : Value) (w : World) (hM : ModL w vg vr vf M) (h : GrL w vp va vb x) :
    Calls Try.prog 20 #[modV M vg vr vf, grV x vp va vb] w (Is (.bool (arraysB M x)) w) := by
  have hpar := fun (wr : World) (hb : Below w.heap.size w wr) => params_any x vp va vb wr (h.below hb)
  obtain ⟨gp, gc, rfl⟩ := hM.globals.form
  obtain ⟨rp, rc, rfl⟩ := hM.arrays.form
  obtain ⟨fp, fc, rfl⟩ := hM.funcs.form
  obtain ⟨pp, pc, rfl⟩ := h.params.form
  obtain ⟨bp, bc, rfl⟩ := h.blocks.form
  have hp := h.arrays
  have hE : arraysB M x = (decide (x.arrays.length ≤ 500) && x.arrays.all (fun a => arrQ M.arrays.length a.kind a.n) && decide (sumI (x.arrays.map arrW) ≤ 1000) && decide (apN x.arrays ≤ 8)) := rfl
  rw [hE]
  unfold modV grV at *
  clear hE h hM
  obtain ⟨l, hl⟩ : ∃ l, l = x.arrays := ⟨_, rfl⟩
  obtain ⟨na, hna⟩ : ∃ na, na = M.arrays.length := ⟨_, rfl⟩
  rw [← hl] at hp hpar
  rw [← hl, ← hna]
  clear hna hl
  rcases hp with ⟨h0, ap, ac, rfl⟩ | ⟨g, o, cap, rfl, hn, hcap, hgl, hc⟩
  · have : l = [] := List.length_eq_zero_iff.1 h0
    subst this
    have HPAR := Lib.hid hpar
    clear h0 hpar
    go_enter Try.func20, Try.ntmps20
    go_wp2
    go_loopw [5, 6] (fun s i wr => s = .int .i64 0 ∧ i = .int .i64 0 ∧ Below w.heap.size w wr ∧ Box4 wr (w.heap.size + 1) (.slice pp x.params.length pc) (.int .i64 x.temps) (.slice ap 0 ac) (.slice bp x.blocks.length bc)) (fun _ _ _ => 0)
    case atStart => exact ⟨rfl, rfl, by go_simp; exact (below_alloc w _).alloc (below_alloc w _).size _, by go_simp, by go_simp, by go_simp, by go_simp, by go_simp⟩
    case round =>
      obtain ⟨rfl, rfl, hbw, z0, z1, z2, z3, z4⟩ := hrel
      have HBW := Lib.hid hbw
      have HP2 := Lib.hid (HPAR.out wr hbw)
      clear hbw
      go_wp2_with (go_at_call 38; refine HP2.out.mono ?_; rintro e w2 ⟨rfl, h2⟩; have H2 := Lib.hid h2; clear h2)
      go_ret
      exact ⟨rfl, HBW.out.trans (H2.out.mono HBW.out.size)⟩
  · obtain ⟨n, hN⟩ : ∃ n, n = l.length := ⟨_, rfl⟩
    rw [← hN] at hn hcap hc hpar
    rw [← hN]
    have HN := Lib.hid hN
    have HC := Lib.hid hc
    have HPAR := Lib.hid hpar
    obtain ⟨m1, m2⟩ := hcap
    have j0 : (0 : Int) < n := by omega
    clear hN hc hpar
    by_cases hbig : n ≤ 500
    · have j1 : (n : Int) ≤ 500 := by omega
      rw [decide_eq_true hbig, Bool.true_and]
      go_enter Try.func20, Try.ntmps20
      go_wp2
      go_loopw [5, 6] (fun s i wr => ∃ k : Nat, k ≤ n ∧ s = .int .i64 (sumI ((l.take k).map arrW)) ∧ i = .int .i64 k ∧ Hid ((l.take k).all (fun a => arrQ na a.kind a.n) = true) ∧ (0 ≤ sumI ((l.take k).map arrW) ∧ sumI ((l.take k).map arrW) ≤ 1000 * k) ∧ Below w.heap.size w wr ∧
        Box4 wr w.heap.size (.slice gp M.globals.length gc) (.slice rp na rc) (.slice fp M.funcs.length fc) (.int .i64 M.main) ∧ Box4 wr (w.heap.size + 1) (.slice pp x.params.length pc) (.int .i64 x.temps) (.slice (some ⟨g, o, none⟩) n cap) (.slice bp x.blocks.length bc)) (fun _ i _ => n - (intOf i).toNat)
      case atStart => exact ⟨0, Nat.zero_le _, rfl, rfl, Lib.hid rfl, by simp [sumI], by go_simp; exact (below_alloc w _).alloc (below_alloc w _).size _, ⟨by go_simp, by go_simp, by go_simp, by go_simp, by go_simp⟩, by go_simp, by go_simp, by go_simp, by go_simp, by go_simp⟩
      case round =>
        obtain ⟨k, hk, rfl, rfl, HD, ⟨hs0, hs1⟩, hbw, hbm, hbg⟩ := hrel
        have HBM := Lib.hid hbm
        have HBG := Lib.hid hbg
        obtain ⟨y0, y1, y2, y3, y4⟩ := hbm
        obtain ⟨z0, z1, z2, z3, z4⟩ := hbg
        have HBW := Lib.hid hbw
        by_cases hlt : k < n
        · obtain ⟨t, ht⟩ := getN HN.out hlt
          obtain ⟨c0, c1⟩ := HC.out k hlt t ht
          replace c0 := (hbw.cell (p := ⟨g, o + k * 2, none⟩) hgl).trans c0
          replace c1 := (hbw.cell (p := ⟨g, o + k * 2 + 1, none⟩) hgl).trans c1
          have l0 : g < wr.heap.size := Nat.lt_of_lt_of_le hgl hbw.size
          have i0 : (0 : Int) ≤ k := by omega
          have i1 : (k : Int) < n := by omega
          have HTt := Lib.hid ht
          have HS := Lib.hid (sum_take ht)
          have hstop : arrQ na t.kind t.n = false → (l.all fun a => arrQ na a.kind a.n) = false := fun h => all_stop (p := fun a => arrQ na a.kind a.n) ht h
          have hgo : arrQ na t.kind t.n = true → ((l.take (k + 1)).all fun a => arrQ na a.kind a.n) = true := fun h => all_take (p := fun a => arrQ na a.kind a.n) ht HD.out h
          have harr : arrW t = if t.kind = 2 then t.n else 0 := rfl
          rw [harr] at HS
          obtain ⟨q, hq⟩ : ∃ q, q = t.kind := ⟨_, rfl⟩
          obtain ⟨z, hz⟩ : ∃ z, z = t.n := ⟨_, rfl⟩
          rw [← hq] at c0 hstop hgo HS
          rw [← hz] at c1 hstop hgo HS
          obtain ⟨s, hs⟩ : ∃ s, s = sumI ((l.take k).map arrW) := ⟨_, rfl⟩
          rw [← hs] at hs0 hs1 HS
          rw [← hs]
          have HST := Lib.hid hstop
          have HGO := Lib.hid hgo
          have s2 : s ≤ 500000 := by omega
          have HB := Lib.hid (fun w => below_any z na w)
          have HRB := Lib.hid (fun w => rbelow_any z na w)
          have HLE := Lib.hid hs1
          clear hbw ht hstop hgo harr hq hz hs hs1
          go_wp2_with (go_at_call 37; refine (HRB.out _).mono ?_; rintro e w2 ⟨rfl, h2⟩; have H2 := Lib.hid h2; clear h2)
          all_goals first
            | (go_ret
               have hf : arrQ na q z = false := by (unfold arrQ; simp_all <;> omega)
               exact ⟨by rw [HST.out hf]; rfl, by first | exact HBW.out.alloc HBW.out.size _ | (rw [H2.out]; exact HBW.out.alloc HBW.out.size _)⟩)
            | (have hf : arrQ na q z = true := by (unfold arrQ; simp_all <;> omega)
               have hv : sumI ((l.take (k + 1)).map arrW) = s + (if q = 2 then z else 0) := HS.out
               have hle := HLE.out
               first
                 | exact ⟨⟨k + 1, by omega, by rw [hv]; simp_all, by go_num, Lib.hid (HGO.out hf), by rw [hv]; split <;> simp_all <;> omega, HBW.out.alloc HBW.out.size _, HBM.out.below (below_alloc wr _), HBG.out.below (below_alloc wr _)⟩, by simp [intOf]; omega⟩
                 | (rw [H2.out]; exact ⟨⟨k + 1, by omega, by rw [hv]; simp_all, by go_num, Lib.hid (HGO.out hf), by rw [hv]; split <;> simp_all <;> omega, HBW.out.alloc HBW.out.size _, HBM.out.below (below_alloc wr _), HBG.out.below (below_alloc wr _)⟩, by simp [intOf]; omega⟩))
        · obtain rfl : k = n := by omega
          have HP2 := Lib.hid (HPAR.out wr hbw)
          have HD2 : Hid ((l.all fun a => arrQ na a.kind a.n) = true) := Lib.hid (all_full HN.out HD.out)
          obtain ⟨s, hs⟩ : ∃ s, s = sumI ((l.take k).map arrW) := ⟨_, rfl⟩
          rw [← hs] at hs0 hs1
          rw [← hs]
          rw [HN.out, List.take_length] at hs
          have HS := Lib.hid hs
          clear hbw hs
          by_cases hsb : s ≤ 1000
          · go_wp2_with (go_at_call 38; refine HP2.out.mono ?_; rintro e w2 ⟨rfl, h2⟩; have H2 := Lib.hid h2; clear h2)
            go_ret
            exact ⟨by rw [HD2.out, ← HS.out, decide_eq_true hsb]; simp; omega, HBW.out.trans (H2.out.mono HBW.out.size)⟩
          · go_wp2
            go_ret
            exact ⟨by rw [HD2.out, ← HS.out, decide_eq_false (show ¬ s ≤ 1000 by omega)]; rfl, HBW.out⟩
    · have j1 : (500 : Int) < n := by omega
      rw [decide_eq_false hbig, Bool.false_and, Bool.false_and, Bool.false_and]
      go_enter Try.func20, Try.ntmps20
      go_wp2
      go_ret
      exact ⟨rfl, (below_alloc w _).alloc (below_alloc w _).size _⟩
end Go.Proofs.Ythaombggdchgbaa.Graph
