/- allBelow; the document's temps and params. -/
import Derived.Test.YthaombggdchgbaaGa
namespace Go.Proofs.Ythaombggdchgbaa.Graph
open Go.RowKit

theorem below_drew {n : Nat} {w w' : World} (h : Below n w w') (m : Nat) : Below n w (w'.drewN m) := ⟨h.1, h.2, h.3, h.4, h.5⟩
theorem all_take {α : Type} {p : α → Bool} {l : List α} {k : Nat} {t : α} (ht : l[k]? = some t) (h : (l.take k).all p = true) (hp : p t = true) : (l.take (k + 1)).all p = true := by
  rw [List.take_add_one, ht, Option.toList_some, List.all_append, h]; simp [hp]
theorem all_stop {α : Type} {p : α → Bool} {l : List α} {k : Nat} {t : α} (ht : l[k]? = some t) (hp : p t = false) : l.all p = false := by
  rw [List.all_eq_false]; exact ⟨t, List.mem_of_getElem? ht, by simp [hp]⟩
theorem all_full {α : Type} {p : α → Bool} {l : List α} {n : Nat} (hn : n = l.length) (h : (l.take n).all p = true) : l.all p = true := by
  rw [hn, List.take_length] at h; exact h
theorem getN {α : Type} {l : List α} {n k : Nat} (hn : n = l.length) (hk : k < n) : ∃ t, l[k]? = some t := ⟨_, List.getElem?_eq_getElem (by rw [← hn]; exact hk)⟩
theorem ap_le (l : List PArr) (k : Nat) : apN (l.take k) ≤ k := by unfold apN; exact Nat.le_trans List.countP_le_length (by simp; omega)
theorem ap_take {l : List PArr} {k : Nat} {t : PArr} (ht : l[k]? = some t) : (apN (l.take (k + 1)) : Int) = apN (l.take k) + (if t.kind = 3 then 1 else 0) := by
  unfold apN
  rw [List.take_add_one, ht, Option.toList_some, List.countP_append]
  simp [List.countP_cons]
  split <;> simp

set_option maxHeartbeats 2000000 in
set_option maxRecDepth 100000 in
theorem allBelow_any (l : List Int) (m : Int) (v : Value) (w : World) (h : IntsR w v l) :
    Calls Try.prog 70 #[v, .int .i64 m] w (Is (.bool (allBelowB l m)) w) := by
  rcases h with ⟨h0, ap, ac, rfl⟩ | ⟨g, o, cap, rfl, hn, hcap, hgl, hc⟩
  · have : l = [] := List.length_eq_zero_iff.1 h0
    subst this
    go_enter Try.func70, Try.ntmps70
    go_wp2
    go_loopw [9] (fun i wr => i = .int .i64 0 ∧ Below w.heap.size w wr) (fun _ _ => 0)
    case atStart => exact ⟨rfl, Below.refl _ _⟩
    case round =>
      obtain ⟨rfl, hbw⟩ := hrel
      go_wp2
      go_ret
      exact ⟨rfl, hbw⟩
  · obtain ⟨n, hN⟩ : ∃ n, n = l.length := ⟨_, rfl⟩
    rw [← hN] at hn hcap hc
    rw [← hN]
    have HN := Lib.hid hN
    have HC := Lib.hid hc
    obtain ⟨m1, m2⟩ := hcap
    have m3 : n ≤ 9223372036854775807 := by omega
    clear hc hN
    go_enter Try.func70, Try.ntmps70
    go_wp2
    go_loopw [9] (fun i wr => ∃ k : Nat, k ≤ n ∧ i = .int .i64 k ∧ Hid ((l.take k).all (belowB · m) = true) ∧ Below w.heap.size w wr) (fun i _ => n - (intOf i).toNat)
    case atStart => exact ⟨0, Nat.zero_le _, rfl, Lib.hid rfl, Below.refl _ _⟩
    case round =>
      obtain ⟨k, hk, rfl, HP, hbw⟩ := hrel
      by_cases hlt : k < n
      · obtain ⟨t, ht⟩ := getN HN.out hlt
        have c0 := (hbw.cell (p := ⟨g, o + k * 1, none⟩) hgl).trans (HC.out k hlt t ht)
        rw [Nat.mul_one] at c0
        have l0 : g < wr.heap.size := Nat.lt_of_lt_of_le hgl hbw.size
        have i0 : (0 : Int) ≤ k := by omega
        have i1 : (k : Int) < n := by omega
        have i2 : (n : Int) ≤ 9223372036854775807 := by omega
        have HT := Lib.hid ht
        have HBW := Lib.hid hbw
        obtain ⟨bb, hbb⟩ : ∃ bb, bb = belowB t m := ⟨_, rfl⟩
        have HB := Lib.hid hbb
        have hcall := below_any t m wr
        rw [← hbb] at hcall
        have HC2 := Lib.hid hcall
        clear hbb hcall ht hbw
        go_wp2_with (go_at_call 30; refine HC2.out.mono ?_; rintro e w2 ⟨rfl, rfl⟩)
        · go_ret
          exact ⟨by unfold allBelowB; rw [all_stop HT.out (by rw [← HB.out]; simp_all)]; rfl, HBW.out⟩
        · exact ⟨⟨k + 1, by omega, by go_num, Lib.hid (all_take HT.out HP.out (by rw [← HB.out]; simp_all)), HBW.out⟩, by simp [intOf]; omega⟩
      · obtain rfl : k = n := by omega
        have HBW := Lib.hid hbw
        clear hbw
        go_wp2
        go_ret
        exact ⟨by unfold allBelowB; rw [all_full HN.out HP.out]; rfl, HBW.out⟩
set_option maxHeartbeats 2000000 in
set_option maxRecDepth 100000 in
theorem temps_any (l : List Int) (x : PGr) (v vp va vb : Value) (w : World) (h : IntsR w v l) (hx : GrL w vp va vb x) :
    Calls Try.prog 39 #[v, grV x vp va vb] w (Is (.bool (allBelowB l x.temps)) w) := by
  obtain ⟨pp, pc, rfl⟩ := hx.params.form
  obtain ⟨qp, qc, rfl⟩ := hx.arrays.form
  obtain ⟨bp, bc, rfl⟩ := hx.blocks.form
  obtain ⟨m, hm⟩ : ∃ m, m = x.temps := ⟨_, rfl⟩
  unfold grV
  rw [← hm]
  have HM := Lib.hid hm
  clear hx hm
  rcases h with ⟨h0, ap, ac, rfl⟩ | ⟨g, o, cap, rfl, hn, hcap, hgl, hc⟩
  · have : l = [] := List.length_eq_zero_iff.1 h0
    subst this
    go_enter Try.func39, Try.ntmps39
    go_wp2
    go_loopw [5] (fun i wr => i = .int .i64 0 ∧ Below w.heap.size w wr) (fun _ _ => 0)
    case atStart => exact ⟨rfl, by go_simp; exact below_alloc w _⟩
    case round =>
      obtain ⟨rfl, hbw⟩ := hrel
      go_wp2
      go_ret
      exact ⟨rfl, hbw⟩
  · obtain ⟨n, hN⟩ : ∃ n, n = l.length := ⟨_, rfl⟩
    rw [← hN] at hn hcap hc
    rw [← hN]
    have HN := Lib.hid hN
    have HC := Lib.hid hc
    obtain ⟨m1, m2⟩ := hcap
    have m3 : n ≤ 9223372036854775807 := by omega
    clear hc hN
    go_enter Try.func39, Try.ntmps39
    go_wp2
    go_loopw [5] (fun i wr => ∃ k : Nat, k ≤ n ∧ i = .int .i64 k ∧ Hid ((l.take k).all (belowB · m) = true) ∧ Below w.heap.size w wr ∧ w.heap.size < wr.heap.size ∧ wr.cell? ⟨w.heap.size, 1, none⟩ = some (.int .i64 m)) (fun i _ => n - (intOf i).toNat)
    case atStart => exact ⟨0, Nat.zero_le _, rfl, Lib.hid rfl, by go_simp; exact below_alloc w _, by go_simp, by go_simp⟩
    case round =>
      obtain ⟨k, hk, rfl, HP, hbw, hsz, hm⟩ := hrel
      by_cases hlt : k < n
      · obtain ⟨t, ht⟩ := getN HN.out hlt
        have c0 := (hbw.cell (p := ⟨g, o + k * 1, none⟩) hgl).trans (HC.out k hlt t ht)
        rw [Nat.mul_one] at c0
        have l0 : g < wr.heap.size := Nat.lt_of_lt_of_le hgl hbw.size
        have i0 : (0 : Int) ≤ k := by omega
        have i1 : (k : Int) < n := by omega
        have i2 : (n : Int) ≤ 9223372036854775807 := by omega
        have HT := Lib.hid ht
        have HBW := Lib.hid hbw
        obtain ⟨bb, hbb⟩ : ∃ bb, bb = belowB t m := ⟨_, rfl⟩
        have HB := Lib.hid hbb
        have HC2 := Lib.hid (fun w => rbelow_q t m w)
        rw [← hbb] at HC2
        clear hbb ht hbw
        go_wp2
        go_quiet (first | (go_at_call 37; exact Calls.quiet_of (HC2.out _)))
        go_wp2
        · go_ret
          exact ⟨by unfold allBelowB; rw [all_stop HT.out (by rw [← HB.out]; simp_all)]; rfl, below_drew HBW.out nq⟩
        · exact ⟨⟨k + 1, by omega, by go_num, Lib.hid (all_take HT.out HP.out (by rw [← HB.out]; simp_all)), below_drew HBW.out nq, hsz, hm⟩, by simp [intOf]; omega⟩
      · obtain rfl : k = n := by omega
        have HBW := Lib.hid hbw
        clear hbw
        go_wp2
        go_ret
        exact ⟨by unfold allBelowB; rw [all_full HN.out HP.out]; rfl, HBW.out⟩
set_option maxHeartbeats 2000000 in
set_option maxRecDepth 100000 in
theorem params_any (x : PGr) (vp va vb : Value) (w : World) (h : GrL w vp va vb x) :
    Calls Try.prog 38 #[grV x vp va vb] w (Is (.int .i64 (apN x.arrays)) w) := by
  obtain ⟨pp, pc, rfl⟩ := h.params.form
  obtain ⟨bp, bc, rfl⟩ := h.blocks.form
  obtain ⟨l, hl⟩ : ∃ l, l = x.arrays := ⟨_, rfl⟩
  have ha := h.arrays
  unfold grV
  rw [← hl] at ha ⊢
  have HL := Lib.hid hl
  clear h hl
  rcases ha with ⟨h0, ap, ac, rfl⟩ | ⟨g, o, cap, rfl, hn, hcap, hgl, hc⟩
  · have : l = [] := List.length_eq_zero_iff.1 h0
    subst this
    go_enter Try.func38, Try.ntmps38
    go_wp2
    go_loopw [3, 4] (fun a i wr => a = .int .i64 0 ∧ i = .int .i64 0 ∧ Below w.heap.size w wr ∧ w.heap.size < wr.heap.size ∧ wr.cell? ⟨w.heap.size, 2, none⟩ = some (.slice ap 0 ac)) (fun _ _ _ => 0)
    case atStart => exact ⟨rfl, rfl, by go_simp; exact below_alloc w _, by go_simp, by go_simp⟩
    case round =>
      obtain ⟨rfl, rfl, hbw, hsz, hcl⟩ := hrel
      go_wp2
      go_ret
      exact ⟨rfl, hbw⟩
  · obtain ⟨n, hN⟩ : ∃ n, n = l.length := ⟨_, rfl⟩
    rw [← hN] at hn hcap hc
    rw [← hN]
    have HN := Lib.hid hN
    have HC := Lib.hid hc
    obtain ⟨m1, m2⟩ := hcap
    have m3 : n ≤ 9223372036854775807 := by omega
    clear hc hN
    go_enter Try.func38, Try.ntmps38
    go_wp2
    go_loopw [3, 4] (fun a i wr => ∃ k : Nat, k ≤ n ∧ a = .int .i64 (apN (l.take k)) ∧ i = .int .i64 k ∧ Below w.heap.size w wr ∧ w.heap.size < wr.heap.size ∧ wr.cell? ⟨w.heap.size, 2, none⟩ = some (.slice (some ⟨g, o, none⟩) n cap)) (fun _ i _ => n - (intOf i).toNat)
    case atStart => exact ⟨0, Nat.zero_le _, rfl, rfl, by go_simp; exact below_alloc w _, by go_simp, by go_simp⟩
    case round =>
      obtain ⟨k, hk, rfl, rfl, hbw, hsz, hcl⟩ := hrel
      have hp := ap_le l k
      by_cases hlt : k < n
      · obtain ⟨t, ht⟩ := getN HN.out hlt
        obtain ⟨c0, c1⟩ := HC.out k hlt t ht
        replace c0 := (hbw.cell (p := ⟨g, o + k * 2, none⟩) hgl).trans c0
        have l0 : g < wr.heap.size := Nat.lt_of_lt_of_le hgl hbw.size
        have i0 : (0 : Int) ≤ k := by omega
        have i1 : (k : Int) < n := by omega
        have i2 : (n : Int) ≤ 9223372036854775807 := by omega
        have HA1 := Lib.hid (ap_take ht)
        have HBW := Lib.hid hbw
        obtain ⟨a, ha⟩ : ∃ a : Int, a = apN (l.take k) := ⟨_, rfl⟩
        rw [← ha]
        have a0 : 0 ≤ a := by omega
        have a1 : a ≤ k := by omega
        have HA := Lib.hid ha
        clear hbw ht ha hp c1
        go_wp2
        all_goals exact ⟨⟨k + 1, by omega, by rw [HA1.out, ← HA.out]; simp_all, by go_num, HBW.out, hsz, hcl⟩, by simp [intOf]; omega⟩
      · obtain rfl : k = n := by omega
        have HBW := Lib.hid hbw
        clear hbw
        go_wp2
        go_ret
        exact ⟨by rw [HN.out, List.take_length]; rfl, HBW.out⟩
end Go.Proofs.Ythaombggdchgbaa.Graph
