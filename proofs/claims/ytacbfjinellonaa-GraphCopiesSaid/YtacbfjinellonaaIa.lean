/- ints: are two lists the same? -/
import Derived.Test.YtacbfjinellonaaGb
namespace Go.Proofs.Ytacbfjinellonaa.Graph
open Go.RowKit

theorem take_succ_eq {α : Type} {a b : List α} {k : Nat} {x y : α} (hx : a[k]? = some x) (hy : b[k]? = some y) (h : a.take k = b.take k) (he : x = y) : a.take (k + 1) = b.take (k + 1) := by
  rw [List.take_add_one, List.take_add_one, hx, hy, h, he]
theorem ne_of_at {α : Type} {a b : List α} {k : Nat} {x y : α} (hx : a[k]? = some x) (hy : b[k]? = some y) (he : x ≠ y) : a ≠ b := by
  rintro rfl
  rw [hx] at hy
  injection hy with hy
  exact he hy
set_option maxHeartbeats 2000000 in
set_option maxRecDepth 100000 in
theorem ints_any (a b : List Int) (va vb : Value) (w : World) (ha : IntsR w va a) (hb : IntsR w vb b) :
    Calls Try.prog 16 #[va, vb] w (Is (.bool (decide (a = b))) w) := by
  by_cases hl : a.length = b.length
  case neg =>
    have hne : decide (a = b) = false := decide_eq_false (fun h => hl (by rw [h]))
    rw [hne]
    obtain ⟨p, c, rfl⟩ := ha.form
    obtain ⟨q, d, rfl⟩ := hb.form
    obtain ⟨n, hn⟩ : ∃ n, n = a.length := ⟨_, rfl⟩
    obtain ⟨m, hm⟩ : ∃ n, n = b.length := ⟨_, rfl⟩
    rw [← hn, ← hm] at hl ⊢
    have hq : ((n : Int) == (m : Int)) = false := by simp; omega
    have HL := Lib.hid hl
    clear ha hb hn hm hne hl
    go_enter Try.func16, Try.ntmps16
    go_wp2
    all_goals first
      | (go_ret; exact ⟨rfl, Below.refl _ _⟩)
      | (exfalso; have := HL.out; simp_all)
  rcases ha with ⟨h0, p, c, rfl⟩ | ⟨g, o, cap, rfl, hn, hcap, hgl, hc⟩
  · have e1 : a = [] := List.length_eq_zero_iff.1 h0
    subst e1
    have e2 : b = [] := List.length_eq_zero_iff.1 (by omega)
    subst e2
    obtain ⟨q, d, rfl⟩ := hb.form
    clear hl h0 hb
    go_enter Try.func16, Try.ntmps16
    go_wp2
    go_loopw [5] (fun i wr => i = .int .i64 0 ∧ Below w.heap.size w wr) (fun _ _ => 0)
    case atStart => exact ⟨rfl, Below.refl _ _⟩
    case round =>
      obtain ⟨rfl, hbw⟩ := hrel
      go_wp2
      go_ret
      exact ⟨rfl, hbw⟩
  · obtain ⟨g2, o2, cap2, rfl, hcap2, hgl2, hc2⟩ := SlR.form2 hb (by omega)
    obtain ⟨n, hN⟩ : ∃ n, n = a.length := ⟨_, rfl⟩
    have hM : n = b.length := hN.trans hl
    rw [← hN] at hn hcap hc
    rw [← hM] at hcap2 hc2
    rw [← hN, ← hM]
    have HN := Lib.hid hN
    have HM := Lib.hid hM
    have HC := Lib.hid hc
    have HC2 := Lib.hid hc2
    obtain ⟨m1, m2⟩ := hcap
    obtain ⟨m3, m4⟩ := hcap2
    have m5 : n ≤ 9223372036854775807 := by omega
    clear hc hN hc2 hM hl hb
    go_enter Try.func16, Try.ntmps16
    go_wp2
    go_loopw [5] (fun i wr => ∃ k : Nat, k ≤ n ∧ i = .int .i64 k ∧ Hid (a.take k = b.take k) ∧ Below w.heap.size w wr) (fun i _ => n - (intOf i).toNat)
    case atStart => exact ⟨0, Nat.zero_le _, rfl, Lib.hid rfl, Below.refl _ _⟩
    case round =>
      obtain ⟨k, hk, rfl, HP, hbw⟩ := hrel
      by_cases hlt : k < n
      · obtain ⟨x, hx⟩ := getN HN.out hlt
        obtain ⟨y, hy⟩ := getN HM.out hlt
        have c0 := (hbw.cell (p := ⟨g, o + k * 1, none⟩) hgl).trans (HC.out k hlt x hx)
        have d0 := (hbw.cell (p := ⟨g2, o2 + k * 1, none⟩) hgl2).trans (HC2.out k hlt y hy)
        rw [Nat.mul_one] at c0 d0
        have l0 : g < wr.heap.size := Nat.lt_of_lt_of_le hgl hbw.size
        have l2 : g2 < wr.heap.size := Nat.lt_of_lt_of_le hgl2 hbw.size
        have i0 : (0 : Int) ≤ k := by omega
        have i1 : (k : Int) < n := by omega
        have i2 : (n : Int) ≤ 9223372036854775807 := by omega
        have HX := Lib.hid hx
        have HY := Lib.hid hy
        have HBW := Lib.hid hbw
        clear hx hy hbw
        go_wp2
        go_quiet (fail)
        go_wp2
        · go_ret
          exact ⟨by rw [decide_eq_false (ne_of_at HX.out HY.out (by simp_all))]; rfl, below_drew HBW.out nq⟩
        · exact ⟨⟨k + 1, by omega, by go_num, Lib.hid (take_succ_eq HX.out HY.out HP.out (by simp_all)), below_drew HBW.out nq⟩, by simp [intOf]; omega⟩
      · obtain rfl : k = n := by omega
        have HBW := Lib.hid hbw
        clear hbw
        go_wp2
        go_ret
        exact ⟨by
          have h := HP.out
          rw [HN.out, List.take_length] at h
          rw [show a.length = b.length by rw [← HN.out, ← HM.out], List.take_length] at h
          rw [decide_eq_true h]; rfl, HBW.out⟩
end Go.Proofs.Ytacbfjinellonaa.Graph
