/- The program's paramsMayBe. -/
import Derived.Test.YthaombggdchgbaaGe
namespace Go.Proofs.Ythaombggdchgbaa.Graph
open Go.RowKit

def parB (l : List Int) (m : Int) : Bool := decide (l.length ≤ 8) && decide l.Nodup && allBelowB l m
set_option maxHeartbeats 4000000 in
set_option maxRecDepth 100000 in
theorem paramsMayBe_any (x : PGr) (vp va vb : Value) (w : World) (h : GrL w vp va vb x) :
    Calls Try.prog 32 #[grV x vp va vb] w (Is (.bool (parB x.params x.temps)) w) := by
  obtain ⟨ap, ac, rfl⟩ := h.arrays.form
  obtain ⟨bp, bc, rfl⟩ := h.blocks.form
  have hp := h.params
  unfold grV
  obtain ⟨l, hl⟩ : ∃ l, l = x.params := ⟨_, rfl⟩
  obtain ⟨m, hm⟩ : ∃ m, m = x.temps := ⟨_, rfl⟩
  rw [← hl] at hp
  rw [← hm, ← hl]
  clear hm h hl
  rcases hp with ⟨h0, pp, pc, rfl⟩ | ⟨g, o, cap, rfl, hn, hcap, hgl, hc⟩
  · have : l = [] := List.length_eq_zero_iff.1 h0
    subst this
    clear h0
    go_enter Try.func32, Try.ntmps32
    go_wp2
    go_loopw [14] (fun i wr => i = .int .i64 0 ∧ Below w.heap.size w wr) (fun _ _ => 0)
    case atStart => exact ⟨rfl, by go_simp; exact below_alloc w _⟩
    case round =>
      obtain ⟨rfl, hbw⟩ := hrel
      have HBW := Lib.hid hbw
      clear hbw
      go_wp2
      go_ret
      exact ⟨rfl, HBW.out⟩
  · obtain ⟨n, hN⟩ : ∃ n, n = l.length := ⟨_, rfl⟩
    rw [← hN] at hn hcap hc
    rw [← hN]
    have HN := Lib.hid hN
    have HC := Lib.hid hc
    obtain ⟨m1, m2⟩ := hcap
    have j0 : (0 : Int) < n := by omega
    by_cases hbig : n ≤ 8
    · have j1 : (n : Int) ≤ 8 := by omega
      have hE : parB l m = (decide l.Nodup && allBelowB l m) := by unfold parB; rw [decide_eq_true (show l.length ≤ 8 by omega), Bool.true_and]
      rw [hE]
      clear hE hN hc
      go_enter Try.func32, Try.ntmps32
      go_wp2
      go_loopw [14] (fun i wr => ∃ k : Nat, k ≤ n ∧ i = .int .i64 k ∧ Hid ((l.take k).Nodup ∧ (l.take k).all (belowB · m) = true) ∧ Below w.heap.size w wr ∧ Box4 wr w.heap.size (.slice (some ⟨g, o, none⟩) n cap) (.int .i64 m) (.slice ap x.arrays.length ac) (.slice bp x.blocks.length bc)) (fun i _ => n - (intOf i).toNat)
      case atStart => exact ⟨0, Nat.zero_le _, rfl, Lib.hid ⟨List.nodup_nil, rfl⟩, by go_simp; exact below_alloc w _, by go_simp, by go_simp, by go_simp, by go_simp, by go_simp⟩
      case round =>
        obtain ⟨k, hk, rfl, HD, hbw, hbox⟩ := hrel
        have HBOX := Lib.hid hbox
        obtain ⟨z0, z1, z2, z3, z4⟩ := hbox
        have HBW := Lib.hid hbw
        by_cases hlt : k < n
        · obtain ⟨t, ht⟩ := getN HN.out hlt
          have c0 := (hbw.cell (p := ⟨g, o + k * 1, none⟩) hgl).trans (HC.out k hlt t ht)
          rw [Nat.mul_one] at c0
          have l0 : g < wr.heap.size := Nat.lt_of_lt_of_le hgl hbw.size
          have i0 : (0 : Int) ≤ k := by omega
          have i1 : (k : Int) < n := by omega
          have i2 : (k : Int) ≤ cap := by omega
          have i3 : (cap : Int) ≤ 9223372036854775807 := by omega
          have HTt := Lib.hid ht
          have HCB := Lib.hid (below_any t m wr)
          clear hbw ht
          by_cases hbel : belowB t m = true
          · rw [hbel] at HCB
            have HBEL := Lib.hid hbel
            clear hbel
            go_wp2_with (go_at_call 30; refine HCB.out.mono ?_; rintro e w2 ⟨rfl, rfl⟩)
            go_loopw [29] (fun i wq => ∃ j : Nat, j ≤ k ∧ i = .int .i64 j ∧ Hid (t ∉ l.take j) ∧ wq = w2) (fun i _ => k - (intOf i).toNat)
            case atStart => exact ⟨0, Nat.zero_le _, rfl, Lib.hid (by simp), rfl⟩
            case round =>
              obtain ⟨j, hj, rfl, HI, rfl⟩ := hrel
              by_cases hlj : j < k
              · obtain ⟨u, hu⟩ := getN HN.out (show j < n by omega)
                have d0 := (HBW.out.cell (p := ⟨g, o + j * 1, none⟩) hgl).trans (HC.out j (by omega) u hu)
                rw [Nat.mul_one] at d0
                have HU := Lib.hid hu
                have i4 : (0 : Int) ≤ j := by omega
                have i5 : (j : Int) < k := by omega
                clear hu
                by_cases hue : u = t
                · have f0 : (u == t) = true := by simp [hue]
                  have HUE := Lib.hid hue
                  clear hue
                  go_wp2
                  go_ret
                  exact ⟨by rw [decide_eq_false (nodup_stop hlj HU.out HTt.out HUE.out), Bool.false_and]; rfl, HBW.out⟩
                · have f0 : (u == t) = false := by simp [hue]
                  have HUE := Lib.hid hue
                  clear hue
                  go_wp2
                  exact ⟨⟨j + 1, by omega, by go_num, Lib.hid (not_take HU.out HI.out HUE.out), trivial⟩, by simp [intOf]; omega⟩
              · obtain rfl : j = k := by omega
                go_wp2
                exact ⟨⟨j + 1, by omega, by go_num, Lib.hid ⟨nodup_take HTt.out HD.out.1 HI.out, all_take HTt.out HD.out.2 HBEL.out⟩, HBW.out, HBOX.out⟩, by simp [intOf]; omega⟩
          · have hbf : belowB t m = false := by simpa using hbel
            rw [hbf] at HCB
            have HBEL := Lib.hid hbf
            clear hbel hbf
            go_wp2_with (go_at_call 30; refine HCB.out.mono ?_; rintro e w2 ⟨rfl, h2⟩; have H2 := Lib.hid h2; clear h2)
            go_ret
            exact ⟨by unfold allBelowB; rw [all_stop HTt.out HBEL.out, Bool.and_false]; rfl, by rw [H2.out]; exact HBW.out⟩
        · obtain rfl : k = n := by omega
          clear hbw
          have hnd : (decide l.Nodup && allBelowB l m) = true := by
            have h1 := HD.out
            rw [HN.out, List.take_length] at h1
            unfold allBelowB
            rw [decide_eq_true h1.1, h1.2, Bool.true_and]
          have HND := Lib.hid hnd
          clear hnd
          go_wp2
          go_ret
          exact ⟨by rw [HND.out]; rfl, HBW.out⟩
    · have j1 : (8 : Int) < n := by omega
      have hE : parB l m = false := by unfold parB; rw [decide_eq_false (show ¬ l.length ≤ 8 by omega), Bool.false_and, Bool.false_and]
      rw [hE]
      clear hE hN hc
      go_enter Try.func32, Try.ntmps32
      go_wp2
      go_ret
      exact ⟨rfl, below_alloc w _⟩
end Go.Proofs.Ythaombggdchgbaa.Graph
