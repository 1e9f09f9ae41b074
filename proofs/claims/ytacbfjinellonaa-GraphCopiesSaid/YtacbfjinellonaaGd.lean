/- The document's Count and blocks. -/
import Derived.Test.YtacbfjinellonaaGc
namespace Go.Proofs.Ytacbfjinellonaa.Graph
open Go.RowKit

set_option maxHeartbeats 2000000 in
set_option maxRecDepth 100000 in
theorem rcount_any (x : PGr) (vp va vb : Value) (w : World) (h : GrL w vp va vb x) :
    Calls Try.prog 15 #[grV x vp va vb] w (Is (countV x.blocks) w) := by
  obtain ⟨pp, pc, rfl⟩ := h.params.form
  obtain ⟨ap, ac, rfl⟩ := h.arrays.form
  obtain ⟨l, hl⟩ : ∃ l, l = x.blocks := ⟨_, rfl⟩
  have ha := h.blocks
  unfold grV
  rw [← hl] at ha ⊢
  clear h hl
  have HBL := Lib.hid ha
  rcases ha with ⟨h0, bp, bc, rfl⟩ | ⟨g, o, cap, rfl, hn, hcap, hgl, _⟩
  · have : l = [] := List.length_eq_zero_iff.1 h0
    subst this
    go_enter Try.func15, Try.ntmps15
    go_wp2
    go_loopw [5, 6, 7] (fun a b i wr => a = .int .i64 0 ∧ b = .int .i64 0 ∧ i = .int .i64 0 ∧ Below w.heap.size w wr ∧ w.heap.size < wr.heap.size ∧ wr.cell? ⟨w.heap.size, 3, none⟩ = some (.slice bp 0 bc)) (fun _ _ _ _ => 0)
    case atStart => exact ⟨rfl, rfl, rfl, by go_simp; exact below_alloc w _, by go_simp, by go_simp⟩
    case round =>
      obtain ⟨rfl, rfl, rfl, hbw, hsz, hcl⟩ := hrel
      go_wp2
      go_ret3
      exact ⟨rfl, hbw⟩
  · obtain ⟨n, hN⟩ : ∃ n, n = l.length := ⟨_, rfl⟩
    rw [← hN] at hn hcap HBL
    rw [← hN]
    have HN := Lib.hid hN
    obtain ⟨m1, m2⟩ := hcap
    have m3 : n ≤ 9223372036854775807 := by omega
    clear hN
    go_enter Try.func15, Try.ntmps15
    go_wp2
    go_loopw [5, 6, 7] (fun a b i wr => ∃ k : Nat, k ≤ n ∧ a = .int .i64 (codeW (l.take k)) ∧ b = .int .i64 (ifN (l.take k)) ∧ i = .int .i64 k ∧ Below w.heap.size w wr ∧ w.heap.size < wr.heap.size ∧ wr.cell? ⟨w.heap.size, 3, none⟩ = some (.slice (some ⟨g, o, none⟩) n cap)) (fun _ _ i _ => n - (intOf i).toNat)
    case atStart => exact ⟨0, Nat.zero_le _, rfl, rfl, rfl, by go_simp; exact below_alloc w _, by go_simp, by go_simp⟩
    case round =>
      obtain ⟨k, hk, rfl, rfl, rfl, hbw, hsz, hcl⟩ := hrel
      have hp := if_le l k
      by_cases hlt : k < n
      · obtain ⟨t, ht⟩ := getN HN.out hlt
        obtain ⟨pk, ck, qc, cc, pt, ct, ⟨c0, c1, c2, c3, c4, c5, c6, c7, c8, c9⟩, _, _, l0⟩ := blk_at HBL.out hbw ht
        have i0 : (0 : Int) ≤ k := by omega
        have i1 : (k : Int) < n := by omega
        have i2 : (n : Int) ≤ 9223372036854775807 := by omega
        have HA1 := Lib.hid (if_take ht)
        have HA2 := Lib.hid (codeW_take ht)
        have HBW := Lib.hid hbw
        obtain ⟨a, ha⟩ : ∃ a : Int, a = ifN (l.take k) := ⟨_, rfl⟩
        obtain ⟨s, hs⟩ : ∃ s : Int, s = codeW (l.take k) := ⟨_, rfl⟩
        rw [← ha, ← hs]
        have a0 : 0 ≤ a := by omega
        have a1 : a ≤ k := by omega
        have HA := Lib.hid ha
        have HS := Lib.hid hs
        clear hbw ht ha hs hp
        go_wp2
        all_goals exact ⟨⟨k + 1, by omega, by rw [HA2.out, ← HS.out], by rw [HA1.out, ← HA.out]; simp_all, by go_num, HBW.out, hsz, hcl⟩, by simp [intOf]; omega⟩
      · obtain rfl : k = n := by omega
        have HBW := Lib.hid hbw
        clear hbw
        go_wp2
        go_ret3
        exact ⟨by unfold countV; rw [HN.out, List.take_length]; rfl, HBW.out⟩
def blkB (l : List PBlk) : Bool := decide (1 ≤ l.length) && decide (l.length ≤ 20000) && decide (codeW l ≤ 40000)
set_option maxHeartbeats 2000000 in
set_option maxRecDepth 100000 in
theorem rblocks_any (x : PGr) (vp va vb : Value) (w : World) (h : GrL w vp va vb x) :
    Calls Try.prog 30 #[grV x vp va vb] w (Is (.bool (blkB x.blocks)) w) := by
  obtain ⟨pp, pc, rfl⟩ := h.params.form
  obtain ⟨ap, ac, rfl⟩ := h.arrays.form
  obtain ⟨l, hl⟩ : ∃ l, l = x.blocks := ⟨_, rfl⟩
  have ha := h.blocks
  unfold grV
  rw [← hl] at ha ⊢
  clear h hl
  have HBL := Lib.hid ha
  rcases ha with ⟨h0, bp, bc, rfl⟩ | ⟨g, o, cap, rfl, hn, hcap, hgl, hcl⟩
  · have : l = [] := List.length_eq_zero_iff.1 h0
    subst this
    go_enter Try.func30, Try.ntmps30
    go_wp2
    go_ret
    exact ⟨rfl, below_alloc w _⟩
  · obtain ⟨n, hN⟩ : ∃ n, n = l.length := ⟨_, rfl⟩
    rw [← hN] at hn hcap HBL
    rw [← hN]
    have HN := Lib.hid hN
    obtain ⟨m1, m2⟩ := hcap
    have m3 : n ≤ 9223372036854775807 := by omega
    clear hN hcl
    have j0 : (1 : Int) ≤ n := by omega
    by_cases hbig : n ≤ 20000
    · have j1 : (n : Int) ≤ 20000 := by omega
      go_enter Try.func30, Try.ntmps30
      go_wp2
      go_loopw [3, 4] (fun a i wr => ∃ k : Nat, k ≤ n ∧ a = .int .i64 (codeW (l.take k)) ∧ i = .int .i64 k ∧ Below w.heap.size w wr ∧ w.heap.size < wr.heap.size ∧ wr.cell? ⟨w.heap.size, 3, none⟩ = some (.slice (some ⟨g, o, none⟩) n cap)) (fun _ i _ => n - (intOf i).toNat)
      case atStart => exact ⟨0, Nat.zero_le _, rfl, rfl, by go_simp; exact below_alloc w _, by go_simp, by go_simp⟩
      case round =>
        obtain ⟨k, hk, rfl, rfl, hbw, hsz, hcl⟩ := hrel
        by_cases hlt : k < n
        · obtain ⟨t, ht⟩ := getN HN.out hlt
          obtain ⟨pk, ck, qc, cc, pt, ct, ⟨c0, _⟩, _, _, l0⟩ := blk_at HBL.out hbw ht
          have i0 : (0 : Int) ≤ k := by omega
          have i1 : (k : Int) < n := by omega
          have HA2 := Lib.hid (codeW_take ht)
          have HBW := Lib.hid hbw
          obtain ⟨s, hs⟩ : ∃ s : Int, s = codeW (l.take k) := ⟨_, rfl⟩
          rw [← hs]
          have HS := Lib.hid hs
          clear hbw ht hs
          go_wp2
          all_goals exact ⟨⟨k + 1, by omega, by rw [HA2.out, ← HS.out], by go_num, HBW.out, hsz, hcl⟩, by simp [intOf]; omega⟩
        · obtain rfl : k = n := by omega
          have HBW := Lib.hid hbw
          obtain ⟨s, hs⟩ : ∃ s : Int, s = codeW (l.take k) := ⟨_, rfl⟩
          rw [← hs]
          have HS := Lib.hid hs
          clear hbw hs
          go_wp2
          all_goals (
            go_ret
            exact ⟨by congr 2; rw [HN.out, List.take_length] at HS; simp only [blkB, ← HN.out, ← HS.out]; simp; omega, HBW.out⟩)
    · have j1 : (20000 : Int) < n := by omega
      go_enter Try.func30, Try.ntmps30
      go_wp2
      go_ret
      exact ⟨by congr 2; simp only [blkB, ← HN.out]; simp; omega, below_alloc w _⟩
end Go.Proofs.Ytacbfjinellonaa.Graph
