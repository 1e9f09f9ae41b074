/- The smallest functions of Check: below, arrayParams, allBelow; the document's below, params, temps. -/
import Derived.Test.YthaombggdchgbaaMs
import Derived.Test.YthaombggdchgbaaMo
import Derived.OneCell
import Derived.RegionDies
import Derived.StillTactics
import Derived.BigQuiet
import Derived.Deep.QuietTactic
import Derived.KernelRfl
import Derived.BigFrame
namespace Go.Proofs.Ythaombggdchgbaa.Graph
open Go.RowKit

/-- A call returns that, and leaves memory as it was, but for what it makes. -/
def Is (r : Value) (w : World) (e : Ending) (w' : World) : Prop := e = .returned r ∧ Below w.heap.size w w'
theorem below_drewN (w : World) (m : Nat) : Below w.heap.size w (w.drewN m) := ⟨rfl, rfl, rfl, Nat.le_refl _, fun _ _ => rfl⟩
theorem below_alloc (w : World) (o : Obj) : Below w.heap.size w (w.alloc o) := (Below.refl _ _).alloc (Nat.le_refl _) _
theorem below_any (i n : Int) (w : World) : Calls Try.prog 30 #[.int .i64 i, .int .i64 n] w fun e w' => e = .returned (.bool (belowB i n)) ∧ w' = w := by
  go_enter Try.func30, Try.ntmps30
  go_wp2
  all_goals (go_ret; exact ⟨by congr 2; simp [belowB]; omega, rfl⟩)
theorem rbelow_any (i n : Int) (w : World) : Calls Try.prog 37 #[.int .i64 i, .int .i64 n] w fun e w' => e = .returned (.bool (belowB i n)) ∧ w' = w := by
  go_enter Try.func37, Try.ntmps37
  go_wp2
  all_goals (go_ret; exact ⟨by congr 2; simp [belowB]; omega, rfl⟩)
theorem drewN_zero (w : World) : w = w.drewN 0 := rfl
theorem rbelow_q (i n : Int) (w : World) : Calls Try.prog 37 #[.int .i64 i, .int .i64 n] w fun e w' => e = .returned (.bool (belowB i n)) ∧ ∃ m, w' = w.drewN m :=
  (rbelow_any i n w).mono fun _ _ h => ⟨h.1, 0, h.2.trans (drewN_zero w)⟩
theorem below_q (i n : Int) (w : World) : Calls Try.prog 30 #[.int .i64 i, .int .i64 n] w fun e w' => e = .returned (.bool (belowB i n)) ∧ ∃ m, w' = w.drewN m :=
  (below_any i n w).mono fun _ _ h => ⟨h.1, 0, h.2.trans (drewN_zero w)⟩
set_option maxHeartbeats 2000000 in
set_option maxRecDepth 100000 in
theorem arrayParams_any (x : PGr) (vp va vb : Value) (w : World) (h : GrL w vp va vb x) :
    Calls Try.prog 31 #[grV x vp va vb] w (Is (.int .i64 (apN x.arrays)) w) := by
  obtain ⟨pp, pc, rfl⟩ := h.params.form
  obtain ⟨bp, bc, rfl⟩ := h.blocks.form
  obtain ⟨l, hl⟩ : ∃ l, l = x.arrays := ⟨_, rfl⟩
  have ha := h.arrays
  unfold grV
  rw [← hl] at ha ⊢
  clear h
  rcases ha with ⟨h0, ap, ac, rfl⟩ | ⟨g, o, cap, rfl, hn, hcap, hgl, hc⟩
  · have : l = [] := List.length_eq_zero_iff.1 h0
    subst this
    go_enter Try.func31, Try.ntmps31
    go_wp2
    go_loopw [3, 9] (fun a i wr => a = .int .i64 0 ∧ i = .int .i64 0 ∧ Below w.heap.size w wr) (fun _ _ _ => 0)
    case atStart => exact ⟨rfl, rfl, by go_simp; exact below_alloc w _⟩
    case round =>
      obtain ⟨rfl, rfl, hbw⟩ := hrel
      go_wp2
      go_ret
      exact ⟨rfl, hbw⟩
  · obtain ⟨n, hN⟩ : ∃ n, n = l.length := ⟨_, rfl⟩
    rw [← hN] at hn hcap hc
    rw [← hN]
    have HN := Lib.hid hN
    have HC := Lib.hid hc
    obtain ⟨m1, m2⟩ := hcap
    have m3 : n ≤ 9223372036854775807 := by omega
    have hap : ∀ k, apN (l.take k) ≤ k := fun k => by unfold apN; exact Nat.le_trans List.countP_le_length (by simp; omega)
    have HAP := Lib.hid hap
    clear hc hN hap
    go_enter Try.func31, Try.ntmps31
    go_wp2
    go_loopw [3, 9] (fun a i wr => ∃ k : Nat, k ≤ n ∧ a = .int .i64 (apN (l.take k)) ∧ i = .int .i64 k ∧ Below w.heap.size w wr) (fun _ i _ => n - (intOf i).toNat)
    case atStart => exact ⟨0, Nat.zero_le _, rfl, rfl, by go_simp; exact below_alloc w _⟩
    case round =>
      obtain ⟨k, hk, rfl, rfl, hbw⟩ := hrel
      have hp := HAP.out k
      by_cases hlt : k < n
      · obtain ⟨t, ht⟩ : ∃ t, l[k]? = some t := ⟨_, List.getElem?_eq_getElem (by rw [← HN.out]; exact hlt)⟩
        have hap1 : (apN (l.take (k + 1)) : Int) = apN (l.take k) + (if t.kind = 3 then 1 else 0) := by
          unfold apN
          rw [List.take_add_one, ht, Option.toList_some, List.countP_append]
          simp [List.countP_cons]
          split <;> simp
        obtain ⟨c0, c1⟩ := HC.out k hlt t ht
        replace c0 := (hbw.cell (p := ⟨g, o + k * 2, none⟩) hgl).trans c0
        replace c1 := (hbw.cell (p := ⟨g, o + k * 2 + 1, none⟩) hgl).trans c1
        have l0 : g < wr.heap.size := Nat.lt_of_lt_of_le hgl hbw.size
        have i0 : (0 : Int) ≤ k := by omega
        have i1 : (k : Int) < n := by omega
        have i2 : (n : Int) ≤ 9223372036854775807 := by omega
        have HA1 := Lib.hid hap1
        have HBW := Lib.hid hbw
        obtain ⟨a, ha⟩ : ∃ a : Int, a = apN (l.take k) := ⟨_, rfl⟩
        rw [← ha]
        have a0 : 0 ≤ a := by omega
        have a1 : a ≤ k := by omega
        have HA := Lib.hid ha
        clear hap1 hbw ht ha hp
        go_wp2
        all_goals exact ⟨⟨k + 1, by omega, by rw [HA1.out, ← HA.out]; simp_all, by go_num, HBW.out.alloc HBW.out.size _⟩, by simp [intOf]; omega⟩
      · obtain rfl : k = n := by omega
        have HBW := Lib.hid hbw
        clear hbw
        go_wp2
        go_ret
        exact ⟨by rw [HN.out, List.take_length]; rfl, HBW.out⟩
end Go.Proofs.Ythaombggdchgbaa.Graph
