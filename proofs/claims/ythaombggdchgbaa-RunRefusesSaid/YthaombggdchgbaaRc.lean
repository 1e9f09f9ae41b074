/- run's start, at a module without globals and arrays: the machine. -/
import Derived.Test.YthaombggdchgbaaRd
namespace Go.Proofs.Ythaombggdchgbaa.Graph
open Go.RowKit
theorem mach_a {w1 wa : World} (hk : Below w1.heap.size w1 wa) (Z m : Array Value) (t1 t2 : TypeId) : Below w1.heap.size w1 ((wa.alloc (.cells Z t1)).alloc (.cells m t2)) ∧ w1.heap.size ≤ wa.heap.size ∧ wa.heap.size < wa.heap.size + 1 ∧ ((wa.alloc (.cells Z t1)).alloc (.cells m t2)).heap[wa.heap.size]? = some (.cells Z t1 (0, 0)) ∧ ((wa.alloc (.cells Z t1)).alloc (.cells m t2)).heap[wa.heap.size + 1]? = some (.cells m t2 (0, 0)) := by
  refine ⟨hk.trans ((below_then (below_alloc wa _) (below_alloc _ _)).mono hk.size), hk.size, Nat.lt_succ_self _, ?_, ?_⟩
  · rw [(below_alloc (wa.alloc (.cells Z t1)) _).block _ (by rw [World.size_alloc]; omega)]
    exact heap_new wa _
  · have h := heap_new (wa.alloc (.cells Z t1)) (.cells m t2)
    rwa [World.size_alloc] at h
theorem mach_b {w1 wa : World} (Z m : Array Value) (t1 t2 : TypeId) (hk : Below (w1.alloc (.cells Z t1)).heap.size (w1.alloc (.cells Z t1)) wa) : Below w1.heap.size w1 (wa.alloc (.cells m t2)) ∧ w1.heap.size ≤ w1.heap.size ∧ w1.heap.size < wa.heap.size ∧ (wa.alloc (.cells m t2)).heap[w1.heap.size]? = some (.cells Z t1 (0, 0)) ∧ (wa.alloc (.cells m t2)).heap[wa.heap.size]? = some (.cells m t2 (0, 0)) := by
  have hs := hk.size
  rw [World.size_alloc] at hs
  have hk1 := below_then (below_alloc w1 (.cells Z t1)) hk
  refine ⟨hk1.trans ((below_alloc wa _).mono hk1.size), Nat.le_refl _, by omega, ?_, heap_new wa _⟩
  rw [(below_alloc wa _).block _ (by omega), hk.block _ (by rw [World.size_alloc]; omega)]
  exact heap_new w1 _
set_option maxHeartbeats 4000000 in
set_option maxRecDepth 100000 in
theorem start_bare (fb fo fc : Nat) (gp rp : Option Addr) (gc rc : Nat) (fuel : Int) (sb : ByteArray) (t : Int) (aq : Option Addr) (an : Nat) (w : World) (hfb : fb < w.heap.size) (h1 : w.cell? ⟨fb, fo + 1, none⟩ = some (.int .i64 t)) (h2 : w.cell? ⟨fb, fo + 2, none⟩ = some (.slice aq 0 an)) (ht : t = 0 ∨ t = 1) (hcap : 1 ≤ fc) :
    Calls Try.prog 27 #[.agg #[.slice gp 0 gc, .slice rp 0 rc, .slice (some ⟨fb, fo, none⟩) 1 fc, .int .i64 0], .string sb, .int .i64 fuel] w fun e w' => ∃ M C cc two q, e = .returned (.pointer (some ⟨M, 0, none⟩)) ∧ Below w.heap.size w w' ∧ w.heap.size ≤ C ∧ C < M ∧
      w'.heap[M]? = some (.cells (machCs (some ⟨fb, fo, none⟩) fc 1 gp rp gc rc 0 fuel (.string sb) C 1 0 0 0 0 (.pointer none) none 0 0 two) 77 (0, 0)) ∧ w'.heap[C]? = some (.cells cc 107 (0, 0)) ∧ cc[0]? = some (.pointer (some ⟨fb, fo, none⟩)) ∧ cc[1]? = some (.int .i64 0) ∧ cc[2]? = some (.int .i64 0) ∧ cc[6]? = some (.int .i64 0) ∧ cc[3]? = some (.slice q t.toNat t.toNat) ∧ (t = 1 → ∃ T, q = some ⟨T, 0, none⟩ ∧ T ≠ M ∧ T ≠ C ∧ w.heap.size ≤ T ∧ w'.heap[T]? = some (.cells #[.int .u32 0] 34 (0, 0))) := by
  obtain ⟨i0, hi, hz0, hz1, hz2⟩ := info_parts info_call
  have hmk : ∀ w : World, (Instr.makeSlice 74 (.int .i64 0) (.int .i64 50)).run Try.prog w = .ok (.slice (some ⟨w.heap.size, 0, none⟩) 0 50) (w.alloc (.cells callZ 107)) := fun w => by
    have h := run_make (P := Try.prog) w 74 107 i0 _ (by kernel_rfl) hi hz0 .i64 .i64 0 50 (by omega) (by omega) (by rw [hz2]; omega) (by omega)
    rw [hz1] at h
    exact h
  clear hi hz0 hz1 hz2
  have HF := Lib.hid (And.intro hfb (And.intro h1 h2))
  clear hfb h1 h2
  go_enter Try.func27, Try.ntmps27
  go_upto_region 1 with (fail)
  have H1 := Lib.hid (below_alloc w (.cells #[.slice gp 0 gc, .slice rp 0 rc, .slice (some ⟨fb, fo, none⟩) 1 fc, .int .i64 0] 26))
  have N1 := Lib.hid (heap_new w (.cells #[.slice gp 0 gc, .slice rp 0 rc, .slice (some ⟨fb, fo, none⟩) 1 fc, .int .i64 0] 26))
  generalize hw1 : w.alloc (.cells #[.slice gp 0 gc, .slice rp 0 rc, .slice (some ⟨fb, fo, none⟩) 1 fc, .int .i64 0] 26) = w1 at H1 N1 ⊢
  obtain ⟨g, hg⟩ : ∃ g, g = w.heap.size := ⟨_, rfl⟩
  have HG := Lib.hid hg
  rw [← hg] at N1
  rw [← hg]
  clear hw1 hg
  obtain ⟨b0, _⟩ := cell_of_block N1.out (k := 0) rfl
  obtain ⟨b1, _⟩ := cell_of_block N1.out (k := 1) rfl
  obtain ⟨b2, _⟩ := cell_of_block N1.out (k := 2) rfl
  obtain ⟨b3, _⟩ := cell_of_block N1.out (k := 3) rfl
  have hl := lt_of_block N1.out
  have hn0 : w1.heap.size ≠ g := Nat.ne_of_gt hl
  go_cut [7] (fun v wc => ∃ M C f a b, v = .pointer (some ⟨M, 0, none⟩) ∧ Hid (Below w1.heap.size w1 wc ∧ w1.heap.size ≤ C ∧ C < M ∧ wc.heap[C]? = some (.cells callZ 107 (0, 0)) ∧ wc.heap[M]? = some (.cells (machCs (some ⟨fb, fo, none⟩) fc 1 gp rp gc rc 0 fuel (.string sb) C 0 0 0 0 0 (.pointer none) none 0 0 (.func f a b)) 77 (0, 0))))
  case first =>
    go_region_held3 (fun w' => w'.cell? ⟨g, 0, none⟩ = some (.slice gp 0 gc) ∧ w'.cell? ⟨g, 1, none⟩ = some (.slice rp 0 rc) ∧ w'.cell? ⟨g, 2, none⟩ = some (.slice (some ⟨fb, fo, none⟩) 1 fc) ∧ w'.cell? ⟨g, 3, none⟩ = some (.int .i64 0)) (go_keep)
      (first
        | (refine step_append_nil0 (by rfl) _ _ 22 (by rfl) 34 1 Try.underlying22 (by kernel_rfl) gc gp (by rfl) (by rfl) ?_)
        | (go_at_call 55; refine (chooser_any _).mono ?_; rintro e wa ⟨f, a, b, rfl, hb⟩
           have hk := (Below.refl _ w1).drew.trans hb
           have x0 := (hk.cell (p := ⟨g, 0, none⟩) hl).trans b0
           have x1 := (hk.cell (p := ⟨g, 1, none⟩) hl).trans b1
           have x2 := (hk.cell (p := ⟨g, 2, none⟩) hl).trans b2
           have x3 := (hk.cell (p := ⟨g, 3, none⟩) hl).trans b3
           have hla : g < wa.heap.size := Nat.lt_of_lt_of_le hl hk.size
           have hna : wa.heap.size ≠ g := Nat.ne_of_gt hla)
        | (go_at_call 55; refine (chooser_any _).mono ?_; rintro e wa ⟨f, a, b, rfl, hb⟩
           have hk2 := (Below.refl _ (w1.alloc (.cells callZ 107))).drew.trans hb
           have hk := below_then (below_alloc w1 _) hk2
           have x0 := (hk.cell (p := ⟨g, 0, none⟩) hl).trans b0
           have x1 := (hk.cell (p := ⟨g, 1, none⟩) hl).trans b1
           have x2 := (hk.cell (p := ⟨g, 2, none⟩) hl).trans b2
           have x3 := (hk.cell (p := ⟨g, 3, none⟩) hl).trans b3
           have hla : g < wa.heap.size := Nat.lt_of_lt_of_le hl hk.size
           have hna : wa.heap.size ≠ g := Nat.ne_of_gt hla))
    all_goals
      go_wp2_with fail
      go_meet
      first
        | exact ⟨_, _, _, _, _, rfl, Lib.hid (mach_a hk _ _ _ _)⟩
        | exact ⟨_, _, _, _, _, rfl, Lib.hid (mach_b _ _ _ _ hk2)⟩
  case rest =>
  obtain ⟨M, C, f, a, b, rfl, HM⟩ := hcut
  clear b0 b1 b2 b3 hn0
  obtain ⟨a1, _⟩ := cell_of_block ((HM.out.1.block g hl).trans N1.out) (k := 1) (v := .slice rp 0 rc) rfl
  obtain ⟨a3, _⟩ := cell_of_block ((HM.out.1.block g hl).trans N1.out) (k := 3) (v := .int .i64 0) rfl
  have hlg := Nat.lt_of_lt_of_le hl HM.out.1.size
  obtain ⟨w3, hw3⟩ : ∃ w3, w3 = wc := ⟨_, rfl⟩
  rw [← hw3] at HM a1 a3 hlg ⊢
  clear hw3 hmk
  have hs1 := H1.out.size
  have HE := Lib.hid (enter_first fb fo fc gp rp gc rc fuel (.string sb) M C 0 0 0 0 (.pointer none) none 0 0 (.func f a b) t none aq an 0 w3 HM.out.2.2.2.2 HM.out.2.2.2.1 (by have := HM.out.2.2.1; omega)
    (by have := HF.out.1; have := HM.out.1.size; omega) ⟨by have := HF.out.1; have := HM.out.2.1; have := HM.out.2.2.1; omega, by have := HF.out.1; have := HM.out.2.1; omega⟩
    (by rw [(H1.out.trans (HM.out.1.mono hs1)).cell (p := ⟨fb, fo + 1, none⟩) HF.out.1]; exact HF.out.2.1) (by rw [(H1.out.trans (HM.out.1.mono hs1)).cell (p := ⟨fb, fo + 2, none⟩) HF.out.1]; exact HF.out.2.2) ht hcap)
  go_wp2
  go_loopw [23] (fun i wr => i = .int .i64 0 ∧ wr = w3) (fun _ _ => 0)
  case atStart => exact ⟨rfl, rfl⟩
  case round =>
    obtain ⟨rfl, rfl⟩ := hrel
    go_wp2_with (
      go_at_call 56
      refine HE.out.mono ?_
      rintro e w4 ⟨rfl, cc, he, y0, y1, y2, y6, q, y3, yT⟩
      have HEN := Lib.hid he
      have HY := Lib.hid (And.intro y0 (And.intro y1 (And.intro y2 (And.intro y6 (And.intro y3 yT)))))
      clear he y0 y1 y2 y6 y3 yT)
    go_ret
    have hb := H1.out.trans (HM.out.1.mono hs1)
    have hen := HEN.out
    have hC := HM.out.2.1
    have hMM := HM.out.2.2.1
    refine ⟨M, C, cc, _, q, rfl, hb.trans ⟨hen.only.os, hen.only.tape, hen.only.output, hen.only.size, fun j hj => hen.only.out j (Nat.lt_of_lt_of_le hj hb.size) (by omega) (by omega)⟩, by omega, hMM, hen.mach, hen.row, HY.out.1, HY.out.2.1, HY.out.2.2.1, HY.out.2.2.2.1, HY.out.2.2.2.2.1, fun h => ?_⟩
    obtain ⟨T, e1, e2, e3⟩ := HY.out.2.2.2.2.2 h
    have hlm := lt_of_block HM.out.2.2.2.2
    exact ⟨T, e1, by omega, by omega, by have := hb.size; omega, e3⟩
end Go.Proofs.Ythaombggdchgbaa.Graph
