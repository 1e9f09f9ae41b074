/- The machine's goOn in live's run: nine steps, then no fuel. -/
import Derived.Test.YthaombggdchgbaaSg
namespace Go.Proofs.Ythaombggdchgbaa.Graph
open Go.RowKit

def vk : Nat → Int
  | 0 => 0
  | 1 => 97
  | 2 => 98
  | _ => 4294967295
def rk : Nat → Int
  | 0 => 0
  | 1 => 1
  | _ => 2
def ck : Nat → Int
  | 0 => 97
  | 1 => 98
  | _ => 255
def stepsOf (M : Nat) (w : World) : Nat := (intOf ((w.cell? ⟨M, 11, none⟩).getD (.int .i64 0))).toNat
theorem St.stepsOf {x : Fx} {w wr : World} {rd v : Int} {n : Nat} {steps at_ stop : Int} (h : St x w rd v n steps at_ stop wr) : stepsOf x.M wr = steps.toNat := by
  obtain ⟨ad, bp, bc, h1, _, _⟩ := h.mach
  unfold Graph.stepsOf
  rw [(cell_of_block h1 (k := 11) (v := .int .i64 steps) rfl).1]
  rfl
structure G2 (x : Fx) (bb bo bc ib io ic : Nat) (at_ stop : Int) (wr : World) : Prop where
  q0 : wr.cell? ⟨x.C, 0, none⟩ = some (.pointer (some ⟨x.fb, x.fo, none⟩))
  q1 : wr.cell? ⟨x.C, 1, none⟩ = some (.int .i64 0)
  q2 : wr.cell? ⟨x.C, 2, none⟩ = some (.int .i64 at_)
  f1 : wr.frozen? ⟨x.C, 1, none⟩ = false
  f2 : wr.frozen? ⟨x.C, 2, none⟩ = false
  s : wr.cell? ⟨x.M, 12, none⟩ = some (.int .i64 stop)
  op : wr.cell? ⟨x.M, 14, none⟩ = some (.slice (some ⟨x.C, 0, none⟩) 1 50)
  f3 : wr.cell? ⟨x.fb, x.fo + 3, none⟩ = some (.slice (some ⟨bb, bo, none⟩) 1 bc)
  b0 : wr.cell? ⟨bb, bo, none⟩ = some (.slice (some ⟨ib, io, none⟩) 2 ic)
  e0 : wr.cell? ⟨bb, bo + 1, none⟩ = some (.int .i64 1)
  i0 : wr.cell? ⟨ib, io, none⟩ = some (.int .i64 30)
  j0 : wr.cell? ⟨ib, io + 8, none⟩ = some (.int .i64 31)
  lm : x.M < wr.heap.size
  lc : x.C < wr.heap.size
  lf : x.fb < wr.heap.size
  lb : bb < wr.heap.size
  li : ib < wr.heap.size
theorem St.g2 {x : Fx} {bb bo bc ib io ic : Nat} {w wr : World} {rd v : Int} {n : Nat} {steps at_ stop : Int} (h : St x w rd v n steps at_ stop wr) (hmd : Md x bb bo bc ib io ic w) : G2 x bb bo bc ib io ic at_ stop wr := by
  obtain ⟨ad, bp, bc', h1, _, _⟩ := h.mach
  obtain ⟨cc, h4, h5⟩ := h.row
  have hm := hmd.below h.below
  exact ⟨(cell_of_block h4 h5.c0).1, (cell_of_block h4 h5.c1).1, (cell_of_block h4 h5.c2).1, (cell_of_block h4 h5.c1).2, (cell_of_block h4 h5.c2).2, (cell_of_block h1 (k := 12) rfl).1, (cell_of_block h1 (k := 14) rfl).1, hm.f3, hm.b0, hm.e0, hm.i0, hm.j0, h.lm, h.lc,
    Nat.lt_of_lt_of_le hm.lf hm.lw, Nat.lt_of_lt_of_le hm.lb hm.lw, Nat.lt_of_lt_of_le hm.li hm.lw⟩
def OutR (x : Fx) (w wr : World) : Prop := ∃ k : Nat, k ≤ 3 ∧ St x w (rk k) (vk k) k (3 * k) 0 0 wr
def InR (x : Fx) (w : World) (k : Nat) (wr : World) : Prop :=
  St x w (rk k) (vk k) k (3 * k) 0 0 wr ∨ (k < 3 ∧ St x w (rk (k + 1)) (vk (k + 1)) k (3 * k + 1) 1 0 wr) ∨ (k < 3 ∧ St x w (rk (k + 1)) (vk (k + 1)) (k + 1) (3 * k + 2) 2 0 wr)
theorem get_k {k : Nat} (h : k < 3) : rk k = 0 ∧ vk (k + 1) = 97 ∧ rk (k + 1) = 1 ∨ rk k = 1 ∧ vk (k + 1) = 98 ∧ rk (k + 1) = 2 ∨ rk k = 2 ∧ vk (k + 1) = 4294967295 ∧ rk (k + 1) = 2 := by
  match k, h with
  | 0, _ => exact .inl ⟨rfl, rfl, rfl⟩
  | 1, _ => exact .inr (.inl ⟨rfl, rfl, rfl⟩)
  | 2, _ => exact .inr (.inr ⟨rfl, rfl, rfl⟩)
theorem put_k {k : Nat} (h : k < 3) : vk (k + 1) = 97 ∧ ck k = 97 ∧ k = 0 ∨ vk (k + 1) = 98 ∧ ck k = 98 ∧ k = 1 ∨ vk (k + 1) = 4294967295 ∧ ck k = 255 ∧ k = 2 := by
  match k, h with
  | 0, _ => exact .inl ⟨rfl, rfl, rfl⟩
  | 1, _ => exact .inr (.inl ⟨rfl, rfl, rfl⟩)
  | 2, _ => exact .inr (.inr ⟨rfl, rfl, rfl⟩)
set_option maxHeartbeats 8000000 in
set_option maxRecDepth 100000 in
theorem goOn_live {x : Fx} {bb bo bc ib io ic : Nat} {w w0 : World} (hmd : Md x bb bo bc ib io ic w) (h : St x w 0 0 0 0 0 0 w0) :
    Calls Try.prog 28 #[.pointer (some ⟨x.M, 0, none⟩)] w0 fun e w' => e = .returned (.tuple #[]) ∧ St x w 2 4294967295 3 9 0 3 w' := by
  have HMD := Lib.hid hmd
  have hS := Lib.hid h
  have hcb := hmd.cb
  have hci := hmd.ci
  have nci : x.C ≠ ib := by have := hmd.li; have := h.ok.bc; omega
  have nci2 : ib ≠ x.C := Ne.symm nci
  obtain ⟨q0, q1, q2, f1, f2, s, op, f3, b0, e0, i0, j0, lm, lc, lf, lb, li⟩ := h.g2 hmd
  clear h hmd
  go_enter Try.func28, Try.ntmps28
  go_wp2
  go_quiet (fail)
  have hS1 := Lib.hid (hS.out.drewN nq)
  obtain ⟨w1, hw1⟩ : ∃ w1, w1 = w0.drewN nq := ⟨_, rfl⟩
  rw [← hw1] at hS1 ⊢
  clear hw1 q0 q1 q2 f1 f2 s op f3 b0 e0 i0 j0 lm lc lf lb li
  go_wp2
  go_loopw [3] (fun _ wr => OutR x w wr) (fun _ wr => 9 - stepsOf x.M wr)
  case atStart => exact ⟨0, by omega, hS1.out⟩
  case round =>
    obtain ⟨wo, rfl⟩ : ∃ wo, wo = wr := ⟨_, rfl⟩
    obtain ⟨k, hk3, hk⟩ := hrel
    have hSK := Lib.hid hk
    obtain ⟨q0, q1, q2, f1, f2, s, op, f3, b0, e0, i0, j0, lm, lc, lf, lb, li⟩ := hk.g2 HMD.out
    have HMS := Lib.hid hk.stepsOf
    clear hk
    go_wp2
    go_quiet (fail)
    have hS2 := Lib.hid (hSK.out.drewN nq)
    obtain ⟨w2, hw2⟩ : ∃ w2, w2 = wo.drewN nq := ⟨_, rfl⟩
    rw [← hw2] at hS2 ⊢
    clear hw2 q0 q1 q2 f1 f2 s op f3 b0 e0 i0 j0 lm lc lf lb li
    go_wp2
    go_loopw [4] (fun _ wr => InR x w k wr) (fun _ wr => 10 - stepsOf x.M wr)
    case atStart => exact .inl hS2.out
    case round =>
      rcases hrel with h3 | ⟨hlt, h3⟩ | ⟨hlt, h3⟩
      · have hS3 := Lib.hid h3
        have HMS3 := Lib.hid h3.stepsOf
        clear h3
        by_cases hlt : k < 3
        ·
          obtain ⟨q0, q1, q2, f1, f2, s, op, f3, b0, e0, i0, j0, lm, lc, lf, lb, li⟩ := hS3.out.g2 HMD.out
          go_wp2
          go_quiet (fail)
          have hS4 := Lib.hid (hS3.out.drewN nq)
          obtain ⟨w4, hw4⟩ : ∃ w4, w4 = wr.drewN nq := ⟨_, rfl⟩
          rw [← hw4] at hS4 ⊢
          clear hw4 q0 q1 q2 f1 f2 s op f3 b0 e0 i0 j0 lm lc lf lb li
          go_wp2_with (
            go_at_call 57
            refine (step_st hS4.out (by omega) (by omega)).mono ?_
            rintro e w5 ⟨rfl, h5⟩
            have hS5 := Lib.hid h5
            obtain ⟨q0, q1, q2, f1, f2, s, op, f3, b0, e0, i0, j0, lm, lc, lf, lb, li⟩ := h5.g2 HMD.out
            clear h5)
          go_quiet (fail)
          have hS6 := Lib.hid (hS5.out.drewN nq)
          obtain ⟨w6, hw6⟩ : ∃ w6, w6 = w5.drewN nq := ⟨_, rfl⟩
          rw [← hw6] at hS6 ⊢
          clear hw6 q0 q1 q2 f1 f2 s op f3 b0 e0 i0 j0 lm lc lf lb li
          obtain ⟨q0, q1, q2, f1, f2, s, op, f3, b0, e0, i0, j0, lm, lc, lf, lb, li⟩ := hS6.out.g2 HMD.out
          go_wp2_with (
            go_at_call 59
            refine (do_getc HMD.out (hS6.out.setRow (a' := 1) (k := 2) (u := .int .i64 1) (fun _ h => h.put 1)) (get_k hlt)).mono ?_
            rintro e w7 ⟨rfl, h7⟩
            have hS7 := Lib.hid h7
            clear q0 q1 q2 f1 f2 s op f3 b0 e0 i0 j0 lm lc lf lb li
            obtain ⟨q0, q1, q2, f1, f2, s, op, f3, b0, e0, i0, j0, lm, lc, lf, lb, li⟩ := h7.g2 HMD.out
            clear h7)
          exact ⟨.inr (.inl ⟨hlt, hS7.out⟩), by rw [hS7.out.stepsOf, HMS3.out]; omega⟩
        · obtain rfl : k = 3 := by omega
          obtain ⟨q0, q1, q2, f1, f2, s, op, f3, b0, e0, i0, j0, lm, lc, lf, lb, li⟩ := hS3.out.g2 HMD.out
          go_wp2
          go_quiet (fail)
          have hS4 := Lib.hid (hS3.out.drewN nq)
          obtain ⟨w4, hw4⟩ : ∃ w4, w4 = wr.drewN nq := ⟨_, rfl⟩
          rw [← hw4] at hS4 ⊢
          clear hw4 q0 q1 q2 f1 f2 s op f3 b0 e0 i0 j0 lm lc lf lb li
          go_wp2_with (
            go_at_call 57
            refine (step_st9 hS4.out).mono ?_
            rintro e w5 ⟨rfl, h5⟩
            have hS5 := Lib.hid h5
            clear h5)
          exact bodyPost_ret (results_none rfl _ _ _) rfl ⟨rfl, hS5.out⟩
      · have hS3 := Lib.hid h3
        have HMS3 := Lib.hid h3.stepsOf
        clear h3
        ·
          obtain ⟨q0, q1, q2, f1, f2, s, op, f3, b0, e0, i0, j0, lm, lc, lf, lb, li⟩ := hS3.out.g2 HMD.out
          go_wp2
          go_quiet (fail)
          have hS4 := Lib.hid (hS3.out.drewN nq)
          obtain ⟨w4, hw4⟩ : ∃ w4, w4 = wr.drewN nq := ⟨_, rfl⟩
          rw [← hw4] at hS4 ⊢
          clear hw4 q0 q1 q2 f1 f2 s op f3 b0 e0 i0 j0 lm lc lf lb li
          go_wp2_with (
            go_at_call 57
            refine (step_st hS4.out (by omega) (by omega)).mono ?_
            rintro e w5 ⟨rfl, h5⟩
            have hS5 := Lib.hid h5
            obtain ⟨q0, q1, q2, f1, f2, s, op, f3, b0, e0, i0, j0, lm, lc, lf, lb, li⟩ := h5.g2 HMD.out
            clear h5)
          go_quiet (fail)
          have hS6 := Lib.hid (hS5.out.drewN nq)
          obtain ⟨w6, hw6⟩ : ∃ w6, w6 = w5.drewN nq := ⟨_, rfl⟩
          rw [← hw6] at hS6 ⊢
          clear hw6 q0 q1 q2 f1 f2 s op f3 b0 e0 i0 j0 lm lc lf lb li
          obtain ⟨q0, q1, q2, f1, f2, s, op, f3, b0, e0, i0, j0, lm, lc, lf, lb, li⟩ := hS6.out.g2 HMD.out
          go_wp2_with (
            go_at_call 59
            refine (do_putc HMD.out (hS6.out.setRow (a' := 2) (k := 2) (u := .int .i64 2) (fun _ h => h.put 2)) (put_k hlt)).mono ?_
            rintro e w7 ⟨rfl, h7⟩
            have hS7 := Lib.hid h7
            clear q0 q1 q2 f1 f2 s op f3 b0 e0 i0 j0 lm lc lf lb li
            obtain ⟨q0, q1, q2, f1, f2, s, op, f3, b0, e0, i0, j0, lm, lc, lf, lb, li⟩ := h7.g2 HMD.out
            clear h7)
          exact ⟨.inr (.inr ⟨hlt, hS7.out⟩), by rw [hS7.out.stepsOf, HMS3.out]; omega⟩
      · have hS3 := Lib.hid h3
        have HMS3 := Lib.hid h3.stepsOf
        clear h3
        ·
          obtain ⟨q0, q1, q2, f1, f2, s, op, f3, b0, e0, i0, j0, lm, lc, lf, lb, li⟩ := hS3.out.g2 HMD.out
          go_wp2
          go_quiet (fail)
          have hS4 := Lib.hid (hS3.out.drewN nq)
          obtain ⟨w4, hw4⟩ : ∃ w4, w4 = wr.drewN nq := ⟨_, rfl⟩
          rw [← hw4] at hS4 ⊢
          clear hw4 q0 q1 q2 f1 f2 s op f3 b0 e0 i0 j0 lm lc lf lb li
          obtain ⟨q0, q1, q2, f1, f2, s, op, f3, b0, e0, i0, j0, lm, lc, lf, lb, li⟩ := hS4.out.g2 HMD.out
          go_wp2_with (first
            | (have hlater := hS5
               go_at_call 61
               refine (target_live HMD.out hS5.out).mono ?_
               rintro e w6 ⟨rfl, rfl⟩)
            | (go_at_call 57
               refine (step_st hS4.out (by omega) (by omega)).mono ?_
               rintro e w5 ⟨rfl, h5⟩
               have hS5 := Lib.hid h5
               clear q0 q1 q2 f1 f2 s op f3 b0 e0 i0 j0 lm lc lf lb li
               obtain ⟨q0, q1, q2, f1, f2, s, op, f3, b0, e0, i0, j0, lm, lc, lf, lb, li⟩ := h5.g2 HMD.out
               clear h5))
          have hS6 := Lib.hid ((hS5.out.setRow (a' := 2) (k := 1) (u := .int .i64 0) (fun _ h => h.put1)).setRow (a' := 0) (k := 2) (u := .int .i64 0) (fun _ h => h.put 0))
          have e3 : (3 * (k : Int) + 2 + 1) = 3 * ((k + 1 : Nat) : Int) := by omega
          rw [e3] at hS6
          exact ⟨⟨k + 1, by omega, hS6.out⟩, by rw [hS6.out.stepsOf, HMS.out]; omega⟩
end Go.Proofs.Ythaombggdchgbaa.Graph
