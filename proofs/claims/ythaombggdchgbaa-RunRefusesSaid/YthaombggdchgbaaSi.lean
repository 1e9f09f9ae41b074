/- The machine's goOn at a module of one block that returns: no fuel, or one step. -/
import Derived.Test.YthaombggdchgbaaSh
namespace Go.Proofs.Ythaombggdchgbaa.Graph
open Go.RowKit

/-- All but the block M is as it was; M holds the cells m. -/
structure Nr (M : Nat) (wa wb : World) (m : Array Value) : Prop where
  os : wb.os = wa.os
  tape : wb.tape = wa.tape
  output : wb.output = wa.output
  size : wa.heap.size ≤ wb.heap.size
  mach : wb.heap[M]? = some (.cells m 77 (0, 0))
  out : ∀ b, b < wa.heap.size → b ≠ M → wb.heap[b]? = wa.heap[b]?
theorem Nr.refl {M : Nat} {w : World} {m : Array Value} (h : w.heap[M]? = some (.cells m 77 (0, 0))) : Nr M w w m := ⟨rfl, rfl, rfl, Nat.le_refl _, h, fun _ _ _ => rfl⟩
theorem Nr.trans {M : Nat} {wa wb wc : World} {m m' : Array Value} (h : Nr M wa wb m) (k : Nr M wb wc m') : Nr M wa wc m' :=
  ⟨k.os.trans h.os, k.tape.trans h.tape, k.output.trans h.output, Nat.le_trans h.size k.size, k.mach, fun b hb hne => (k.out b (Nat.lt_of_lt_of_le hb h.size) hne).trans (h.out b hb hne)⟩
theorem Nr.drewN {M : Nat} {wa wb : World} {m : Array Value} (h : Nr M wa wb m) (n : Nat) : Nr M wa (wb.drewN n) m := ⟨h.os, h.tape, h.output, h.size, h.mach, h.out⟩
theorem Nr.set {M : Nat} {w : World} {m : Array Value} (h : w.heap[M]? = some (.cells m 77 (0, 0))) (k : Nat) (v : Value) : Nr M w (w.setCell ⟨M, k, none⟩ v) (m.setIfInBounds k v) :=
  ⟨rfl, rfl, rfl, by simp, heap_setCell_same w M k m _ v h, fun b _ hne => heap_setCell_other w ⟨M, k, none⟩ b v hne⟩
theorem Nr.same {M : Nat} {wa wb wc : World} {m : Array Value} (h : Nr M wa wb m) (hh : wc.heap = wb.heap) (h1 : wc.os = wa.os) (h2 : wc.tape = wa.tape) (h3 : wc.output = wa.output) : Nr M wa wc m :=
  ⟨h1, h2, h3, by rw [hh]; exact h.size, by rw [hh]; exact h.mach, fun b hb hne => by rw [hh]; exact h.out b hb hne⟩
theorem Nr.cell {M b o : Nat} {wa wb : World} {m : Array Value} (h : Nr M wa wb m) (hb : b < wa.heap.size) (hne : b ≠ M) : wb.cell? ⟨b, o, none⟩ = wa.cell? ⟨b, o, none⟩ := by
  unfold World.cell?
  rw [h.out b hb hne]
theorem set_ne {m : Array Value} {k j : Nat} {v u : Value} (h : m[j]? = some v) (hne : k ≠ j) : (m.setIfInBounds k u)[j]? = some v := by
  rw [Array.getElem?_setIfInBounds_ne hne]; exact h
theorem set_at {m : Array Value} {k : Nat} {v u : Value} (h : m[k]? = some v) : (m.setIfInBounds k u)[k]? = some u := Array.getElem?_setIfInBounds_self_of_lt (at_lt h)
structure Mc (C : Nat) (fuel steps stop : Int) (m : Array Value) : Prop where
  m9 : m[9]? = some (.slice none 0 0)
  m10 : m[10]? = some (.int .i64 fuel)
  m11 : m[11]? = some (.int .i64 steps)
  m12 : m[12]? = some (.int .i64 stop)
  m13 : m[13]? = some (.int .u32 0)
  m14 : m[14]? = some (.slice (some ⟨C, 0, none⟩) 1 50)
def Ended (M _C : Nat) (wa wb : World) : Prop := ∃ m steps stop, Nr M wa wb m ∧ (stop = 1 ∨ stop = 3) ∧ m[9]? = some (.slice none 0 0) ∧ m[11]? = some (.int .i64 steps) ∧ m[12]? = some (.int .i64 stop) ∧ m[13]? = some (.int .u32 0)
theorem step_onN {M C : Nat} {m : Array Value} {fuel : Int} {w : World} (hM : w.heap[M]? = some (.cells m 77 (0, 0))) (h : Mc C fuel 0 0 m) (hlt : 0 < fuel) (hf : fuel ≤ 1073741824) :
    Calls Try.prog 57 #[.pointer (some ⟨M, 0, none⟩)] w fun e w' => e = .returned (.bool true) ∧ Nr M w w' (m.setIfInBounds 11 (.int .i64 1)) := by
  refine (step_on M m 0 fuel w hM h.m10 h.m11 hlt (by omega) hf).mono ?_
  rintro e w' ⟨rfl, h1, h2, h3, h4⟩
  exact ⟨rfl, (Nr.set hM 11 (.int .i64 1)).same h1 h2 h3 h4⟩
theorem step_stopN {M C : Nat} {m : Array Value} {w : World} (hM : w.heap[M]? = some (.cells m 77 (0, 0))) (h : Mc C 0 0 0 m) :
    Calls Try.prog 57 #[.pointer (some ⟨M, 0, none⟩)] w fun e w' => e = .returned (.bool false) ∧ Ended M C w w' := by
  refine (step_stop M m 0 0 0 w hM h.m10 h.m11 h.m12 h.m13).mono ?_
  rintro e w' ⟨rfl, h1, h2, h3, h4⟩
  have k1 := Nr.set hM 12 (.int .i64 3)
  have k2 := k1.trans (Nr.set k1.mach 13 (.int .u32 0))
  exact ⟨rfl, _, 0, 3, k2.same h1 h2 h3 h4, .inr rfl, set_ne (set_ne h.m9 (by omega)) (by omega), set_ne (set_ne h.m11 (by omega)) (by omega), set_ne (set_at h.m12) (by omega), set_at (set_ne h.m13 (by omega))⟩
theorem leaveN {M C : Nat} {m : Array Value} {fuel : Int} {cv : Value} {w : World} (hM : w.heap[M]? = some (.cells m 77 (0, 0))) (h : Mc C fuel 1 0 m) :
    Calls Try.prog 60 #[.pointer (some ⟨M, 0, none⟩), cv, .int .i64 (-1)] w fun e w' => e = .returned (.tuple #[]) ∧ Ended M C w w' := by
  refine (leave_first M C m 0 0 cv w hM h.m14 h.m12 h.m13).mono ?_
  rintro e w' ⟨rfl, h1, h2, h3, h4⟩
  have k0 := Nr.set hM 14 (.slice (some ⟨C, 0, none⟩) 0 50)
  have k1 := k0.trans (Nr.set k0.mach 12 (.int .i64 1))
  have k2 := k1.trans (Nr.set k1.mach 13 (.int .u32 0))
  exact ⟨rfl, _, 1, 1, k2.same h1 h2 h3 h4, .inl rfl, set_ne (set_ne (set_ne h.m9 (by omega)) (by omega)) (by omega), set_ne (set_ne (set_ne h.m11 (by omega)) (by omega)) (by omega), set_ne (set_at (set_ne h.m12 (by omega))) (by omega), set_at (set_ne (set_ne h.m13 (by omega)) (by omega))⟩
structure G3 (C fb fo bb bo bc kc : Nat) (kq : Option Addr) (wr : World) : Prop where
  q0 : wr.cell? ⟨C, 0, none⟩ = some (.pointer (some ⟨fb, fo, none⟩))
  q1 : wr.cell? ⟨C, 1, none⟩ = some (.int .i64 0)
  q2 : wr.cell? ⟨C, 2, none⟩ = some (.int .i64 0)
  f3 : wr.cell? ⟨fb, fo + 3, none⟩ = some (.slice (some ⟨bb, bo, none⟩) 1 bc)
  b0 : wr.cell? ⟨bb, bo, none⟩ = some (.slice kq 0 kc)
  e0 : wr.cell? ⟨bb, bo + 1, none⟩ = some (.int .i64 5)
  e2 : wr.cell? ⟨bb, bo + 3, none⟩ = some (.int .i64 (-1))
  lc : C < wr.heap.size
  lf : fb < wr.heap.size
  lb : bb < wr.heap.size
theorem G3.go {C fb fo bb bo bc kc M : Nat} {kq : Option Addr} {wa wb : World} {m : Array Value} (h : G3 C fb fo bb bo bc kc kq wa) (hn : Nr M wa wb m) (hC : C ≠ M) (hf : fb ≠ M) (hb : bb ≠ M) : G3 C fb fo bb bo bc kc kq wb :=
  ⟨(hn.cell h.lc hC).trans h.q0, (hn.cell h.lc hC).trans h.q1, (hn.cell h.lc hC).trans h.q2, (hn.cell h.lf hf).trans h.f3, (hn.cell h.lb hb).trans h.b0, (hn.cell h.lb hb).trans h.e0, (hn.cell h.lb hb).trans h.e2, Nat.lt_of_lt_of_le h.lc hn.size, Nat.lt_of_lt_of_le h.lf hn.size, Nat.lt_of_lt_of_le h.lb hn.size⟩
theorem Ended.after {M C : Nat} {wa wb wc : World} {m : Array Value} (h : Nr M wa wb m) (k : Ended M C wb wc) : Ended M C wa wc := by
  obtain ⟨m', steps, stop, k1, k2⟩ := k
  exact ⟨m', steps, stop, h.trans k1, k2⟩
set_option maxHeartbeats 8000000 in
set_option maxRecDepth 100000 in
theorem goOn_bare {M C fb fo bb bo bc kc : Nat} {kq : Option Addr} {m : Array Value} {fuel : Int} {w0 : World} (hM : w0.heap[M]? = some (.cells m 77 (0, 0))) (h : Mc C fuel 0 0 m) (hg : G3 C fb fo bb bo bc kc kq w0) (hC : C ≠ M) (hf : fb ≠ M) (hb : bb ≠ M) (_hcb : 1 ≤ bc ∧ bc ≤ 9223372036854775807) (h0 : 0 ≤ fuel) (h1 : fuel ≤ 1073741824) :
    Calls Try.prog 28 #[.pointer (some ⟨M, 0, none⟩)] w0 fun e w' => e = .returned (.tuple #[]) ∧ Ended M C w0 w' := by
  have HG := Lib.hid hg
  have HM := Lib.hid hM
  have HK := Lib.hid h
  have hlm := lt_of_block hM
  obtain ⟨op, _⟩ := cell_of_block hM h.m14
  obtain ⟨q0, q1, q2, f3, b0, e0, e2, lc, lf, lb⟩ := hg
  clear hM h
  go_enter Try.func28, Try.ntmps28
  go_wp2
  go_quiet (fail)
  have N1 := Lib.hid ((Nr.refl HM.out).drewN nq)
  obtain ⟨w1, hw1⟩ : ∃ w1, w1 = w0.drewN nq := ⟨_, rfl⟩
  rw [← hw1] at N1 ⊢
  clear hw1 op q0 q1 q2 f3 b0 e0 e2 lc lf lb
  go_wp2
  go_loopw [3] (fun _ wr => Hid (Nr M w0 wr m)) (fun _ _ => 0)
  case atStart => exact N1
  case round =>
    obtain ⟨wo, rfl⟩ : ∃ wo, wo = wr := ⟨_, rfl⟩
    obtain ⟨q0, q1, q2, f3, b0, e0, e2, lc, lf, lb⟩ := HG.out.go hrel.out hC hf hb
    go_wp2
    go_quiet (fail)
    have N2 := Lib.hid (hrel.out.drewN nq)
    obtain ⟨w2, hw2⟩ : ∃ w2, w2 = wo.drewN nq := ⟨_, rfl⟩
    rw [← hw2] at N2 ⊢
    clear hw2 q0 q1 q2 f3 b0 e0 e2 lc lf lb
    go_wp2
    go_loopw [4] (fun _ wr => Hid (Nr M w0 wr m)) (fun _ _ => 0)
    case atStart => exact N2
    case round =>
      obtain ⟨q0, q1, q2, f3, b0, e0, e2, lc, lf, lb⟩ := HG.out.go hrel.out hC hf hb
      go_wp2
      go_quiet (fail)
      have N3 := Lib.hid (hrel.out.drewN nq)
      obtain ⟨w3, hw3⟩ : ∃ w3, w3 = wr.drewN nq := ⟨_, rfl⟩
      rw [← hw3] at N3 ⊢
      clear hw3 q0 q1 q2 f3 b0 e0 e2 lc lf lb
      by_cases hz : fuel = 0
      · subst hz
        go_wp2_with (
          go_at_call 57
          refine (step_stopN N3.out.mach HK.out).mono ?_
          rintro e w5 ⟨rfl, h5⟩
          have H5 := Lib.hid h5
          clear h5)
        exact bodyPost_ret (results_none rfl _ _ _) rfl ⟨rfl, H5.out.after N3.out⟩
      · have hlt : 0 < fuel := by omega
        go_wp2_with (first
          | (have hlater := N5
             go_at_call 60
             refine (leaveN N5.out.mach K5.out).mono ?_
             rintro e w6 ⟨rfl, h6⟩
             have H6 := Lib.hid h6
             clear h6)
          | (go_at_call 57
             refine (step_onN N3.out.mach HK.out hlt h1).mono ?_
             rintro e w5 ⟨rfl, h5⟩
             have N5 := Lib.hid (N3.out.trans h5)
             have K5 : Hid (Mc C fuel 1 0 (m.setIfInBounds 11 (.int .i64 1))) := Lib.hid ⟨set_ne HK.out.m9 (by omega), set_ne HK.out.m10 (by omega), set_at HK.out.m11, set_ne HK.out.m12 (by omega), set_ne HK.out.m13 (by omega), set_ne HK.out.m14 (by omega)⟩
             obtain ⟨q0, q1, q2, f3, b0, e0, e2, lc, lf, lb⟩ := HG.out.go N5.out hC hf hb
             clear h5))
        exact bodyPost_ret (results_none rfl _ _ _) rfl ⟨rfl, H6.out.after N5.out⟩
end Go.Proofs.Ythaombggdchgbaa.Graph
