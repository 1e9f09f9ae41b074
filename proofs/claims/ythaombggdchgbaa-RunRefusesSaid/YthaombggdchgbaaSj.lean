/- run.Run, at a module whose Check, start and goOn are known. -/
import Derived.Test.YthaombggdchgbaaSi
namespace Go.Proofs.Ythaombggdchgbaa.Graph
open Go.RowKit

def StartOk (M : Nat) (wx w1 : World) : Prop := Below wx.heap.size wx w1 ∧ M < w1.heap.size ∧ w1.cell? ⟨M, 12, none⟩ = some (.int .i64 0) ∧ wx.heap.size ≤ M
structure FinAt (M : Nat) (wx w1 : World) (stop code steps : Int) : Prop where
  below : Below wx.heap.size wx w1
  lm : M < w1.heap.size
  lo : wx.heap.size ≤ M
  m11 : w1.cell? ⟨M, 11, none⟩ = some (.int .i64 steps)
  m12 : w1.cell? ⟨M, 12, none⟩ = some (.int .i64 stop)
  m13 : w1.cell? ⟨M, 13, none⟩ = some (.int .u32 code)
def FinOk (V : Int → Int → ByteArray → Int → Prop) (M : Nat) (wx w1 : World) : Prop :=
  ∃ stop code steps str, 0 < stop ∧ V stop code str steps ∧ FinAt M wx w1 stop code steps ∧
    Calls Try.prog 29 #[.pointer (some ⟨M, 8, none⟩)] w1.drew fun e w2 => e = .returned (.string str) ∧ FinAt M wx w2 stop code steps
def stopOf (M : Nat) (w : World) : Nat := (intOf ((w.cell? ⟨M, 12, none⟩).getD (.int .i64 0))).toNat
def RunOk (V : Int → Int → ByteArray → Int → Prop) (w : World) (e : Ending) (w' : World) : Prop :=
  ∃ stop code steps str, V stop code str steps ∧ e = .returned (.tuple #[.agg #[.int .i64 stop, .int .u32 code, .string str, .int .i64 steps], .int .i64 0]) ∧ Below w.heap.size w w'
theorem StartOk.stop {M : Nat} {wx w1 : World} (h : StartOk M wx w1) : stopOf M w1 = 0 := by unfold stopOf; rw [h.2.2.1]; rfl
theorem FinAt.stop {M : Nat} {wx w1 : World} {stop code steps : Int} (h : FinAt M wx w1 stop code steps) : stopOf M w1 = stop.toNat := by unfold stopOf; rw [h.m12]; rfl
set_option maxHeartbeats 8000000 in
set_option maxRecDepth 100000 in
theorem run_core (gp rp : Option Addr) (gc rc fb fo fc : Nat) (s : ByteArray) (fuel : Int) (S : Nat → World → World → Prop) (V : Int → Int → ByteArray → Int → Prop) (w : World) (hs : s.size ≤ 10000) (h0 : 0 ≤ fuel) (h1 : fuel ≤ 1073741824)
    (HC : ∀ wx, Below w.heap.size w wx → Calls Try.prog 6 #[.agg #[.slice gp 0 gc, .slice rp 0 rc, .slice (some ⟨fb, fo, none⟩) 1 fc, .int .i64 0]] wx (Is (.tuple #[.int .i64 (-1), .int .i64 (-1), .int .i64 0]) wx))
    (HS : ∀ wx, Below w.heap.size w wx → Calls Try.prog 27 #[.agg #[.slice gp 0 gc, .slice rp 0 rc, .slice (some ⟨fb, fo, none⟩) 1 fc, .int .i64 0], .string s, .int .i64 fuel] wx fun e w' => ∃ M, e = .returned (.pointer (some ⟨M, 0, none⟩)) ∧ StartOk M wx w' ∧ S M wx w')
    (HG : ∀ M wx w1, Below w.heap.size w wx → StartOk M wx w1 → S M wx w1 → Calls Try.prog 28 #[.pointer (some ⟨M, 0, none⟩)] w1 fun e w' => e = .returned (.tuple #[]) ∧ FinOk V M wx w') :
    Calls Try.prog 10 #[.agg #[.slice gp 0 gc, .slice rp 0 rc, .slice (some ⟨fb, fo, none⟩) 1 fc, .int .i64 0], .string s, .int .i64 fuel] w (RunOk V w) := by
  have HC' := Lib.hid HC
  have HS' := Lib.hid HS
  have HG' := Lib.hid HG
  clear HC HS HG
  have e1 : decide ((s.size : Int) ≤ 10000) = true := by simp; omega
  have e2 : decide (10000 < (s.size : Int)) = false := by simp; omega
  have e3 : decide (fuel < 0) = false := by simp; omega
  have e4 : decide (1073741824 < fuel) = false := by simp; omega
  go_enter Try.func10, Try.ntmps10
  go_wp2_with (first
    | (have hlater := B3
       go_at_call 27
       refine (HS'.out _ B3.out).mono ?_
       rintro e w4 ⟨M, rfl, k1, k2⟩
       have K1 := Lib.hid k1
       have K2 := Lib.hid k2
       clear k1 k2)
    | (go_at_call 6
       refine (HC'.out _ (by exact below2 w _ _)).mono ?_
       rintro e w3 ⟨rfl, h3⟩
       have B3 : Hid (Below w.heap.size w w3) := Lib.hid (by exact below_then (below2 w _ _) h3)
       have BX : Box4 w3 w.heap.size (.slice gp 0 gc) (.slice rp 0 rc) (.slice (some ⟨fb, fo, none⟩) 1 fc) (.int .i64 0) := Box4.below ⟨by go_simp, by go_simp, by go_simp, by go_simp, by go_simp⟩ h3
       obtain ⟨x0, x1, x2, x3, x4⟩ := BX
       have O3 : Hid (w3.heap[w.heap.size + 1]? = some (.cells #[.int .i64 0, .int .u32 0, .string .empty, .int .i64 0] 46 (0, 0))) := Lib.hid (by
         rw [h3.block (w.heap.size + 1) (by simp [World.size_alloc])]
         have h := heap_new (w.alloc (.cells #[.slice gp 0 gc, .slice rp 0 rc, .slice (some ⟨fb, fo, none⟩) 1 fc, .int .i64 0] 26)) (.cells #[.int .i64 0, .int .u32 0, .string .empty, .int .i64 0] 46)
         rw [World.size_alloc] at h
         exact h)
       clear h3))
  have hM0 := K1.out.2.1
  have m12 := K1.out.2.2.1
  have O4 := Lib.hid ((K1.out.1.block _ (lt_of_block O3.out)).trans O3.out)
  have B4 := Lib.hid (below_then B3.out K1.out.1)
  clear x0 x1 x2 x3 x4 hM0 m12
  go_loopw [43] (fun _ wr => Hid (StartOk M w3 wr ∧ S M w3 wr ∨ FinOk V M w3 wr)) (fun _ wr => 1 - stopOf M wr)
  case atStart => exact Lib.hid (.inl ⟨K1.out, K2.out⟩)
  case round =>
    rcases hrel.out with ⟨k1, k2⟩ | k
    · have K3 := Lib.hid k1
      have K4 := Lib.hid k2
      have hM0 := k1.2.1
      have m12 := k1.2.2.1
      have HST := Lib.hid k1.stop
      clear k1 k2 hrel
      go_wp2_with (
        go_at_call 28
        refine (HG'.out M w3 _ B3.out K3.out K4.out).mono ?_
        rintro e w5 ⟨rfl, k5⟩
        have K5 := Lib.hid k5
        clear k5)
      refine ⟨Lib.hid (.inr K5.out), ?_⟩
      obtain ⟨stop, code, steps, str, hp, _, hf, _⟩ := K5.out
      rw [HST.out, hf.stop]
      omega
    · obtain ⟨stop, code, steps, str, hp, hv, hf, hst⟩ := k
      have HV := Lib.hid hv
      have HF := Lib.hid hf
      have HST := Lib.hid hst
      have hM0 := hf.lm
      have m11 := hf.m11
      have m12 := hf.m12
      have m13 := hf.m13
      have hne : (stop == 0) = false := by simp; omega
      clear hv hf hst hrel
      obtain ⟨wo, rfl⟩ : ∃ wo, wo = wr := ⟨_, rfl⟩
      have O5 := Lib.hid ((HF.out.below.block _ (lt_of_block O3.out)).trans O3.out)
      obtain ⟨o0, _⟩ := cell_of_block O5.out (k := 0) rfl
      have lo := lt_of_block O5.out
      obtain ⟨_, g0⟩ := cell_of_block O5.out (k := 0) rfl
      obtain ⟨_, g1⟩ := cell_of_block O5.out (k := 1) rfl
      obtain ⟨_, g2⟩ := cell_of_block O5.out (k := 2) rfl
      obtain ⟨_, g3⟩ := cell_of_block O5.out (k := 3) rfl
      go_wp2
      have hMO : M ≠ w.heap.size + 1 := by
        have := HF.out.lo
        have := lt_of_block O3.out
        omega
      have hOM : w.heap.size + 1 ≠ M := Ne.symm hMO
      go_region_held3 (fun w' => w'.cell? ⟨M, 11, none⟩ = some (.int .i64 steps) ∧ w'.cell? ⟨M, 12, none⟩ = some (.int .i64 stop) ∧ w'.cell? ⟨M, 13, none⟩ = some (.int .u32 code))
        (first
          | go_keep
          | exact ⟨n11, n12, n13⟩)
        ((go_at_call 29; refine HST.out.mono ?_; rintro e w6 ⟨rfl, hf6⟩; have HF6 := Lib.hid hf6; have hM6 := hf6.lm; have n11 := hf6.m11; have n12 := hf6.m12; have n13 := hf6.m13; have O6 := Lib.hid ((hf6.below.block _ (lt_of_block O3.out)).trans O3.out); obtain ⟨p0, q0⟩ := cell_of_block O6.out (k := 0) rfl; obtain ⟨p1, q1⟩ := cell_of_block O6.out (k := 1) rfl; obtain ⟨p2, q2⟩ := cell_of_block O6.out (k := 2) rfl; obtain ⟨p3, q3⟩ := cell_of_block O6.out (k := 3) rfl; have lo6 := lt_of_block O6.out; clear hf6))
      all_goals
        go_wp2
        refine bodyPost_ret (v := .tuple #[.agg #[.int .i64 stop, .int .u32 code, .string str, .int .i64 steps], .int .i64 0]) ?_ rfl ⟨stop, code, steps, str, HV.out, rfl, ?_⟩
        · simp [results, Try.results10, go_sem, p0, p1, p2, p3]
        · exact ((((below_then B3.out HF6.out.below).setCell (Nat.le_succ _) _).setCell (Nat.le_succ _) _).setCell (Nat.le_succ _) _).setCell (Nat.le_succ _) _
end Go.Proofs.Ythaombggdchgbaa.Graph
