/- RunRefuses. -/
import Derived.Test.YthaombggdchgbaaSl
namespace Go.Proofs.Ythaombggdchgbaa.Graph
open Go.RowKit

theorem neg_mod {n : Int} (h : n < 0) : ∃ k : Nat, k ≤ 20000 ∧ -(n + 1).tmod 20001 = (k : Int) := by
  have e : (n + 1).tmod 20001 = -((-(n + 1)) % 20001) := by
    have h1 : (-(-(n + 1))).tmod 20001 = -((-(n + 1)).tmod 20001) := Int.neg_tmod _ _
    rw [Int.neg_neg] at h1
    rw [h1, Int.tmod_eq_emod_of_nonneg (by omega)]
  rw [e]
  exact ⟨((-(n + 1)) % 20001).toNat, by omega, by omega⟩
theorem pos_mod (n : Int) : ∃ k : Nat, k ≤ 20000 ∧ n % 20001 = (k : Int) := ⟨(n % 20001).toNat, by omega, by omega⟩
def zeroS (k : Nat) : ByteArray := ⟨(List.replicate k (0 : UInt8)).toArray⟩
theorem zeroS_size (k : Nat) : (zeroS k).size = k := by simp [zeroS, ByteArray.size]
theorem make_bytes (k : Nat) (hk : k ≤ 20000) (w : World) : (Instr.makeSlice 49 (.int .i64 (k : Int)) (.int .i64 (k : Int))).run Try.prog w = .ok (.slice (some ⟨w.heap.size, 0, none⟩) k k) (w.alloc (.cells (madeCells #[.int .u8 0] k) 5)) :=
  run_make_row' (P := Try.prog) 49 5 (.int .u8 0) 1 Try.underlying49 (by kernel_rfl) rfl .i64 .i64 k (by omega) (by omega) w
theorem conv_bytes (g k : Nat) (w : World) (h : w.heap[g]? = some (.cells (madeCells #[.int .u8 0] k) 5 (0, 0))) : (convert 49 9 (.slice (some ⟨g, 0, none⟩) k k)).run Try.prog w = .ok (.string (zeroS k)) w := by
  have hl : (List.replicate k (0 : UInt8)).length = k := by simp
  have h1 := run_convert_bytes_back (P := Try.prog) w 49 9 5 ⟨g, 0, none⟩ k (List.replicate k 0) Try.underlying49 Try.underlying5 Try.underlying9 (fun j hj => by
    have hj' : j < k := by simpa using hj
    have hc : (madeCells #[Value.int .u8 0] k)[j]? = some (.int .u8 0) := by
      rw [← Array.getElem?_toList, toList_madeCells_one]
      simp [hj']
    have := (cell_of_block h hc).1
    have e1 : (⟨g, 0, none⟩ : Addr).add j = ⟨g, j, none⟩ := by
      cases j <;> simp [Addr.add]
    have e2 : ((List.replicate k (0 : UInt8))[j]).toNat = 0 := by simp
    rw [e1, this, e2]
    rfl)
  rw [hl] at h1
  exact h1
theorem set4 (wa : World) (o : Nat) (x y z u a b c d : Value) (t : TypeId) (h : wa.heap[o]? = some (.cells #[x, y, z, u] t (0, 0))) : ((((wa.setCell ⟨o, 0, none⟩ a).setCell ⟨o, 1, none⟩ b).setCell ⟨o, 2, none⟩ c).setCell ⟨o, 3, none⟩ d).heap[o]? = some (.cells #[a, b, c, d] t (0, 0)) :=
  heap_setCell_same _ o 3 _ t d (heap_setCell_same _ o 2 _ t c (heap_setCell_same _ o 1 _ t b (heap_setCell_same _ o 0 _ t a h)))
theorem below4 {B : Nat} {w wa : World} (o : Nat) (a b c d : Value) (h : Below B w wa) (ho : B ≤ o) : Below B w ((((wa.setCell ⟨o, 0, none⟩ a).setCell ⟨o, 1, none⟩ b).setCell ⟨o, 2, none⟩ c).setCell ⟨o, 3, none⟩ d) :=
  (((h.setCell (p := ⟨o, 0, none⟩) ho a).setCell (p := ⟨o, 1, none⟩) ho b).setCell (p := ⟨o, 2, none⟩) ho c).setCell (p := ⟨o, 3, none⟩) ho d
theorem lt2 (w : World) (a b : Obj) (j : Nat) (h : j < w.heap.size + 1 + 1) : j < ((w.alloc a).alloc b).drew.heap.size := by
  show j < ((w.alloc a).alloc b).heap.size
  rw [World.size_alloc, World.size_alloc]
  exact h
theorem new2 (w : World) (a b : Obj) : ((w.alloc a).alloc b).heap[w.heap.size + 1]? = some b := by
  have h := heap_new (w.alloc a) b
  rw [World.size_alloc] at h
  exact h
theorem below_d1 (w : World) (a : Obj) : Below w.heap.size w (w.drew.alloc a) := (Below.refl _ _).drew.alloc (Nat.le_refl _) a
theorem below_d2 (w : World) (a b : Obj) : Below w.heap.size w ((w.drew.alloc a).alloc b) := (below_d1 w a).alloc (below_d1 w a).size b
def errN (b : Bool) : Int := if b then 1 else 0
def RunE (bad : Bool) (w : World) (e : Ending) (w' : World) : Prop :=
  Below w.heap.size w w' ∧ ∃ stop code str steps, e = .returned (.tuple #[.agg #[.int .i64 stop, .int .u32 code, .string str, .int .i64 steps], .int .i64 (errN bad)]) ∧ (bad = true → stop = 0 ∧ code = 0 ∧ str = ⟨#[]⟩ ∧ steps = 0)
theorem run_e (k : Nat) (fuel : Int) (g : Nat) (w : World) (hM : ModL w (.slice none 0 0) (.slice none 0 0) (.slice (some ⟨g, 0, none⟩) 1 1) (oneM goodB)) :
    Calls Try.prog 10 #[.agg #[.slice none 0 0, .slice none 0 0, .slice (some ⟨g, 0, none⟩) 1 1, .int .i64 0], .string (zeroS k), .int .i64 fuel] w (RunE (decide (10000 < k ∨ fuel < 0 ∨ 1073741824 < fuel)) w) := by
  by_cases h : 10000 < k ∨ fuel < 0 ∨ 1073741824 < fuel
  · refine (run_no none none (some ⟨g, 0, none⟩) 0 0 0 0 1 1 0 (zeroS k) fuel w (by rw [zeroS_size]; exact h)).mono ?_
    rintro e w' ⟨rfl, hb⟩
    rw [decide_eq_true h]
    exact ⟨hb, 0, 0, ⟨#[]⟩, 0, rfl, fun _ => ⟨rfl, rfl, rfl, rfl⟩⟩
  · refine (run_bare _ _ _ (zeroS k) fuel w hM (by rw [zeroS_size]; omega) (by omega) (by omega)).mono ?_
    rintro e w' ⟨stop, code, steps, str, _, rfl, hb⟩
    rw [decide_eq_false h]
    exact ⟨hb, stop, code, str, steps, rfl, fun h => by cases h⟩
set_option maxHeartbeats 16000000 in
set_option maxRecDepth 100000 in
theorem runRefuses_neg (n fuel : Int) (w : World) (hn : -9223372036854775808 ≤ n ∧ n ≤ 9223372036854775807) (hneg : n < 0) :
    Calls Try.prog 4 #[.int .i64 n, .int .i64 fuel] w (Is (.bool true) w) := by
  obtain ⟨n0, n1⟩ := hn
  have hp : 0 ≤ -(n + 1) := by omega
  go_enter Try.func4, Try.ntmps4
  go_upto_region 4 with (fail)
  obtain ⟨k, hk, he⟩ := neg_mod hneg
  rw [he]
  clear he hp hneg n0 n1
  go_upto_region 5 with (fail)
  obtain ⟨k0, k1, k2, _, kb⟩ := allocs3R w (.cells (blkAR (.slice none 0 0)) 40) (.cells (grAR w.heap.size) 44) (.cells #[.slice none 0 0, .slice none 0 0, .slice (some ⟨w.heap.size + 1, 0, none⟩) 1 1, .int .i64 0] 26)
  have HM := Lib.hid (mod_liesR k0 k1 (nil_codeR _ _ _))
  have HB := Lib.hid kb
  obtain ⟨w1, hw1⟩ : ∃ w1, w1 = (((w.alloc (.cells (blkAR (.slice none 0 0)) 40)).alloc (.cells (grAR w.heap.size) 44)).alloc (.cells #[.slice none 0 0, .slice none 0 0, .slice (some ⟨w.heap.size + 1, 0, none⟩) 1 1, .int .i64 0] 26)) := ⟨_, rfl⟩
  rw [← hw1] at HM HB k2
  unfold blkAR grAR at hw1
  rw [← hw1]
  clear hw1 k0 k1 kb
  obtain ⟨c0, _⟩ := cell_of_block k2 (k := 0) rfl
  obtain ⟨c1, _⟩ := cell_of_block k2 (k := 1) rfl
  obtain ⟨c2, _⟩ := cell_of_block k2 (k := 2) rfl
  obtain ⟨c3, _⟩ := cell_of_block k2 (k := 3) rfl
  have hl := lt_of_block k2
  clear k2
  have hmk := fun wx => make_bytes k hk wx
  have hcv0 := conv_bytes w1.heap.size k (w1.alloc (.cells (madeCells #[.int .u8 0] k) 5)) (heap_new w1 _)
  have hcv1 := conv_bytes w1.heap.size k (w1.alloc (.cells (madeCells #[.int .u8 0] k) 5)).drew (heap_new w1 _)
  have hcv2 := fun (o : Obj) => conv_bytes w1.heap.size k ((w1.alloc (.cells (madeCells #[.int .u8 0] k) 5)).alloc o).drew ((Below.heap_alloc _ _ _ (by simp [World.size_alloc])).trans (heap_new w1 _))
  have hcv3 := fun (o : Obj) => conv_bytes (w1.heap.size + 1) k ((w1.alloc o).alloc (.cells (madeCells #[.int .u8 0] k) 5)).drew (by have h := heap_new (w1.alloc o) (.cells (madeCells #[.int .u8 0] k) 5); rw [World.size_alloc] at h; exact h)
  obtain ⟨bad, hbd⟩ : ∃ bad, bad = decide (10000 < k ∨ fuel < 0 ∨ 1073741824 < fuel) := ⟨_, rfl⟩
  have HBD := Lib.hid hbd
  have HR : Hid (∀ (wx : World), Below w1.heap.size w1 wx → Calls Try.prog 10 #[.agg #[.slice none 0 0, .slice none 0 0, .slice (some ⟨w.heap.size + 1, 0, none⟩) 1 1, .int .i64 0], .string (zeroS k), .int .i64 fuel] wx (RunE bad wx)) := Lib.hid (fun (wx : World) (hx : Below w1.heap.size w1 wx) => by rw [hbd]; exact run_e k fuel _ wx (HM.out.below hx))
  clear hbd
  go_cut [6, 7] (fun p v wc => ∃ O stop code str steps, p = .pointer (some ⟨O, 0, none⟩) ∧ v = .int .i64 (errN bad) ∧ Hid (Below w.heap.size w wc ∧ wc.heap[O]? = some (.cells #[.int .i64 stop, .int .u32 code, .string str, .int .i64 steps] 46 (0, 0)) ∧ (bad = true → stop = 0 ∧ code = 0 ∧ str = ⟨#[]⟩ ∧ steps = 0)))
  case first =>
    have hn1 : w1.heap.size ≠ w.heap.size + 1 + 1 := Nat.ne_of_gt hl
    have hn3 : w1.heap.size + 1 ≠ w.heap.size + 1 + 1 := by omega
    have hn4 : w.heap.size + 1 ≠ w1.heap.size := by omega
    have hn5 : w1.heap.size ≠ w.heap.size + 1 := by omega
    have hn6 : ¬ w.heap.size + 1 + 1 = w1.heap.size := by omega
    have hn7 : ¬ w.heap.size + 1 + 1 = w1.heap.size + 1 := by omega
    have hlA : w.heap.size + 1 < w1.heap.size := by omega
    have hlB : w.heap.size < w1.heap.size := by omega
    go_region_with (first
      | (go_at_call 10
         refine (HR.out _ (by exact (below_alloc w1 _).drew)).mono ?_
         rintro e w2 ⟨h2, stop, code, str, steps, rfl, hbad⟩
         have HBAD := Lib.hid hbad
         have hk : Below w1.heap.size w1 w2 := below_then (below_alloc w1 (.cells (madeCells #[.int .u8 0] k) 5)).drew h2
         have HK := Lib.hid hk
         have x0 := (hk.cell (p := ⟨w.heap.size + 1 + 1, 0, none⟩) hl).trans c0
         have x1 := (hk.cell (p := ⟨w.heap.size + 1 + 1, 1, none⟩) hl).trans c1
         have x2 := (hk.cell (p := ⟨w.heap.size + 1 + 1, 2, none⟩) hl).trans c2
         have x3 := (hk.cell (p := ⟨w.heap.size + 1 + 1, 3, none⟩) hl).trans c3
         have hl2 : w.heap.size + 1 + 1 < w2.heap.size := Nat.lt_of_lt_of_le hl hk.size
         have hn2 : w2.heap.size ≠ w.heap.size + 1 + 1 := Nat.ne_of_gt hl2
         clear h2 hbad hk)
      | (go_at_call 10
         refine (HR.out _ (by exact (below2 w1 (.cells (madeCells #[.int .u8 0] k) 5) (.cells #[.int .i64 0, .int .u32 0, .string ⟨#[]⟩, .int .i64 0] 46)).drew)).mono ?_
         rintro e w2 ⟨h2, stop, code, str, steps, rfl, hbad⟩
         have HBAD := Lib.hid hbad
         have hk : Below w1.heap.size w1 w2 := below_then (below2 w1 (.cells (madeCells #[.int .u8 0] k) 5) (.cells #[.int .i64 0, .int .u32 0, .string ⟨#[]⟩, .int .i64 0] 46)).drew h2
         have HK := Lib.hid hk
         have x0 := (hk.cell (p := ⟨w.heap.size + 1 + 1, 0, none⟩) hl).trans c0
         have x1 := (hk.cell (p := ⟨w.heap.size + 1 + 1, 1, none⟩) hl).trans c1
         have x2 := (hk.cell (p := ⟨w.heap.size + 1 + 1, 2, none⟩) hl).trans c2
         have x3 := (hk.cell (p := ⟨w.heap.size + 1 + 1, 3, none⟩) hl).trans c3
         have hl2 : w.heap.size + 1 + 1 < w2.heap.size := Nat.lt_of_lt_of_le hl hk.size
         have hn2 : w2.heap.size ≠ w.heap.size + 1 + 1 := Nat.ne_of_gt hl2
         have hO : w2.heap[w1.heap.size + 1]? = some (.cells #[.int .i64 0, .int .u32 0, .string ⟨#[]⟩, .int .i64 0] 46 (0, 0)) := (h2.block (w1.heap.size + 1) (lt2 w1 _ _ (w1.heap.size + 1) (Nat.lt_succ_self _))).trans (new2 w1 (.cells (madeCells #[.int .u8 0] k) 5) (.cells #[.int .i64 0, .int .u32 0, .string ⟨#[]⟩, .int .i64 0] 46))
         obtain ⟨o0, g0⟩ := cell_of_block hO (k := 0) rfl
         obtain ⟨o1, g1⟩ := cell_of_block hO (k := 1) rfl
         obtain ⟨o2, g2⟩ := cell_of_block hO (k := 2) rfl
         obtain ⟨o3, g3⟩ := cell_of_block hO (k := 3) rfl
         have lO := lt_of_block hO
         have HO := Lib.hid hO
         clear hO
         clear h2 hbad hk)
      | (go_at_call 10
         refine (HR.out _ (by exact (below2 w1 (.cells #[.int .i64 0, .int .u32 0, .string ⟨#[]⟩, .int .i64 0] 46) (.cells (madeCells #[.int .u8 0] k) 5)).drew)).mono ?_
         rintro e w2 ⟨h2, stop, code, str, steps, rfl, hbad⟩
         have HBAD := Lib.hid hbad
         have hk : Below w1.heap.size w1 w2 := below_then (below2 w1 (.cells #[.int .i64 0, .int .u32 0, .string ⟨#[]⟩, .int .i64 0] 46) (.cells (madeCells #[.int .u8 0] k) 5)).drew h2
         have HK := Lib.hid hk
         have x0 := (hk.cell (p := ⟨w.heap.size + 1 + 1, 0, none⟩) hl).trans c0
         have x1 := (hk.cell (p := ⟨w.heap.size + 1 + 1, 1, none⟩) hl).trans c1
         have x2 := (hk.cell (p := ⟨w.heap.size + 1 + 1, 2, none⟩) hl).trans c2
         have x3 := (hk.cell (p := ⟨w.heap.size + 1 + 1, 3, none⟩) hl).trans c3
         have hl2 : w.heap.size + 1 + 1 < w2.heap.size := Nat.lt_of_lt_of_le hl hk.size
         have hn2 : w2.heap.size ≠ w.heap.size + 1 + 1 := Nat.ne_of_gt hl2
         have hO : w2.heap[w1.heap.size]? = some (.cells #[.int .i64 0, .int .u32 0, .string ⟨#[]⟩, .int .i64 0] 46 (0, 0)) := (h2.block (w1.heap.size) (lt2 w1 _ _ (w1.heap.size) (Nat.lt_succ_of_lt (Nat.lt_succ_self _)))).trans ((Below.heap_alloc _ _ _ (by rw [World.size_alloc]; exact Nat.lt_succ_self _)).trans (heap_new w1 (.cells #[.int .i64 0, .int .u32 0, .string ⟨#[]⟩, .int .i64 0] 46)))
         obtain ⟨o0, g0⟩ := cell_of_block hO (k := 0) rfl
         obtain ⟨o1, g1⟩ := cell_of_block hO (k := 1) rfl
         obtain ⟨o2, g2⟩ := cell_of_block hO (k := 2) rfl
         obtain ⟨o3, g3⟩ := cell_of_block hO (k := 3) rfl
         have lO := lt_of_block hO
         have HO := Lib.hid hO
         clear hO
         clear h2 hbad hk))
    all_goals
      go_wp2_with fail
      go_meet
      have hbb := below_then HB.out HK.out
      first
        | exact ⟨_, stop, code, str, steps, rfl, rfl, Lib.hid ⟨below_then hbb (below_alloc w2 _), heap_new w2 _, HBAD.out⟩⟩
        | exact ⟨_, stop, code, str, steps, rfl, rfl, Lib.hid ⟨below4 _ _ _ _ _ hbb (by have := HB.out.size; omega), set4 _ _ _ _ _ _ _ _ _ _ _ HO.out, HBAD.out⟩⟩
  case rest =>
  obtain ⟨O, stop, code, str, steps, rfl, rfl, HF⟩ := hcut
  obtain ⟨w3, hw3⟩ : ∃ w3, w3 = wc := ⟨_, rfl⟩
  rw [← hw3] at HF ⊢
  obtain ⟨p0, _⟩ := cell_of_block HF.out.2.1 (k := 0) rfl
  obtain ⟨p1, _⟩ := cell_of_block HF.out.2.1 (k := 1) rfl
  obtain ⟨p2, _⟩ := cell_of_block HF.out.2.1 (k := 2) rfl
  obtain ⟨p3, _⟩ := cell_of_block HF.out.2.1 (k := 3) rfl
  have lO := lt_of_block HF.out.2.1
  clear hw3 c0 c1 c2 c3 hl hmk hcv0 hcv1 hcv2 hcv3 HR
  have hbd := HBD.out
  cases bad
  · have hno : ¬ (10000 < k ∨ fuel < 0 ∨ 1073741824 < fuel) := by simpa using hbd
    have e2 : decide (10000 < (k : Int)) = false := by simp; omega
    have e3 : decide (fuel < 0) = false := by simp; omega
    have e4 : decide (1073741824 < fuel) = false := by simp; omega
    have e5 : errN false = 0 := rfl
    clear hno hbd
    go_wp2_with (
      go_at_call 11
      refine (runLive_any _).mono ?_
      rintro e w4 ⟨rfl, h4⟩
      have H4 := Lib.hid h4
      clear h4)
    go_ret
    exact ⟨rfl, below_then HF.out.1 H4.out⟩
  · have hyes : 10000 < k ∨ fuel < 0 ∨ 1073741824 < fuel := by simpa using hbd
    obtain ⟨rfl, rfl, rfl, rfl⟩ := HF.out.2.2 rfl
    have e5 : errN true = 1 := rfl
    clear hbd
    have hd : (10000 < k) ∨ (¬ 10000 < k ∧ fuel < 0) ∨ (¬ 10000 < k ∧ ¬ fuel < 0 ∧ 1073741824 < fuel) := by omega
    clear hyes
    rcases hd with h1 | ⟨h1, h2⟩ | ⟨h1, h2, h3⟩
    · have e2 : decide (10000 < (k : Int)) = true := by simp; omega
      clear h1
      go_wp2_with (
        go_at_call 11
        refine (runLive_any _).mono ?_
        rintro e w4 ⟨rfl, h4⟩
        have H4 := Lib.hid h4
        clear h4)
      go_ret
      exact ⟨rfl, below_then HF.out.1 H4.out⟩
    · have e2 : decide (10000 < (k : Int)) = false := by simp; omega
      have e3 : decide (fuel < 0) = true := by simp; omega
      clear h1 h2
      go_wp2_with (
        go_at_call 11
        refine (runLive_any _).mono ?_
        rintro e w4 ⟨rfl, h4⟩
        have H4 := Lib.hid h4
        clear h4)
      go_ret
      exact ⟨rfl, below_then HF.out.1 H4.out⟩
    · have e2 : decide (10000 < (k : Int)) = false := by simp; omega
      have e3 : decide (fuel < 0) = false := by simp; omega
      have e4 : decide (1073741824 < fuel) = true := by simp; omega
      clear h1 h2 h3
      go_wp2_with (
        go_at_call 11
        refine (runLive_any _).mono ?_
        rintro e w4 ⟨rfl, h4⟩
        have H4 := Lib.hid h4
        clear h4)
      go_ret
      exact ⟨rfl, below_then HF.out.1 H4.out⟩
end Go.Proofs.Ythaombggdchgbaa.Graph
