/- Run's refusals; live; RunRefuses. -/
import Derived.Test.YthaombggdchgbaaSk
namespace Go.Proofs.Ythaombggdchgbaa.Graph
open Go.RowKit

theorem nil_intsR (w : World) (c : Nat) (p : Option Addr) : IntsR w (.slice p 0 c) [] := .inl ⟨rfl, p, c, rfl⟩
theorem nil_wordsR (w : World) (c : Nat) (p : Option Addr) : WordsR w (.slice p 0 c) [] := .inl ⟨rfl, p, c, rfl⟩
theorem nil_casesR (w : World) (c : Nat) (p : Option Addr) : CasesR w (.slice p 0 c) [] := .inl ⟨rfl, p, c, rfl⟩
theorem nil_arrsR (w : World) (c : Nat) (p : Option Addr) : ArrsR w (.slice p 0 c) [] := .inl ⟨rfl, p, c, rfl⟩
theorem nil_codeR (w : World) (c : Nat) (p : Option Addr) : CodeR w (.slice p 0 c) [] := .inl ⟨rfl, p, c, rfl⟩
theorem one_slR {w : World} {sz b : Nat} {P : Nat → Nat → Nat → Prop} (hb : b < w.heap.size) (h : P 0 b 0) : SlR w sz (.slice (some ⟨b, 0, none⟩) 1 1) 1 P :=
  .inr ⟨b, 0, 1, rfl, by omega, by omega, hb, fun i hi => by
    have hi0 : i = 0 := by omega
    subst hi0
    rw [Nat.zero_mul]
    exact h⟩
def blkAR (v : Value) : Array Value := #[v, .int .i64 5, .int .i64 0, .int .i64 (-1), .int .i64 0, .int .u32 0, .int .i64 0, .int .i64 0, .slice none 0 0, .slice none 0 0]
def grAR (a : Nat) : Array Value := #[.slice none 0 0, .int .i64 0, .slice none 0 0, .slice (some ⟨a, 0, none⟩) 1 1]
theorem blk_liesR {w : World} {a : Nat} {t : TypeId} {v : Value} {l : List PIns} (h : w.heap[a]? = some (.cells (blkAR v) t (0, 0))) (hv : CodeR w v l) : BlksR w (.slice (some ⟨a, 0, none⟩) 1 1) [⟨l, retE⟩] :=
  one_slR (lt_of_block h) fun x hx => by
    injection hx with hx
    subst hx
    refine ⟨v, .slice none 0 0, .slice none 0 0, (cell_of_block h (k := 0) rfl).1, hv, (cell_of_block h (k := 1) rfl).1, (cell_of_block h (k := 2) rfl).1, (cell_of_block h (k := 3) rfl).1, (cell_of_block h (k := 4) rfl).1, (cell_of_block h (k := 5) rfl).1, (cell_of_block h (k := 6) rfl).1, (cell_of_block h (k := 7) rfl).1, (cell_of_block h (k := 8) rfl).1, (cell_of_block h (k := 9) rfl).1, nil_casesR _ _ _, nil_intsR _ _ _, ⟨Int.le_refl 0, by show (0 : Int) ≤ 4294967295; omega⟩⟩
theorem mod_liesR {w : World} {a b : Nat} {t t2 : TypeId} {v : Value} {l : List PIns} (h : w.heap[a]? = some (.cells (blkAR v) t (0, 0))) (h2 : w.heap[b]? = some (.cells (grAR a) t2 (0, 0))) (hv : CodeR w v l) :
    ModL w (.slice none 0 0) (.slice none 0 0) (.slice (some ⟨b, 0, none⟩) 1 1) (oneM ⟨l, retE⟩) :=
  ⟨nil_wordsR _ _ _, nil_intsR _ _ _, one_slR (lt_of_block h2) fun x hx => by
    injection hx with hx
    subst hx
    exact ⟨.slice none 0 0, .slice none 0 0, .slice (some ⟨a, 0, none⟩) 1 1, (cell_of_block h2 (k := 0) rfl).1, (cell_of_block h2 (k := 1) rfl).1, (cell_of_block h2 (k := 2) rfl).1, (cell_of_block h2 (k := 3) rfl).1, nil_intsR _ _ _, nil_arrsR _ _ _, blk_liesR h hv⟩⟩
theorem allocs3R (w : World) (a b c : Obj) : (((w.alloc a).alloc b).alloc c).heap[w.heap.size]? = some a ∧ (((w.alloc a).alloc b).alloc c).heap[w.heap.size + 1]? = some b ∧ (((w.alloc a).alloc b).alloc c).heap[w.heap.size + 1 + 1]? = some c ∧ (((w.alloc a).alloc b).alloc c).heap.size = w.heap.size + 1 + 1 + 1 ∧ Below w.heap.size w (((w.alloc a).alloc b).alloc c) := by
  refine ⟨?_, ?_, ?_, by simp [World.size_alloc], (below2 w a b).alloc (below2 w a b).size c⟩
  · rw [(below2 (w.alloc a) b c).block w.heap.size (by simp [World.size_alloc])]; exact heap_new w a
  · have h := heap_new (w.alloc a) b
    rw [World.size_alloc] at h
    rw [(below_alloc ((w.alloc a).alloc b) c).block (w.heap.size + 1) (by simp [World.size_alloc])]; exact h
  · have h := heap_new ((w.alloc a).alloc b) c
    rw [World.size_alloc, World.size_alloc] at h
    exact h
theorem allocs4R (w : World) (a b c d : Obj) : ((((w.alloc a).alloc b).alloc c).alloc d).heap[w.heap.size]? = some a ∧ ((((w.alloc a).alloc b).alloc c).alloc d).heap[w.heap.size + 1]? = some b ∧ ((((w.alloc a).alloc b).alloc c).alloc d).heap[w.heap.size + 1 + 1]? = some c ∧
    ((((w.alloc a).alloc b).alloc c).alloc d).heap[w.heap.size + 1 + 1 + 1]? = some d ∧ Below w.heap.size w ((((w.alloc a).alloc b).alloc c).alloc d) := by
  obtain ⟨h0, h1, h2, h3, h4⟩ := allocs3R w a b c
  have hb := below_alloc (((w.alloc a).alloc b).alloc c) d
  refine ⟨(hb.block _ (by rw [h3]; omega)).trans h0, (hb.block _ (by rw [h3]; omega)).trans h1, (hb.block _ (by rw [h3]; omega)).trans h2, ?_, h4.alloc h4.size d⟩
  have h := heap_new (((w.alloc a).alloc b).alloc c) d
  rw [h3] at h
  exact h
def insL2 : Array Value := #[.int .i64 30, .int .i64 0, .int .i64 0, .int .i64 0, .int .i64 0, .int .u32 0, .slice none 0 0, .slice none 0 0, .int .i64 31, .int .i64 0, .int .i64 0, .int .i64 0, .int .i64 0, .int .u32 0, .slice none 0 0, .slice none 0 0]
def blkL (v : Value) : Array Value := #[v, .int .i64 1, .int .i64 0, .int .i64 0, .int .i64 0, .int .u32 0, .int .i64 0, .int .i64 0, .slice none 0 0, .slice none 0 0]
def grL (a : Nat) : Array Value := #[.slice none 0 0, .int .i64 1, .slice none 0 0, .slice (some ⟨a, 0, none⟩) 1 1]
theorem live_code {w : World} {c : Nat} {t : TypeId} (h : w.heap[c]? = some (.cells insL2 t (0, 0))) : CodeR w (.slice (some ⟨c, 0, none⟩) 2 2) [liveI 30, liveI 31] :=
  .inr ⟨c, 0, 2, rfl, by simp, by simp, lt_of_block h, fun i hi x hx => by
    match i, hx with
    | 0, hx =>
      injection hx with hx
      subst hx
      exact ⟨.slice none 0 0, .slice none 0 0, (cell_of_block h (k := 0) rfl).1, (cell_of_block h (k := 1) rfl).1, (cell_of_block h (k := 2) rfl).1, (cell_of_block h (k := 3) rfl).1, (cell_of_block h (k := 4) rfl).1, (cell_of_block h (k := 5) rfl).1, (cell_of_block h (k := 6) rfl).1, (cell_of_block h (k := 7) rfl).1, nil_intsR _ _ _, nil_intsR _ _ _, by decide⟩
    | 1, hx =>
      injection hx with hx
      subst hx
      exact ⟨.slice none 0 0, .slice none 0 0, (cell_of_block h (k := 8) rfl).1, (cell_of_block h (k := 9) rfl).1, (cell_of_block h (k := 10) rfl).1, (cell_of_block h (k := 11) rfl).1, (cell_of_block h (k := 12) rfl).1, (cell_of_block h (k := 13) rfl).1, (cell_of_block h (k := 14) rfl).1, (cell_of_block h (k := 15) rfl).1, nil_intsR _ _ _, nil_intsR _ _ _, by decide⟩⟩
theorem live_mod {w : World} {a b c : Nat} {t t2 t3 : TypeId} (h0 : w.heap[c]? = some (.cells insL2 t3 (0, 0))) (h : w.heap[a]? = some (.cells (blkL (.slice (some ⟨c, 0, none⟩) 2 2)) t (0, 0))) (h2 : w.heap[b]? = some (.cells (grL a) t2 (0, 0))) :
    ModL w (.slice none 0 0) (.slice none 0 0) (.slice (some ⟨b, 0, none⟩) 1 1) liveM :=
  ⟨nil_wordsR _ _ _, nil_intsR _ _ _, one_slR (lt_of_block h2) fun x hx => by
    injection hx with hx
    subst hx
    refine ⟨.slice none 0 0, .slice none 0 0, .slice (some ⟨a, 0, none⟩) 1 1, (cell_of_block h2 (k := 0) rfl).1, (cell_of_block h2 (k := 1) rfl).1, (cell_of_block h2 (k := 2) rfl).1, (cell_of_block h2 (k := 3) rfl).1, nil_intsR _ _ _, nil_arrsR _ _ _, one_slR (lt_of_block h) fun x hx => ?_⟩
    injection hx with hx
    subst hx
    exact ⟨.slice (some ⟨c, 0, none⟩) 2 2, .slice none 0 0, .slice none 0 0, (cell_of_block h (k := 0) rfl).1, live_code h0, (cell_of_block h (k := 1) rfl).1, (cell_of_block h (k := 2) rfl).1, (cell_of_block h (k := 3) rfl).1, (cell_of_block h (k := 4) rfl).1, (cell_of_block h (k := 5) rfl).1, (cell_of_block h (k := 6) rfl).1, (cell_of_block h (k := 7) rfl).1, (cell_of_block h (k := 8) rfl).1, (cell_of_block h (k := 9) rfl).1, nil_casesR _ _ _, nil_intsR _ _ _, ⟨Int.le_refl 0, by show (0 : Int) ≤ 4294967295; omega⟩⟩⟩
theorem run_live2 (g : Nat) (w : World) (hM : ModL w (.slice none 0 0) (.slice none 0 0) (.slice (some ⟨g, 0, none⟩) 1 1) liveM) :
    Calls Try.prog 10 #[.agg #[.slice none 0 0, .slice none 0 0, .slice (some ⟨g, 0, none⟩) 1 1, .int .i64 0], .string ⟨#[97, 98]⟩, .int .i64 9] w (Is (.tuple #[.agg #[.int .i64 3, .int .u32 0, .string ⟨#[97, 98, 255]⟩, .int .i64 9], .int .i64 0]) w) :=
  (run_live _ _ _ w hM).mono fun e w' h => by
    obtain ⟨stop, code, steps, str, ⟨rfl, rfl, rfl, rfl⟩, rfl, hb⟩ := h
    exact ⟨rfl, hb⟩
set_option maxHeartbeats 4000000 in
set_option maxRecDepth 100000 in
theorem run_no (gp rp fp : Option Addr) (gn gc rn rc fn fc : Nat) (mn : Int) (s : ByteArray) (fuel : Int) (w : World) (h : 10000 < s.size ∨ fuel < 0 ∨ 1073741824 < fuel) :
    Calls Try.prog 10 #[.agg #[.slice gp gn gc, .slice rp rn rc, .slice fp fn fc, .int .i64 mn], .string s, .int .i64 fuel] w (Is (.tuple #[.agg #[.int .i64 0, .int .u32 0, .string ⟨#[]⟩, .int .i64 0], .int .i64 1]) w) := by
  have hd : (10000 < s.size) ∨ (¬ 10000 < s.size ∧ fuel < 0) ∨ (¬ 10000 < s.size ∧ ¬ fuel < 0 ∧ 1073741824 < fuel) := by omega
  rcases hd with h1 | ⟨h1, h2⟩ | ⟨h1, h2, h3⟩
  · have e2 : decide (10000 < (s.size : Int)) = true := by simp; omega
    clear h
    go_enter Try.func10, Try.ntmps10
    go_wp2
    exact bodyPost_ret (v := .tuple #[.agg #[.int .i64 0, .int .u32 0, .string ⟨#[]⟩, .int .i64 0], .int .i64 1]) (by simp [results, Try.results10, go_sem]) rfl ⟨rfl, below2 w _ _⟩
  · have e2 : decide (10000 < (s.size : Int)) = false := by simp; omega
    have e3 : decide (fuel < 0) = true := by simp; omega
    clear h
    go_enter Try.func10, Try.ntmps10
    go_wp2
    exact bodyPost_ret (v := .tuple #[.agg #[.int .i64 0, .int .u32 0, .string ⟨#[]⟩, .int .i64 0], .int .i64 1]) (by simp [results, Try.results10, go_sem]) rfl ⟨rfl, below2 w _ _⟩
  · have e2 : decide (10000 < (s.size : Int)) = false := by simp; omega
    have e3 : decide (fuel < 0) = false := by simp; omega
    have e4 : decide (1073741824 < fuel) = true := by simp; omega
    clear h
    go_enter Try.func10, Try.ntmps10
    go_wp2
    exact bodyPost_ret (v := .tuple #[.agg #[.int .i64 0, .int .u32 0, .string ⟨#[]⟩, .int .i64 0], .int .i64 1]) (by simp [results, Try.results10, go_sem]) rfl ⟨rfl, below2 w _ _⟩
set_option maxHeartbeats 4000000 in
set_option maxRecDepth 100000 in
theorem runLive_any (w : World) : Calls Try.prog 11 #[] w (Is (.bool true) w) := by
  go_enter Try.func11, Try.ntmps11
  go_upto_region 2 with (fail)
  obtain ⟨k0, k1, k2, k3, kb⟩ := allocs4R w (.cells insL2 64) (.cells (blkL (.slice (some ⟨w.heap.size, 0, none⟩) 2 2)) 40) (.cells (grL (w.heap.size + 1)) 44) (.cells #[.slice none 0 0, .slice none 0 0, .slice (some ⟨w.heap.size + 1 + 1, 0, none⟩) 1 1, .int .i64 0] 26)
  have HM := Lib.hid (live_mod k0 k1 k2)
  have HB := Lib.hid kb
  obtain ⟨w1, hw1⟩ : ∃ w1, w1 = ((((w.alloc (.cells insL2 64)).alloc (.cells (blkL (.slice (some ⟨w.heap.size, 0, none⟩) 2 2)) 40)).alloc (.cells (grL (w.heap.size + 1)) 44)).alloc (.cells #[.slice none 0 0, .slice none 0 0, .slice (some ⟨w.heap.size + 1 + 1, 0, none⟩) 1 1, .int .i64 0] 26)) := ⟨_, rfl⟩
  rw [← hw1] at HM HB k3
  unfold insL2 blkL grL at hw1
  rw [← hw1]
  clear hw1 k0 k1 k2 kb
  obtain ⟨c0, _⟩ := cell_of_block k3 (k := 0) rfl
  obtain ⟨c1, _⟩ := cell_of_block k3 (k := 1) rfl
  obtain ⟨c2, _⟩ := cell_of_block k3 (k := 2) rfl
  obtain ⟨c3, _⟩ := cell_of_block k3 (k := 3) rfl
  have hl := lt_of_block k3
  clear k3
  go_wp2_with (
    go_at_call 10
    refine (run_live2 _ _ HM.out).mono ?_
    rintro e w2 ⟨rfl, h2⟩
    have H2 := Lib.hid (below_then HB.out h2)
    clear h2)
  go_ret
  exact ⟨rfl, below_then H2.out (below_alloc w2 _)⟩
end Go.Proofs.Ythaombggdchgbaa.Graph
