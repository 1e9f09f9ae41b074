/- What lies there when the machine begins. No condition. -/
import Derived.Test.YtjbiikbmbacjkaaDoorBu
import Derived.Lib.SliceRun
import Derived.Deep.RegionHeld3
namespace Go.Proofs.YtjbiikbmbacjkaaDoor.Emu
open Go.RowKit Go.Proofs.YtjbiikbmbacjkaaDoor.Enc Go.Proofs.YtjbiikbmbacjkaaDoor.Graph

theorem info_ins : (Tryd.prog.info? 83).map (fun i => (i.zero, i.size, i.bytes)) = some (some (.agg #[.int .u8 0, .int .u8 0, .int .u8 0, .int .i32 0]), 4, 8) := by kernel_rfl
abbrev zsA (n : Nat) : Array Value := madeCells #[.int .u8 0, .int .u8 0, .int .u8 0, .int .i32 0] (n * 4)
theorem make_ins (n : Nat) (h : n ≤ 65536) (w : World) : (Instr.makeSlice 57 (.int .i64 (n : Int)) (.int .i64 (n : Int))).run Tryd.prog w = .ok (.slice (some ⟨w.heap.size, 0, none⟩) n n) (w.alloc (.cells (zsA n) 83)) := by
  obtain ⟨i, hi, hzz⟩ := Option.map_eq_some_iff.1 info_ins
  simp only [Prod.mk.injEq] at hzz
  obtain ⟨hz, hs, hb⟩ := hzz
  have hb' : (i.bytes : Int) * (n : Int) ≤ 281474976710656 := by rw [hb]; omega
  have hr := run_make (P := Tryd.prog) w 57 83 i _ Tryd.underlying57 hi hz .i64 .i64 n n (by omega) (Int.le_refl _) hb' (by omega)
  simp only [Int.toNat_natCast, hs] at hr
  exact hr
theorem zsA_size (n : Nat) : (zsA n).size = n * 4 := size_madeCells _ _
theorem zsA_at (n j c : Nat) (hj : j < n) (hc : c < 4) : (zsA n)[4 * j + c]? = some ((#[.int .u8 0, .int .u8 0, .int .u8 0, .int .i32 0] : Array Value)[c]!) := by
  unfold zsA madeCells
  rw [Array.getElem?_map, Array.getElem?_range, if_pos (by omega)]
  show some ((#[.int .u8 0, .int .u8 0, .int .u8 0, .int .i32 0] : Array Value)[(4 * j + c) % 4]!) = _
  rw [show (4 * j + c) % 4 = c by omega]
abbrev machA (vw : Value) (n lb mm : Nat) (inp : ByteArray) (entry : Int) : Array Value :=
  #[vw, .slice (some ⟨lb, 0, none⟩) n n, .int .u32 0, .int .u32 0, .int .u32 0, .int .u32 0, .int .u32 0, .int .u32 0, .int .u32 0, .int .u32 0, .int .u32 0, .int .u32 0, .int .u32 0, .int .u32 0, .pointer (some ⟨mm, 0, none⟩), .string inp, .pointer none, .slice none 0 0, .slice none 0 0, .int .i64 entry, .int .i64 0, .int .i64 0, .int .u32 0, .nilFunc, .nilFunc, .nilFunc, .nilFunc, .nilFunc, .nilFunc, funV 51, funV 52, funV 53, funV 54, funV 55, funV 56, funV 57, funV 58, funV 59, funV 60, funV 61, funV 62, funV 63, funV 64, funV 66, funV 67, funV 69, funV 70, funV 71]
abbrev wk0 (k : Nat) : Value := worksL.getD k .nilFunc
theorem machA_cs (x : Fz) (E : Env) (data : List Int) (entry : Int) : ∀ k, k < 48 → (machA x.vw E.words.length x.lb x.mm ⟨E.input.toArray⟩ entry)[k]? = some (cellOf (x.mv E wk0 (start E data entry) (.pointer none) (.slice none 0 0) (.slice none 0 0)) k)
  | 0, _ => rfl
  | 1, _ => rfl
  | 2, _ => rfl
  | 3, _ => rfl
  | 4, _ => rfl
  | 5, _ => rfl
  | 6, _ => rfl
  | 7, _ => rfl
  | 8, _ => rfl
  | 9, _ => rfl
  | 10, _ => rfl
  | 11, _ => rfl
  | 12, _ => rfl
  | 13, _ => rfl
  | 14, _ => rfl
  | 15, _ => rfl
  | 16, _ => rfl
  | 17, _ => rfl
  | 18, _ => rfl
  | 19, _ => rfl
  | 20, _ => rfl
  | 21, _ => rfl
  | 22, _ => rfl
  | 23, _ => rfl
  | 24, _ => rfl
  | 25, _ => rfl
  | 26, _ => rfl
  | 27, _ => rfl
  | 28, _ => rfl
  | 29, _ => rfl
  | 30, _ => rfl
  | 31, _ => rfl
  | 32, _ => rfl
  | 33, _ => rfl
  | 34, _ => rfl
  | 35, _ => rfl
  | 36, _ => rfl
  | 37, _ => rfl
  | 38, _ => rfl
  | 39, _ => rfl
  | 40, _ => rfl
  | 41, _ => rfl
  | 42, _ => rfl
  | 43, _ => rfl
  | 44, _ => rfl
  | 45, _ => rfl
  | 46, _ => rfl
  | 47, _ => rfl
  | n + 48, hk => absurd hk (by omega)
/-- What was laid so far: the box of what was handed over; the list, if it is there; the memory, if it is there. -/
structure Sofar (w : World) (bx : Array Value) (n : Nat) (L : List Int) (lbo : Option Nat) (mo : Option (Nat × (Nat → Option Nat))) (W : World) : Prop where
  below : Below w.heap.size w W
  box : W.heap[w.heap.size]? = some (.cells bx 25 (0, 0))
  list : ∀ lb, lbo = some lb → w.heap.size < lb ∧ W.heap[lb]? = some (.cells (zsA n) 83 (0, 0))
  mem : ∀ mm pg, mo = some (mm, pg) → w.heap.size < mm ∧ MemR W mm pg L ∧ (∀ i g, i < 128 → pg i = some g → w.heap.size < g)
  apart : ∀ lb mm pg, lbo = some lb → mo = some (mm, pg) → mm ≠ lb ∧ ∀ i g, i < 128 → pg i = some g → g ≠ lb
section
variable {w W W' : World} {bx : Array Value} {n : Nat} {L : List Int} {lbo : Option Nat} {mo : Option (Nat × (Nat → Option Nat))}
theorem Sofar.begin (w : World) (bx : Array Value) (n : Nat) (L : List Int) : Sofar w bx n L none none (w.alloc (.cells bx 25 (0, 0))) :=
  ⟨below_one _ _, heap_alloc_new _ _, fun _ h => (by cases h), fun _ _ h => (by cases h), fun _ _ _ h => (by cases h)⟩
theorem Sofar.lt (h : Sofar w bx n L lbo mo W) : w.heap.size < W.heap.size := lt_of_block h.box
theorem Sofar.grow (h : Sofar w bx n L lbo mo W) (hb : Below W.heap.size W W') : Sofar w bx n L lbo mo W' := by
  refine ⟨bt h.below (hb.mono (Nat.le_refl _)), (hb.block _ h.lt).trans h.box, fun lb e => ?_, fun mm pg e => ?_, h.apart⟩
  · obtain ⟨h1, h2⟩ := h.list lb e
    exact ⟨h1, (hb.block _ (lt_of_block h2)).trans h2⟩
  · obtain ⟨h1, h2, h3⟩ := h.mem mm pg e
    have hl : mm < W.heap.size := by
      obtain ⟨cs, k1, _⟩ := h2.tab
      exact lt_of_block k1
    exact ⟨h1, h2.same (hb.block _ hl) (fun i g hi hg => hb.block _ (h2.lt hi hg)), h3⟩
theorem Sofar.drew (h : Sofar w bx n L lbo mo W) : Sofar w bx n L lbo mo W.drew := h.grow (Below.refl _ _).drew
theorem Sofar.slice (h : Sofar w bx n L none mo W) : Sofar w bx n L (some W.heap.size) mo (W.alloc (.cells (zsA n) 83)) := by
  have h2 := h.grow (below_one W (.cells (zsA n) 83))
  refine ⟨h2.below, h2.box, fun lb e => ?_, h2.mem, fun lb mm pg e e2 => ?_⟩
  · injection e with e
    subst e
    exact ⟨h.lt, heap_alloc_new _ _⟩
  · injection e with e
    subst e
    obtain ⟨h1, h3, h4⟩ := h.mem mm pg e2
    have hl : mm < W.heap.size := by
      obtain ⟨cs, k1, _⟩ := h3.tab
      exact lt_of_block k1
    exact ⟨by omega, fun i g hi hg => by have := h3.lt hi hg; omega⟩
theorem Sofar.sliceD (h : Sofar w bx n L none mo W) : Sofar w bx n L (some W.heap.size) mo (W.alloc (.cells (zsA n) 83)).drew := h.slice.drew
theorem Sofar.memory (h : Sofar w bx n L lbo none W) {mm : Nat} {pg : Nat → Option Nat} (hm : MemR W' mm pg L) (h1 : W.heap.size ≤ mm) (h2 : ∀ i g, i < 128 → pg i = some g → W.heap.size ≤ g) (hb : Below W.heap.size W W') : Sofar w bx n L lbo (some (mm, pg)) W' := by
  have h3 := h.grow hb
  have hl := h.lt
  refine ⟨h3.below, h3.box, h3.list, fun mm' pg' e => ?_, fun lb mm' pg' e e2 => ?_⟩
  · injection e with e
    injection e with e e2
    subst e e2
    exact ⟨by omega, hm, fun i g hi hg => by have := h2 i g hi hg; omega⟩
  · injection e2 with e2
    injection e2 with e2 e3
    subst e2 e3
    have h5 := lt_of_block (h.list lb e).2
    exact ⟨by omega, fun i g hi hg => by have := h2 i g hi hg; omega⟩
/-- All of it, and the machine. -/
structure Laid (w : World) (bx : Array Value) (n : Nat) (L : List Int) (mc : Nat → Nat → Array Value) (bm lb mm : Nat) (pg : Nat → Option Nat) (W : World) : Prop where
  so : Sofar w bx n L (some lb) (some (mm, pg)) W
  mach : W.heap[bm]? = some (.cells (mc lb mm) 67 (0, 0))
  hi : w.heap.size < bm
  off : bm ≠ lb ∧ bm ≠ mm ∧ ∀ i g, i < 128 → pg i = some g → g ≠ bm
theorem Sofar.machine {lb mm : Nat} {pg : Nat → Option Nat} (h : Sofar w bx n L (some lb) (some (mm, pg)) W) (mc : Nat → Nat → Array Value) : Laid w bx n L mc W.heap.size lb mm pg (W.alloc (.cells (mc lb mm) 67)) := by
  obtain ⟨_, h1⟩ := h.list lb rfl
  obtain ⟨_, h2, h3⟩ := h.mem mm pg rfl
  have hl : mm < W.heap.size := by
    obtain ⟨cs, k1, _⟩ := h2.tab
    exact lt_of_block k1
  have h4 := lt_of_block h1
  exact ⟨h.grow (below_one _ _), heap_alloc_new _ _, h.lt, by omega, by omega, fun i g hi hg => by have := h2.lt hi hg; omega⟩
theorem Laid.drew {mc : Nat → Nat → Array Value} {bm lb mm : Nat} {pg : Nat → Option Nat} (h : Laid w bx n L mc bm lb mm pg W) : Laid w bx n L mc bm lb mm pg W.drew := ⟨h.so.drew, h.mach, h.hi, h.off⟩
end
end Go.Proofs.YtjbiikbmbacjkaaDoor.Emu
