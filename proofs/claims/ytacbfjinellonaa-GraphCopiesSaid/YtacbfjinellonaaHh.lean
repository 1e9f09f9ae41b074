/- live. -/
import Derived.Test.YtacbfjinellonaaHg
namespace Go.Proofs.Ytacbfjinellonaa.Graph
open Go.RowKit

theorem nil_ints (w : World) (c : Nat) (p : Option Addr) : IntsR w (.slice p 0 c) [] := .inl ⟨rfl, p, c, rfl⟩
theorem nil_words (w : World) (c : Nat) (p : Option Addr) : WordsR w (.slice p 0 c) [] := .inl ⟨rfl, p, c, rfl⟩
theorem nil_cases (w : World) (c : Nat) (p : Option Addr) : CasesR w (.slice p 0 c) [] := .inl ⟨rfl, p, c, rfl⟩
theorem nil_arrs (w : World) (c : Nat) (p : Option Addr) : ArrsR w (.slice p 0 c) [] := .inl ⟨rfl, p, c, rfl⟩
theorem nil_code (w : World) (c : Nat) (p : Option Addr) : CodeR w (.slice p 0 c) [] := .inl ⟨rfl, p, c, rfl⟩
theorem one_sl {w : World} {sz b : Nat} {P : Nat → Nat → Nat → Prop} (hb : b < w.heap.size) (h : P 0 b 0) : SlR w sz (.slice (some ⟨b, 0, none⟩) 1 1) 1 P :=
  .inr ⟨b, 0, 1, rfl, by omega, by omega, hb, fun i hi => by
    have hi0 : i = 0 := by omega
    subst hi0
    rw [Nat.zero_mul]
    exact h⟩
def nilV : Value := .slice none 0 0
def blkA (v : Value) : Array Value := #[v, .int .i64 5, .int .i64 0, .int .i64 (-1), .int .i64 0, .int .u32 0, .int .i64 0, .int .i64 0, .slice none 0 0, .slice none 0 0]
def grA (a : Nat) : Array Value := #[.slice none 0 0, .int .i64 0, .slice none 0 0, .slice (some ⟨a, 0, none⟩) 1 1]
def modA (b : Nat) : Array Value := #[.slice none 0 0, .slice none 0 0, .slice (some ⟨b, 0, none⟩) 1 1, .int .i64 0]
def insA : Array Value := #[.int .i64 1, .int .i64 0, .int .i64 0, .int .i64 0, .int .i64 0, .int .u32 0, .slice none 0 0, .slice none 0 0]
theorem blk_lies {w : World} {a : Nat} {t : TypeId} {v : Value} {l : List PIns} (h : w.heap[a]? = some (.cells (blkA v) t (0, 0))) (hv : CodeR w v l) : BlksR w (.slice (some ⟨a, 0, none⟩) 1 1) [⟨l, retE⟩] :=
  one_sl (lt_of_block h) fun x hx => by
    injection hx with hx
    subst hx
    refine ⟨v, .slice none 0 0, .slice none 0 0, (cell_of_block h (k := 0) rfl).1, hv, (cell_of_block h (k := 1) rfl).1, (cell_of_block h (k := 2) rfl).1, (cell_of_block h (k := 3) rfl).1, (cell_of_block h (k := 4) rfl).1, (cell_of_block h (k := 5) rfl).1, (cell_of_block h (k := 6) rfl).1, (cell_of_block h (k := 7) rfl).1, (cell_of_block h (k := 8) rfl).1, (cell_of_block h (k := 9) rfl).1, nil_cases _ _ _, nil_ints _ _ _, ⟨Int.le_refl 0, by show (0 : Int) ≤ 4294967295; omega⟩⟩
theorem mod_lies {w : World} {a b : Nat} {t t2 : TypeId} {v : Value} {l : List PIns} (h : w.heap[a]? = some (.cells (blkA v) t (0, 0))) (h2 : w.heap[b]? = some (.cells (grA a) t2 (0, 0))) (hv : CodeR w v l) :
    ModL w (.slice none 0 0) (.slice none 0 0) (.slice (some ⟨b, 0, none⟩) 1 1) (oneM ⟨l, retE⟩) :=
  ⟨nil_words _ _ _, nil_ints _ _ _, one_sl (lt_of_block h2) fun x hx => by
    injection hx with hx
    subst hx
    exact ⟨.slice none 0 0, .slice none 0 0, .slice (some ⟨a, 0, none⟩) 1 1, (cell_of_block h2 (k := 0) rfl).1, (cell_of_block h2 (k := 1) rfl).1, (cell_of_block h2 (k := 2) rfl).1, (cell_of_block h2 (k := 3) rfl).1, nil_ints _ _ _, nil_arrs _ _ _, blk_lies h hv⟩⟩
theorem code_lies {w : World} {c : Nat} {t : TypeId} (h : w.heap[c]? = some (.cells insA t (0, 0))) : CodeR w (.slice (some ⟨c, 0, none⟩) 1 1) [badI] :=
  one_sl (lt_of_block h) fun x hx => by
    injection hx with hx
    subst hx
    exact ⟨.slice none 0 0, .slice none 0 0, (cell_of_block h (k := 0) rfl).1, (cell_of_block h (k := 1) rfl).1, (cell_of_block h (k := 2) rfl).1, (cell_of_block h (k := 3) rfl).1, (cell_of_block h (k := 4) rfl).1, (cell_of_block h (k := 5) rfl).1, (cell_of_block h (k := 6) rfl).1, (cell_of_block h (k := 7) rfl).1, nil_ints _ _ _, nil_ints _ _ _, by decide⟩
theorem allocs3 (w : World) (a b c : Obj) : (((w.alloc a).alloc b).alloc c).heap[w.heap.size]? = some a ∧ (((w.alloc a).alloc b).alloc c).heap[w.heap.size + 1]? = some b ∧ (((w.alloc a).alloc b).alloc c).heap[w.heap.size + 1 + 1]? = some c ∧ (((w.alloc a).alloc b).alloc c).heap.size = w.heap.size + 1 + 1 + 1 ∧ Below w.heap.size w (((w.alloc a).alloc b).alloc c) := by
  refine ⟨?_, ?_, ?_, by simp [World.size_alloc], (below2 w a b).alloc (below2 w a b).size c⟩
  · rw [(below2 (w.alloc a) b c).block w.heap.size (by simp [World.size_alloc])]; exact heap_new w a
  · have h := heap_new (w.alloc a) b
    rw [World.size_alloc] at h
    rw [(below_alloc ((w.alloc a).alloc b) c).block (w.heap.size + 1) (by simp [World.size_alloc])]; exact h
  · have h := heap_new ((w.alloc a).alloc b) c
    rw [World.size_alloc, World.size_alloc] at h
    exact h
theorem allocs4 (w : World) (a b c d : Obj) : ((((w.alloc a).alloc b).alloc c).alloc d).heap[w.heap.size]? = some a ∧ ((((w.alloc a).alloc b).alloc c).alloc d).heap[w.heap.size + 1]? = some b ∧ ((((w.alloc a).alloc b).alloc c).alloc d).heap[w.heap.size + 1 + 1]? = some c ∧
    ((((w.alloc a).alloc b).alloc c).alloc d).heap[w.heap.size + 1 + 1 + 1]? = some d ∧ Below w.heap.size w ((((w.alloc a).alloc b).alloc c).alloc d) := by
  obtain ⟨h0, h1, h2, h3, h4⟩ := allocs3 w a b c
  have hb := below_alloc (((w.alloc a).alloc b).alloc c) d
  refine ⟨(hb.block _ (by rw [h3]; omega)).trans h0, (hb.block _ (by rw [h3]; omega)).trans h1, (hb.block _ (by rw [h3]; omega)).trans h2, ?_, h4.alloc h4.size d⟩
  have h := heap_new (((w.alloc a).alloc b).alloc c) d
  rw [h3] at h
  exact h
set_option maxHeartbeats 4000000 in
set_option maxRecDepth 100000 in
theorem live_any (w : World) : Calls Try.prog 11 #[] w (Is (.bool true) w) := by
  have hfield : ∀ (a b c d : Value) (w : World), (Instr.field 26 (.agg #[a, b, c, d]) 2).run Try.prog w = .ok c w := fun _ _ _ _ _ => by kernel_rfl
  go_enter Try.func11, Try.ntmps11
  go_upto_region 2 with (fail)
  obtain ⟨h0, h1, h2, h3, h4⟩ := allocs3 w (.cells (blkA (.slice none 0 0)) 50) (.cells (grA w.heap.size) 37) (.cells (modA (w.heap.size + 1)) 26)
  unfold blkA grA modA at h0 h1 h2 h3 h4
  generalize hw3 : ((w.alloc _).alloc _).alloc _ = w3
  rw [hw3] at h0 h1 h2 h3 h4
  have H0 := Lib.hid h0
  have H1 := Lib.hid h1
  have H2 := Lib.hid h2
  have H3 := Lib.hid h3
  have H4 := Lib.hid h4
  clear hw3 h0 h1 h2 h3 h4
  go_upto_region 3 with (fail)
  obtain ⟨h0, h1, h2, h3, h4⟩ := allocs4 w3 (.cells insA 70) (.cells (blkA (.slice (some ⟨w3.heap.size, 0, none⟩) 1 1)) 50) (.cells (grA (w3.heap.size + 1)) 37) (.cells (modA (w3.heap.size + 1 + 1)) 26)
  unfold insA blkA grA modA at h0 h1 h2 h3 h4
  generalize hw7 : (((w3.alloc _).alloc _).alloc _).alloc _ = w7
  rw [hw7] at h0 h1 h2 h3 h4
  have HGOOD : Hid (∀ wx, Below w7.heap.size w7 wx → ModL wx (.slice none 0 0) (.slice none 0 0) (.slice (some ⟨w.heap.size + 1, 0, none⟩) 1 1) (oneM goodB)) := Lib.hid (fun wx hx => by
    have hq := H3.out
    have hz := h4.size
    exact (mod_lies ((h4.block _ (by omega)).trans H0.out) ((h4.block _ (by omega)).trans H1.out) (nil_code _ _ _)).below hx)
  have HBAD : Hid (∀ wx, Below w7.heap.size w7 wx → ModL wx (.slice none 0 0) (.slice none 0 0) (.slice (some ⟨w3.heap.size + 1 + 1, 0, none⟩) 1 1) (oneM badB)) := Lib.hid (fun wx hx =>
    (mod_lies h1 h2 (code_lies h0)).below hx)
  have HBX : Hid (∀ wx, Below w7.heap.size w7 wx → Box4 wx (w.heap.size + 1 + 1) (.slice none 0 0) (.slice none 0 0) (.slice (some ⟨w.heap.size + 1, 0, none⟩) 1 1) (.int .i64 0)) := Lib.hid (fun wx hx => by
    have hq := H3.out
    have hz := h4.size
    have h := ((hx.block _ (by omega)).trans (h4.block _ (by omega))).trans H2.out
    exact ⟨lt_of_block h, (cell_of_block h (k := 0) rfl).1, (cell_of_block h (k := 1) rfl).1, (cell_of_block h (k := 2) rfl).1, (cell_of_block h (k := 3) rfl).1⟩)
  have HBY : Hid (∀ wx, Below w7.heap.size w7 wx → Box4 wx (w3.heap.size + 1 + 1 + 1) (.slice none 0 0) (.slice none 0 0) (.slice (some ⟨w3.heap.size + 1 + 1, 0, none⟩) 1 1) (.int .i64 0)) := Lib.hid (fun wx hx => by
    have h := (hx.block _ (lt_of_block h3)).trans h3
    exact ⟨lt_of_block h, (cell_of_block h (k := 0) rfl).1, (cell_of_block h (k := 1) rfl).1, (cell_of_block h (k := 2) rfl).1, (cell_of_block h (k := 3) rfl).1⟩)
  have HW7 := Lib.hid (below_then H4.out h4)
  clear hw7 h0 h1 h2 h3 h4 H0 H1 H2
  obtain ⟨y0, y1, y2, y3, y4⟩ := HBX.out _ (Below.refl _ _)
  go_upto_region 4 with (
    go_at_call 8
    refine (check_one goodB (-1) (-1) 0 (.inl ⟨rfl, rfl⟩) _ _ _ w7 (HGOOD.out _ (Below.refl _ _))).mono ?_
    rintro e w8 ⟨rfl, h8⟩
    have H8 := Lib.hid h8
    clear h8)
  clear y0 y1 y2 y3 y4
  obtain ⟨y0, y1, y2, y3, y4⟩ := HBY.out _ H8.out
  go_upto_region 5 with (
    go_at_call 8
    refine (check_one badB 0 0 51 (.inr ⟨rfl, rfl⟩) _ _ _ w8 (HBAD.out _ H8.out)).mono ?_
    rintro e w9 ⟨rfl, h9⟩
    have H9 := Lib.hid (below_then H8.out h9)
    clear h9)
  clear y0 y1 y2 y3 y4
  obtain ⟨y0, y1, y2, y3, y4⟩ := HBX.out _ H9.out
  go_wp2_with (
    go_at_call 17
    refine (copy_good _ _ _ w9 (HGOOD.out _ H9.out)).mono ?_
    rintro e w10 ⟨⟨v0, v1, q, c, v3, rfl⟩, h10⟩
    have H10 := Lib.hid (below_then HW7.out (below_then H9.out h10))
    clear h10)
  go_ret
  exact ⟨rfl, H10.out⟩
end Go.Proofs.Ytacbfjinellonaa.Graph
