/- Small facts for walks that make lists: rows of one's own below, appends of one number. No condition. -/
import Derived.Test.YtbbfjlheaaalkaaDoorQe
import Derived.Deep.AppendLies
import Derived.Deep.OwnRows
import Derived.IntWalk
namespace Go.Proofs.YtbbfjlheaaalkaaDoor.Relax
open Go.RowKit Go.Proofs.YtbbfjlheaaalkaaDoor.Enc Go.Proofs.YtbbfjlheaaalkaaDoor.Graph

def iv (x : Int) : Value := .int .i64 x
theorem row_below {w w' : World} {B : Nat} {e : TypeId} {size : Nat} {v : Value} {n : Nat} {xs : List Value} (h : w.ownsRow B e size v n xs) (hx : Below w.heap.size w w') : w'.ownsRow B e size v n xs := by
  obtain ⟨h1, h2⟩ := h
  refine ⟨h1, ?_⟩
  rcases h2 with h2 | ⟨g, cap, cur, h3, h4, h5, h6⟩
  · exact .inl h2
  · refine .inr ⟨g, cap, cur, h3, h4, ?_, h6⟩
    have hg : g < w.heap.size := by
      rcases Nat.lt_or_ge g w.heap.size with h | h
      · exact h
      · rw [Array.getElem?_eq_none h] at h5; cases h5
    rw [hx.block g hg]; exact h5
theorem rowIs_below {w w' : World} {b : Nat} {t : TypeId} {n : Nat} {f : Nat → Value} (h : w.rowIs b t n f) (hx : Below w.heap.size w w') : w'.rowIs b t n f := h.of_block (hx.block b h.lt)
theorem info_int : (Tryd.prog.info? 3).map (fun i => (i.zero, i.size, i.bytes)) = some (some (.int .i64 0), 1, 8) := by kernel_rfl
theorem info_bool : (Tryd.prog.info? 4).map (fun i => (i.zero, i.size, i.bytes)) = some (some (.bool false), 1, 1) := by kernel_rfl
theorem info_parts {P : Program} {t : TypeId} {z : Value} {s b : Nat} (h : (P.info? t).map (fun i => (i.zero, i.size, i.bytes)) = some (some z, s, b)) : ∃ i, P.info? t = some i ∧ i.zero = some z ∧ i.size = s ∧ i.bytes = b := by
  obtain ⟨i, h1, h2⟩ := Option.map_eq_some_iff.1 h
  injection h2 with h2 h3
  injection h3 with h3 h4
  exact ⟨i, h1, h2, h3, h4⟩
theorem news_one {w : World} {x : Int} {H : Nat} (hH : w.heap.size = H) : ∀ j u, [iv x][j]? = some u → (w.alloc (.cells #[iv x] 3)).cell? ((⟨H, 0, none⟩ : Addr).add j) = some u := by
  subst hH
  intro j u hj
  have hj0 : j = 0 := by
    rcases Nat.eq_zero_or_pos j with h | h
    · exact h
    · rw [List.getElem?_eq_none (by simp; omega)] at hj; cases hj
  subst hj0
  injection hj with hj
  subst hj
  exact cell_of_block (heap_alloc_new w _) (k := 0) rfl
theorem run_make_int (n : Nat) (h : n ≤ 1000000000000) (w : World) : (Instr.makeSlice 25 (.int .i64 (n : Int)) (.int .i64 (n : Int))).run Tryd.prog w = .ok (.slice (some ⟨w.heap.size, 0, none⟩) n n) (w.alloc (.cells (madeCells #[.int .i64 0] n) 3)) := by
  obtain ⟨i, h1, h2, h3, h4⟩ := info_parts info_int
  exact run_make_row 25 3 i (.int .i64 0) Tryd.underlying25 h1 h2 h3 rfl _ _ n (by rw [h4]; omega) (by omega) w
theorem run_make_bool (n : Nat) (h : n ≤ 1000000000000) (w : World) : (Instr.makeSlice 45 (.int .i64 (n : Int)) (.int .i64 (n : Int))).run Tryd.prog w = .ok (.slice (some ⟨w.heap.size, 0, none⟩) n n) (w.alloc (.cells (madeCells #[.bool false] n) 4)) := by
  obtain ⟨i, h1, h2, h3, h4⟩ := info_parts info_bool
  exact run_make_row 45 4 i (.bool false) Tryd.underlying45 h1 h2 h3 rfl _ _ n (by rw [h4]; omega) (by omega) w
/-- A row of one's own, as a list. -/
theorem ints_of_own {w : World} {B : Nat} {v : Value} {l : List Int} (h : w.ownsRow B 3 1 v l.length (l.map iv)) : IntsR w v l := by
  rcases h.2 with ⟨rfl, h0⟩ | ⟨g, cap, cur, rfl, hB, hg, h1, h2, h3, h4⟩
  · exact .inl ⟨h0, none, 0, rfl⟩
  · rcases Nat.eq_zero_or_pos l.length with h0 | h0
    · exact .inl ⟨h0, some ⟨g, 0, none⟩, cap, by rw [h0]⟩
    · refine .inr ⟨g, 0, cap, rfl, h0, ⟨h1, h2⟩, lt_of_block hg, fun j hj x hx => ?_⟩
      have h5 : cur.toList[j]? = some (iv x) := by
        have h6 : (cur.toList.take (l.length * 1))[j]? = (l.map iv)[j]? := by rw [h4]
        rw [List.getElem?_take_of_lt (by omega), List.getElem?_map, hx] at h6
        exact h6
      rw [Nat.mul_one, Nat.zero_add]
      exact cell_of_block hg (k := j) (v := .int .i64 x) (by simpa [iv] using h5)
end Go.Proofs.YtbbfjlheaaalkaaDoor.Relax
