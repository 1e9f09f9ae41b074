/- A graph that fits: live's fits. No condition but sizes. -/
import Derived.Test.YtcijaaiopfbffaaDoorZl
import Derived.Test.YtcijaaiopfbffaaDoorYd
import Derived.Deep.RegionLaw
namespace Go.Proofs.YtcijaaiopfbffaaDoor.Live
open Go.RowKit Go.Proofs.YtcijaaiopfbffaaDoor.Graph

theorem named_same (e : PEnd) : namedN e = namedL e := rfl
theorem next_mem {g : PGr} {b : Nat} {blk : PBlk} (hb : g.blocks[b]? = some blk) (t : Int) : t ∈ nextL g (b : Int) ↔ t ∈ namedN blk.fin := by
  have hlt := (List.getElem?_eq_some_iff.1 hb).1
  unfold nextL
  rw [if_pos (by unfold belowB; simp; omega), Int.toNat_natCast, hb]
  exact (sorted_strict (namedL blk.fin)).2 t
/-- What a row of one's own holds. -/
theorem own_cell {w : World} {B : Nat} {e : TypeId} {v : Value} {n : Nat} {xs : List Value} (h : w.ownsRow B e 1 v n xs) {k : Nat} {x : Value} (hk : xs[k]? = some x) (hx : k < n) : ∃ g c, v = .slice (some ⟨g, 0, none⟩) n c ∧ w.cell? ⟨g, k, none⟩ = some x ∧ w.frozen? ⟨g, k, none⟩ = false ∧ B ≤ g ∧ g < w.heap.size ∧ n ≤ c ∧ c ≤ 9223372036854775807 := by
  obtain ⟨h1, ⟨rfl, h0⟩ | ⟨g, cap, cur, rfl, hB, hg, hc1, hc2, hc3, hx2⟩⟩ := h
  · omega
  · refine ⟨g, cap, rfl, (cell_of_block hg ?_).1, by simp [World.frozen?, hg], hB, (Array.getElem?_eq_some_iff.1 hg).1, hc1, hc2⟩
    rw [← hx2, List.getElem?_take] at hk
    split at hk
    · rw [← Array.getElem?_toList]; exact hk
    · cases hk
end Go.Proofs.YtcijaaiopfbffaaDoor.Live
