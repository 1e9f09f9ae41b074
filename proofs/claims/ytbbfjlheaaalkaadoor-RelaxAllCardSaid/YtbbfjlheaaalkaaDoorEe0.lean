/- Small facts on Encode and Decode; a row of four in memory. No condition. -/
import Derived.Test.YtbbfjlheaaalkaaDoorEp0
namespace Go.Proofs.YtbbfjlheaaalkaaDoor.Enc
open Go.RowKit

theorem encP_no {c : PC} (h : isOp c.op = false) : encP c = (0, 160) := by unfold encP; rw [h]; rfl
theorem encP_not {c : PC} (h : isOp c.op = true) (h2 : mayP c = false) : encP c = (0, 161) := by unfold encP; rw [h, h2]; rfl
theorem encP_yes {c : PC} (h2 : mayP c = true) : encP c = (wordP c, 0) := by unfold encP; rw [isOp_of (within h2), h2]; rfl
theorem decP_no {x : Int} (h : isOp (x / 16777216) = false) : decP x = (noC, 160) := by simp [decP, cutP, h]
theorem decP_yes {x : Int} (h : isOp (x / 16777216) = true) (h2 : mayP (cutP x) = true) : decP x = (cutP x, 0) := by
  simp only [cutP] at h2; simp [decP, cutP, h, h2]
theorem decP_neg {x : Int} (h : isOp (x / 16777216) = true) (h2 : mayP (cutP x) = false) (h3 : 32768 ≤ x % 65536) (h4 : mayP ⟨x / 16777216, x / 1048576 % 16, x / 65536 % 16, x % 65536 - 65536⟩ = true) :
    decP x = (⟨x / 16777216, x / 1048576 % 16, x / 65536 % 16, x % 65536 - 65536⟩, 0) := by
  simp only [cutP] at h2; simp [decP, cutP, h, h2, h3, h4]
theorem decP_not {x : Int} (h : isOp (x / 16777216) = true) (h2 : mayP (cutP x) = false) (h3 : 32768 ≤ x % 65536) (h4 : mayP ⟨x / 16777216, x / 1048576 % 16, x / 65536 % 16, x % 65536 - 65536⟩ = false) : decP x = (noC, 161) := by
  simp only [cutP] at h2; simp [decP, cutP, h, h2, h3, h4]
theorem decP_not2 {x : Int} (h : isOp (x / 16777216) = true) (h2 : mayP (cutP x) = false) (h3 : x % 65536 < 32768) : decP x = (noC, 161) := by
  simp only [cutP] at h2; simp [decP, cutP, h, h2, show ¬ 32768 ≤ x % 65536 by omega]
theorem cell_of_block {w : World} {b : Nat} {cs : Array Value} {t : TypeId} (h : w.heap[b]? = some (.cells cs t (0, 0))) {k : Nat} {v : Value} (hk : cs[k]? = some v) : w.cell? ⟨b, k, none⟩ = some v ∧ w.frozen? ⟨b, k, none⟩ = false := by
  constructor <;> simp [World.cell?, World.frozen?, h, hk]
theorem grown_step {w w3 : World} {g k : Nat} {v : Value} (h : w.grownBy w3 (some g)) : w.grownBy (w3.setCell ⟨g, k, none⟩ v) (some g) :=
  ⟨h.os, h.tape, h.output, by simpa [World.setCell] using h.size, fun i hi hn => (Below.heap_setCell _ _ _ _ (by simpa using (fun e => hn (by rw [e])))).trans (h.block i hi hn)⟩
theorem set_row4 {r : Nat} {t : TypeId} {w : World} {z0 z1 z2 z3 : Value} (v0 v1 v2 v3 : Value) (h : w.heap[r]? = some (.cells #[z0, z1, z2, z3] t (0, 0))) :
    w.grownBy ((((w.setCell ⟨r, 0, none⟩ v0).setCell ⟨r, 1, none⟩ v1).setCell ⟨r, 2, none⟩ v2).setCell ⟨r, 3, none⟩ v3) (some r) ∧
    ((((w.setCell ⟨r, 0, none⟩ v0).setCell ⟨r, 1, none⟩ v1).setCell ⟨r, 2, none⟩ v2).setCell ⟨r, 3, none⟩ v3).heap[r]? = some (.cells #[v0, v1, v2, v3] t (0, 0)) := by
  refine ⟨grown_step (grown_step (grown_step (grown_step (World.grownBy.refl w (some r))))), ?_⟩
  exact heap_setCell_same _ r 3 _ t v3 (heap_setCell_same _ r 2 _ t v2 (heap_setCell_same _ r 1 _ t v1 (heap_setCell_same _ r 0 _ t v0 h)))
theorem second_new (w : World) (a b : Obj) : ((w.alloc a).alloc b).heap[w.heap.size + 1]? = some b := by
  have := heap_alloc_new (w.alloc a) b
  rwa [World.size_alloc] at this
theorem four {w : World} {b : Nat} {t : TypeId} {z0 z1 z2 z3 : Value} (h : w.heap[b]? = some (.cells #[z0, z1, z2, z3] t (0, 0))) :
    (w.cell? ⟨b, 0, none⟩ = some z0 ∧ w.cell? ⟨b, 1, none⟩ = some z1 ∧ w.cell? ⟨b, 2, none⟩ = some z2 ∧ w.cell? ⟨b, 3, none⟩ = some z3) ∧
    w.frozen? ⟨b, 0, none⟩ = false ∧ w.frozen? ⟨b, 1, none⟩ = false ∧ w.frozen? ⟨b, 2, none⟩ = false ∧ w.frozen? ⟨b, 3, none⟩ = false :=
  ⟨⟨(cell_of_block h rfl).1, (cell_of_block h rfl).1, (cell_of_block h rfl).1, (cell_of_block h rfl).1⟩, (cell_of_block h (k := 0) rfl).2, (cell_of_block h (k := 1) rfl).2, (cell_of_block h (k := 2) rfl).2, (cell_of_block h (k := 3) rfl).2⟩
end Go.Proofs.YtbbfjlheaaalkaaDoor.Enc
