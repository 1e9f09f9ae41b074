/- Small facts on lists of lines. No condition. -/
import Derived.Test.YtbbfjlheaaalkaaDoorQb
namespace Go.Proofs.YtbbfjlheaaalkaaDoor.Relax
open Go.RowKit Go.Proofs.YtbbfjlheaaalkaaDoor.Enc Go.Proofs.YtbbfjlheaaalkaaDoor.Graph

def Is (r : Value) (w : World) (e : Ending) (w' : World) : Prop := e = .returned r ∧ Below w.heap.size w w'
theorem getN {α : Type} {l : List α} {n k : Nat} (hn : n = l.length) (hk : k < n) : ∃ t, l[k]? = some t := ⟨_, List.getElem?_eq_getElem (by rw [← hn]; exact hk)⟩
theorem lineAt_of {l : List PL} {k : Nat} {x : PL} (h : l[k]? = some x) : lineAt l k = x := by
  unfold lineAt; rw [List.getD_eq_getElem?_getD, h]; rfl
theorem brN_le (l : List PL) : ∀ k, brN l k ≤ k
  | 0 => Nat.le_refl _
  | k + 1 => by have := brN_le l k; unfold brN; split <;> omega
end Go.Proofs.YtbbfjlheaaalkaaDoor.Relax
