/- What lookAt makes first. No condition. -/
import Derived.Test.YtcijaaiopfbffaaDoorZx
import Derived.Test.YtcijaaiopfbffaaDoorZp
namespace Go.Proofs.YtcijaaiopfbffaaDoor.Live
open Go.RowKit Go.Proofs.YtcijaaiopfbffaaDoor.Graph

/-- The look, made: of noughts, in new blocks; no block leads to another yet. -/
structure LMade (w wq : World) (lb ub db ab n : Nat) : Prop where
  lk : LookSt lb ub db n (.slice (some ⟨ab, 0, none⟩) n n) (fun _ => look0) wq
  ah : wq.heap[ab]? = some (.cells (madeCells #[.slice none 0 0] n) 22 (0, 0))
  new : w.heap.size ≤ lb ∧ w.heap.size ≤ ub ∧ w.heap.size ≤ db ∧ w.heap.size ≤ ab
  ne : ab ≠ lb ∧ ab ≠ ub ∧ ab ≠ db
  below : Below w.heap.size w wq
def setsO (n : Nat) : Obj := .cells (madeCells zeroCs (n * 125)) 73
def listsO (n : Nat) : Obj := .cells (madeCells #[.slice none 0 0] n) 22
theorem made_look (w : World) (q lb ub db ab n : Nat) (o1 o2 o3 : Obj) (hl : lb = w.heap.size + 3)
    (hu : (ub = w.heap.size ∧ o1 = setsO n) ∨ (ub = w.heap.size + 1 ∧ o2 = setsO n) ∨ (ub = w.heap.size + 2 ∧ o3 = setsO n))
    (hd : (db = w.heap.size ∧ o1 = setsO n) ∨ (db = w.heap.size + 1 ∧ o2 = setsO n) ∨ (db = w.heap.size + 2 ∧ o3 = setsO n))
    (ha : (ab = w.heap.size ∧ o1 = listsO n) ∨ (ab = w.heap.size + 1 ∧ o2 = listsO n) ∨ (ab = w.heap.size + 2 ∧ o3 = listsO n)) (hne : ub ≠ db ∧ ab ≠ ub ∧ ab ≠ db)
    (wq : World) (hq : wq = ((((w.drewN q).alloc o1).alloc o2).alloc o3).alloc (.cells #[.slice (some ⟨ub, 0, none⟩) n n, .slice (some ⟨db, 0, none⟩) n n, .slice (some ⟨ab, 0, none⟩) n n] 98)) :
    LMade w wq lb ub db ab n := by
  subst hl
  have hz : (w.drewN q).heap.size = w.heap.size := rfl
  have hs3 : ((((w.drewN q).alloc o1).alloc o2).alloc o3).heap.size = w.heap.size + 3 := by simp only [World.size_alloc]; omega
  have e1 : wq.heap[w.heap.size]? = some o1 := by
    rw [hq, Below.heap_alloc _ _ _ (by omega), Below.heap_alloc _ _ _ (by simp only [World.size_alloc]; omega), Below.heap_alloc _ _ _ (by simp only [World.size_alloc]; omega)]
    exact World.alloc_heap_new (w.drewN q) o1
  have e2 : wq.heap[w.heap.size + 1]? = some o2 := by
    rw [hq, Below.heap_alloc _ _ _ (by omega), Below.heap_alloc _ _ _ (by simp only [World.size_alloc]; omega)]
    have := World.alloc_heap_new ((w.drewN q).alloc o1) o2; simpa [hz] using this
  have e3 : wq.heap[w.heap.size + 2]? = some o3 := by
    rw [hq, Below.heap_alloc _ _ _ (by omega)]
    have := World.alloc_heap_new (((w.drewN q).alloc o1).alloc o2) o3; simpa [hz] using this
  have e4 : wq.heap[w.heap.size + 3]? = some (.cells #[.slice (some ⟨ub, 0, none⟩) n n, .slice (some ⟨db, 0, none⟩) n n, .slice (some ⟨ab, 0, none⟩) n n] 98 (0, 0)) := by
    rw [hq]
    have := World.alloc_heap_new ((((w.drewN q).alloc o1).alloc o2).alloc o3) (.cells #[.slice (some ⟨ub, 0, none⟩) n n, .slice (some ⟨db, 0, none⟩) n n, .slice (some ⟨ab, 0, none⟩) n n] 98)
    simpa [hz] using this
  have fu : wq.heap[ub]? = some (setsO n) := by rcases hu with ⟨rfl, h⟩ | ⟨rfl, h⟩ | ⟨rfl, h⟩ <;> rw [← h] <;> assumption
  have fd : wq.heap[db]? = some (setsO n) := by rcases hd with ⟨rfl, h⟩ | ⟨rfl, h⟩ | ⟨rfl, h⟩ <;> rw [← h] <;> assumption
  have fa : wq.heap[ab]? = some (listsO n) := by rcases ha with ⟨rfl, h⟩ | ⟨rfl, h⟩ | ⟨rfl, h⟩ <;> rw [← h] <;> assumption
  have bu : w.heap.size ≤ ub ∧ ub < w.heap.size + 3 := by omega
  have bd : w.heap.size ≤ db ∧ db < w.heap.size + 3 := by omega
  have ba : w.heap.size ≤ ab ∧ ab < w.heap.size + 3 := by omega
  refine ⟨⟨e4, made_sets fu, made_sets fd, by omega⟩, fa, by omega, by omega, ?_⟩
  rw [hq]
  exact ((((Graph.below_drewN w q).alloc (Nat.le_refl _) _).alloc (by simp only [World.size_alloc]; omega) _).alloc (by simp only [World.size_alloc]; omega) _).alloc (by simp only [World.size_alloc]; omega) _
end Go.Proofs.YtcijaaiopfbffaaDoor.Live
