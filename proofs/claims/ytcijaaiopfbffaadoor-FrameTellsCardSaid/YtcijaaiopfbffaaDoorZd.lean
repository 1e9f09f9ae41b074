/- A function that holds loops over iterators in a loop of its own leaves with a mark for each of them. No condition. -/
import Derived.RangeFuncNested
import Derived.RangeFuncLeaves
import Derived.WalkKit
import Derived.Lib.Hide
namespace Go.Proofs.YtcijaaiopfbffaaDoor.Live
open Go.RowKit

/-- Whatever is cells lies as it lay; so does all below B. -/
structure Shut (B : Nat) (W W' : World) : Prop where
  below : Below B W W'
  cells : ∀ (k : Nat) (o : Obj), W.heap[k]? = some o → o.isCells = true → W'.heap[k]? = some o
  size : W'.heap.size = W.heap.size
theorem Shut.refl (B : Nat) (W : World) : Shut B W W := ⟨Below.refl _ _, fun _ _ h _ => h, rfl⟩
theorem Shut.trans {B : Nat} {W W1 W2 : World} (h : Shut B W W1) (k : Shut B W1 W2) : Shut B W W2 := ⟨h.below.trans k.below, fun i o hi ho => k.cells i o (h.cells i o hi ho) ho, k.size.trans h.size⟩
theorem Shut.put {B D : Nat} {W : World} {o : Obj} (o' : Obj) (hB : B ≤ D) (h : W.heap[D]? = some o) (ho : o.isCells = false) : Shut B W (W.putObj D o') := by
  have hlt : D < W.heap.size := (Array.getElem?_eq_some_iff.1 h).1
  refine ⟨(Below.refl B W).grown (grownBy_putObj' W D o') (by omega) (fun k e => by cases e; exact hB), fun k p hk hp => ?_, by simp [World.putObj]⟩
  by_cases e : k = D
  · subst e
    rw [h] at hk
    cases hk
    rw [ho] at hp; cases hp
  · exact (World.putObj_heap_other e).trans hk
def markD (D : Nat) : Deferred := { target := .collected D, args := #[] }
/-- The marks of a function's loops. -/
structure Marks (B : Nat) (Ds : List Nat) (W : World) : Prop where
  nd : Ds.Nodup
  at_ : ∀ D ∈ Ds, B ≤ D ∧ W.heap[D]? = some (.deferred (some []))
theorem Marks.nil (B : Nat) (W : World) : Marks B [] W := ⟨List.nodup_nil, fun _ h => absurd h List.not_mem_nil⟩
theorem Marks.keep {B B' : Nat} {Ds : List Nat} {W W' : World} (h : Marks B Ds W) (hk : KeepsFrom B' W W') (hB : B' ≤ B) : Marks B Ds W' :=
  ⟨h.nd, fun D hD => ⟨(h.at_ D hD).1, hk.same D _ (Nat.le_trans hB (h.at_ D hD).1) (h.at_ D hD).2 rfl⟩⟩
theorem Marks.cons {B : Nat} {Ds : List Nat} {W W' : World} {D : Nat} (h : Marks B Ds W') (hb : B ≤ D) (hD : W'.heap[D]? = some (.deferred (some []))) (hn : W.heap.size ≤ D) (hl : ∀ D' ∈ Ds, D' < W.heap.size) : Marks B (D :: Ds) W' := by
  refine ⟨List.nodup_cons.2 ⟨fun hm => ?_, h.nd⟩, fun D' hD' => ?_⟩
  · have := hl D hm; omega
  · rcases List.mem_cons.1 hD' with rfl | hD'
    · exact ⟨hb, hD⟩
    · exact h.at_ D' hD'
theorem Marks.lt {B : Nat} {Ds : List Nat} {W : World} (h : Marks B Ds W) : ∀ D ∈ Ds, D < W.heap.size := fun D hD => (Array.getElem?_eq_some_iff.1 (h.at_ D hD).2).1
/-- On its way out such a function shuts the blocks of its marks, and that is all. -/
theorem leaves_marks {F : Fence} {n : Nat} {P : Program} {fn : Func} {tmps : Array Value} {R : Ending → World → Prop} {B : Nat} : ∀ (Ds : List Nat) (W : World), Marks B Ds W → (∀ W', Shut B W W' → LeavesIn F n P fn tmps R [] .returning W') →
    LeavesInM F n P fn tmps R (Ds.map markD) .returning W
  | [], W, _, h => h W (Shut.refl _ _)
  | D :: r, W, hm, h => by
    obtain ⟨h1, h2⟩ := List.nodup_cons.1 hm.nd
    obtain ⟨h3, h4⟩ := hm.at_ D (List.mem_cons_self ..)
    refine ⟨by simp, .inl ⟨D, _, rfl, run_takeDeferred h4, ?_⟩⟩
    refine leaves_marks r _ ⟨h2, fun D' hD' => ⟨(hm.at_ D' (List.mem_cons_of_mem _ hD')).1, (World.putObj_heap_other (fun e => h1 (by rw [← e]; exact hD'))).trans (hm.at_ D' (List.mem_cons_of_mem _ hD')).2⟩⟩ fun W' hW' => h W' ((Shut.put _ h3 h4 rfl).trans hW')
/-- What an iterator over temps asks of the body of a loop: that all below n, and its own box, lie as they lay. -/
structure KeepB (n bx : Nat) (W W' : World) : Prop where
  below : Below n W W'
  box : W'.heap[bx]? = W.heap[bx]?
theorem KeepB.refl (n bx : Nat) (W : World) : KeepB n bx W W := ⟨Below.refl _ _, rfl⟩
theorem KeepB.trans {n bx : Nat} {A B C : World} (h : KeepB n bx A B) (k : KeepB n bx B C) : KeepB n bx A C := ⟨h.below.trans k.below, k.box.trans h.box⟩
theorem keepB_b {n bx : Nat} {w : World} (hn : n ≤ w.heap.size) (hb : bx < w.heap.size) (W : World) (l : Nat) (o o' : Obj) (hl : w.heap.size ≤ l) (h : W.heap[l]? = some o) (_ : o.isCells = false) (_ : o.isWalk = false) : KeepB n bx W (W.putObj l o') :=
  ⟨(Below.refl n W).grown (grownBy_putObj' W l o') (by have := (Array.getElem?_eq_some_iff.1 h).1; omega) (fun k e => by cases e; omega), World.putObj_heap_other (by omega)⟩
end Go.Proofs.YtcijaaiopfbffaaDoor.Live
