/- A region that draws its order, whose own operations only read, and whose callees turn nothing that was there (they may make memory): one walk in the order of the text serves for every order. No condition. -/
import Derived.BigQuiet
import Derived.Below
import Derived.KernelRfl
namespace Go.Proofs.YtmnhafncdblklaaDoor
open Go.RowKit

/-- A world in which all that was there is as it was. -/
structure Grow (w : World) where
  out : World
  below : Below w.heap.size w out
instance grow_some (w : World) : Nonempty (Grow w) := ⟨⟨w, Below.refl _ _⟩⟩
theorem grow_cell (w : World) : ∀ (g : Grow w) (b o : Nat), b < w.heap.size → g.out.cell? ⟨b, o, none⟩ = w.cell? ⟨b, o, none⟩ := fun g b o h => g.below.cell (p := ⟨b, o, none⟩) h
theorem wp_region_grow {P : Program} {id : Nat} {Q : Exit → Act → World → Prop} {a : Act} {w : World} {l : List Oper} (hm : P.follows .mixedOrders = true) (hB : Region.lexB .any l.toArray = true)
    (h : wpQuiet P l.toArray (fun w' => ∃ g : Grow w, w' = g.out) (fun a' => ∀ w', (∃ g : Grow w, w' = g.out) → Q .normal a' w') l a) : (Code.region id l.toArray true).wp P Q a w :=
  wp_region_quiet (C := fun w' => ∃ g : Grow w, w' = g.out) hm hB ⟨⟨w.drew, (Below.refl _ _).drew⟩, rfl⟩ (by simpa using h)
/-- A callee's contract, met in such a world. -/
theorem Grow.call {P : Program} {f : FuncId} {args : Array Value} {w : World} (g : Grow w) {v : Value}
    (h : Calls P f args g.out fun e w' => e = .returned v ∧ Below g.out.heap.size g.out w') : Calls P f args g.out fun e w' => e = .returned v ∧ ∃ g' : Grow w, w' = g'.out :=
  h.mono fun _ w' ⟨he, hb⟩ => ⟨he, ⟨w', g.below.trans (hb.mono g.below.size)⟩, rfl⟩
theorem Grow.call_same {P : Program} {f : FuncId} {args : Array Value} {w : World} (g : Grow w) {v : Value}
    (h : Calls P f args g.out fun e w' => e = .returned v ∧ w' = g.out) : Calls P f args g.out fun e w' => e = .returned v ∧ ∃ g' : Grow w, w' = g'.out :=
  h.mono fun _ _w' ⟨he, hb⟩ => ⟨he, g, hb⟩
end Go.Proofs.YtmnhafncdblklaaDoor
