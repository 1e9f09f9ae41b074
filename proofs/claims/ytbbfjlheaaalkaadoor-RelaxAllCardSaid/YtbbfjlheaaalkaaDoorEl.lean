/- What the enc functions of the program are to be shown to do, as far as the layers above want it (Decode); small facts. No condition. -/
import Derived.Test.YtbbfjlheaaalkaaDoorEb
import Derived.Test.YtbbfjlheaaalkaaDoorProg
import Derived.WalkKit
import Derived.WalkSpells
import Derived.WalkLawsBesides
import Derived.Lib.Hide
import Derived.OneCell
import Derived.StillTactics
import Derived.OwnWalk
import Derived.BigQuiet
import Derived.KernelRfl
import Derived.BigFrame
namespace Go.Proofs.YtbbfjlheaaalkaaDoor.Enc
open Go.RowKit

abbrev cV (c : PC) : Value := .agg #[.int .i64 c.op, .int .i64 c.a, .int .i64 c.b, .int .i64 c.imm]
theorem ret_bool {a b : Bool} (h : a = b) : Ending.returned (.bool a) = .returned (.bool b) := by rw [h]
theorem below_one (w : World) (o : Obj) : Below w.heap.size w (w.alloc o) := (Below.refl _ _).alloc (Nat.le_refl _) o
theorem bt {a b c : World} (h : Below a.heap.size a b) (k : Below b.heap.size b c) : Below a.heap.size a c := h.trans (k.mono h.size)
def EncPost (c : PC) (w : World) (e : Ending) (w' : World) : Prop := e = .returned (.tuple #[.int .u32 (encP c).1, .int .i64 (encP c).2]) ∧ Below w.heap.size w w'
def DecPost (x : Int) (w : World) (e : Ending) (w' : World) : Prop := e = .returned (.tuple #[cV (decP x).1, .int .i64 (decP x).2]) ∧ Below w.heap.size w w'
theorem EncPost.mk {c : PC} {w w' : World} {a b : Int} (h : encP c = (a, b)) (hb : Below w.heap.size w w') : EncPost c w (.returned (.tuple #[.int .u32 a, .int .i64 b])) w' := by
  unfold EncPost; rw [h]; exact ⟨rfl, hb⟩
theorem DecPost.mk {x : Int} {w w' : World} {a : PC} {b : Int} (h : decP x = (a, b)) (hb : Below w.heap.size w w') : DecPost x w (.returned (.tuple #[cV a, .int .i64 b])) w' := by
  unfold DecPost; rw [h]; exact ⟨rfl, hb⟩
theorem bcell {W w1 : World} (hb : Below W.heap.size W w1) : (∀ b o, b < W.heap.size → w1.cell? ⟨b, o, none⟩ = W.cell? ⟨b, o, none⟩) ∧ (∀ b o, b < W.heap.size → w1.frozen? ⟨b, o, none⟩ = W.frozen? ⟨b, o, none⟩) :=
  ⟨fun b o h => hb.cell (p := ⟨b, o, none⟩) h, fun b o h => hb.frozen (p := ⟨b, o, none⟩) h⟩
/-- The forms of the Ops, as the program's table has them. -/
def formL : List Int := [0, 0, 1, 2, 3, 4, 4, 4, 4, 4, 4, 4, 4, 4, 4, 4, 4, 4, 4, 4, 4, 4, 4, 4, 2, 2, 2, 3, 3, 2, 5, 5, 5, 5, 5, 5, 5, 5, 5, 5, 6, 7, 1, 7, 7, 1, 1, 1, 8]
def formCells : Array Value := (formL.map fun n => Value.int .i64 n).toArray
/-- The table of forms lies where the program lays it. -/
def FormsAt (w : World) : Prop := ∃ t fr, w.heap[0]? = some (.cells formCells t fr)
theorem FormsAt.pos {w : World} (h : FormsAt w) : 0 < w.heap.size := by
  obtain ⟨t, fr, h⟩ := h
  exact (Array.getElem?_eq_some_iff.1 h).1
theorem FormsAt.below {w w' : World} (h : FormsAt w) (hb : Below w.heap.size w w') : FormsAt w' := by
  have hp := h.pos
  obtain ⟨t, fr, h⟩ := h
  exact ⟨t, fr, (hb.block 0 hp).trans h⟩
theorem FormsAt.alloc {w : World} (h : FormsAt w) (o : Obj) : FormsAt (w.alloc o) := h.below (below_one w o)
theorem FormsAt.drew {w : World} (h : FormsAt w) : FormsAt w.drew := h
theorem FormsAt.drewN {w : World} (h : FormsAt w) (n : Nat) : FormsAt (w.drewN n) := h
end Go.Proofs.YtbbfjlheaaalkaaDoor.Enc
