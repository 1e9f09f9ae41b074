/- The reader of texts as it lies; the end of a word. No condition but sizes. -/
import Derived.Test.YthojmbljlehpbaaGreatDoorG27
import Derived.Test.YthojmbljlehpbaaGreatDoorG09
import Derived.Laws.Strings2
namespace Go.Proofs.YthojmbljlehpbaaGreatDoor.Lists
open Go.RowKit Go.Proofs.YthojmbljlehpbaaGreatDoor.Relax Go.Proofs.YthojmbljlehpbaaGreatDoor.Graph
open Go.Lib hiding intOf
open Go.Proofs.YthojmbljlehpbaaGreatDoor.Enc hiding below_one bt ret_bool

theorem own_keepG {w w' : World} {B sz n : Nat} {e : TypeId} {v : Value} {xs : List Value} (h : w.ownsRow B e sz v n xs) (hk : ∀ b, v.ownBlock = some b → w'.heap[b]? = w.heap[b]?) : w'.ownsRow B e sz v n xs := by
  obtain ⟨h1, h2 | ⟨g, cap, cur, rfl, hB, hg, h3⟩⟩ := h
  · exact ⟨h1, .inl h2⟩
  · exact ⟨h1, .inr ⟨g, cap, cur, rfl, hB, (hk g rfl).trans hg, h3⟩⟩
theorem own_ltG {w : World} {B sz n : Nat} {e : TypeId} {v : Value} {xs : List Value} (h : w.ownsRow B e sz v n xs) {q : Nat} (hq : v.ownBlock = some q) : B ≤ q ∧ ∃ cs, w.heap[q]? = some (.cells cs e (0, 0)) := by
  obtain ⟨_, ⟨rfl, _⟩ | ⟨g, cap, cur, rfl, hB, hg, _⟩⟩ := h
  · cases hq
  · injection hq with hq
    simp only at hq
    subst hq
    exact ⟨hB, cur, hg⟩
theorem own_unlikeG {w : World} {B B' sz sz' : Nat} {e e' : TypeId} {v v' : Value} {n n' : Nat} {xs ys : List Value} (h : w.ownsRow B e sz v n xs) (h' : w.ownsRow B' e' sz' v' n' ys) (he : e ≠ e') (q : Nat) (hq : v.ownBlock = some q) : v'.ownBlock ≠ some q := by
  intro hq'
  obtain ⟨_, cs, h1⟩ := own_ltG h hq
  obtain ⟨_, cs', h2⟩ := own_ltG h' hq'
  rw [h1] at h2
  injection h2 with h2
  injection h2 with _ h2 _
  exact he h2
theorem own_boxG {w : World} {B sz n b : Nat} {e T : TypeId} {v : Value} {xs : List Value} {cs : Array Value} (h : w.ownsRow B e sz v n xs) (hb : w.heap[b]? = some (.cells cs T (0, 0))) (hT : T ≠ e) (q : Nat) (hq : v.ownBlock = some q) : q ≠ b := by
  intro e2
  subst e2
  obtain ⟨_, cs', h2⟩ := own_ltG h hq
  rw [hb] at h2
  injection h2 with h2
  injection h2 with _ h2 _
  exact hT h2
theorem own_grownG {w w' : World} {B sz n : Nat} {e : TypeId} {v : Value} {xs : List Value} {row : Option Nat} (h : w.ownsRow B e sz v n xs) (hg : w.grownBy w' row) (hr : ∀ q, v.ownBlock = some q → row ≠ some q) : w'.ownsRow B e sz v n xs :=
  own_keepG h (fun b hb => hg.block b (by obtain ⟨_, cs, h1⟩ := own_ltG h hb; exact (Array.getElem?_eq_some_iff.1 h1).1) (fun e => hr b hb e.symm))
theorem own_belowG {w w' : World} {B sz n : Nat} {e : TypeId} {v : Value} {xs : List Value} (h : w.ownsRow B e sz v n xs) (hb : Below w.heap.size w w') : w'.ownsRow B e sz v n xs :=
  own_keepG h (fun b hq => hb.block b (by obtain ⟨_, cs, h1⟩ := own_ltG h hq; exact (Array.getElem?_eq_some_iff.1 h1).1))
/-- Lines that were read, in rows of one's own. -/
def LnsR (B : Nat) (w : World) (v : Value) (L : List PL) : Prop :=
  ∃ ps : List (PL × Value), ps.map (·.1) = L ∧ w.ownsRow B 52 7 v L.length (flatL ps) ∧ ∀ q ∈ ps, w.ownsRow B 3 1 q.2 q.1.list.length (q.1.list.map fun x => Value.int .i64 x)
theorem LnsR.below {B : Nat} {w w' : World} {v : Value} {L : List PL} (h : LnsR B w v L) (hb : Below w.heap.size w w') : LnsR B w' v L := by
  obtain ⟨ps, h1, h2, h3⟩ := h
  exact ⟨ps, h1, own_belowG h2 hb, fun q hq => own_belowG (h3 q hq) hb⟩
theorem LnsR.grown {B B' n : Nat} {w w' : World} {v v' : Value} {L : List PL} {xs : List Value} (h : LnsR B w v L) (ho : w.ownsRow B' 20 1 v' n xs) (hg : w.grownBy w' v'.ownBlock) : LnsR B w' v L := by
  obtain ⟨ps, h1, h2, h3⟩ := h
  exact ⟨ps, h1, own_grownG h2 hg (fun q hq => own_unlikeG h2 ho (by decide) q hq), fun q hq => own_grownG (h3 q hq) hg (fun k hk => own_unlikeG (h3 q hq) ho (by decide) k hk)⟩
theorem LnsR.set {B b k : Nat} {w : World} {v u : Value} {L : List PL} {cs : Array Value} (h : LnsR B w v L) (hb : w.heap[b]? = some (.cells cs 70 (0, 0))) : LnsR B (w.setCell ⟨b, k, none⟩ u) v L := by
  obtain ⟨ps, h1, h2, h3⟩ := h
  exact ⟨ps, h1, own_keepG h2 (fun q hq => set_otherL (own_boxG h2 hb (by decide) q hq)), fun p hp => own_keepG (h3 p hp) (fun q hq => set_otherL (own_boxG (h3 p hp) hb (by decide) q hq))⟩
theorem LnsR.form {B : Nat} {w : World} {v : Value} {L : List PL} (h : LnsR B w v L) : ∃ p c, v = .slice p L.length c := by
  obtain ⟨ps, h1, ⟨_, ⟨rfl, h0⟩ | ⟨g, cap, cur, rfl, _⟩⟩, _⟩ := h
  · exact ⟨_, _, by rw [h0]⟩
  · exact ⟨_, _, rfl⟩
theorem LnsR.lines {B : Nat} {w : World} {v : Value} {L : List PL} (h : LnsR B w v L) : LinesR w v L := by
  obtain ⟨ps, h1, h2, h3⟩ := h
  subst h1
  exact lines_of_own h2 (by simp) (fun q hq => ints_own (h3 q hq))
def rdCs (s : List UInt8) (ob : Nat) (bg : Int) (r : Rd) (vw vl : Value) : Array Value :=
  #[.string ⟨s.toArray⟩, .map (some ob), .int .i64 bg, .bool r.remark, vw, vl, .int .i64 (r.count : Int), .int .i64 (r.number : Int), .bool r.wrong]
/-- Which string is ranged over, if one is. -/
class ItP where
  at_ : Option (Nat × Nat)
variable [ItP]
def ItR (s : List UInt8) (w : World) : Prop := ∀ k p, ItP.at_ = some (k, p) → w.heap[k]? = some (.stringIter ⟨s.toArray⟩ p)
theorem ItR.below {s : List UInt8} {w w' : World} (h : ItR s w) (hb : Below w.heap.size w w') : ItR s w' := fun k p e => (hb.block k (Array.getElem?_eq_some_iff.1 (h k p e)).1).trans (h k p e)
theorem ItR.set {s : List UInt8} {w : World} {b j : Nat} {cs : Array Value} {T : TypeId} {u : Value} (h : ItR s w) (hb : w.heap[b]? = some (.cells cs T (0, 0))) : ItR s (w.setCell ⟨b, j, none⟩ u) := fun k p e => by
  refine (set_otherL ?_).trans (h k p e)
  intro e2
  subst e2
  have := h k p e
  rw [hb] at this
  injection this with this
  cases this
theorem ItR.grown {s : List UInt8} {w w' : World} {B sz n : Nat} {T : TypeId} {v : Value} {xs : List Value} (h : ItR s w) (ho : w.ownsRow B T sz v n xs) (hg : w.grownBy w' v.ownBlock) : ItR s w' := fun k p e => by
  refine (hg.block k (Array.getElem?_eq_some_iff.1 (h k p e)).1 (fun e2 => ?_)).trans (h k p e)
  obtain ⟨_, cs, h1⟩ := own_ltG ho e2.symm
  have := h k p e
  rw [h1] at this
  injection this with this
  cases this
/-- The reader as it lies. -/
structure RdR (B rb ob : Nat) (s : List UInt8) (bg : Int) (r : Rd) (vw vl : Value) (w : World) : Prop where
  box : w.heap[rb]? = some (.cells (rdCs s ob bg r vw vl) 70 (0, 0))
  words : w.ownsRow B 20 1 vw r.words.length (r.words.map wdV)
  lines : LnsR B w vl r.lines
  ops : OpsAt w ob 49
  hB : B ≤ rb
  h8 : 8 ≤ B
  laid : LaidL w
  it : ItR s w
section
variable {B rb ob : Nat} {s : List UInt8} {bg bg' : Int} {r r' : Rd} {vw vl : Value} {w w' : World}
theorem RdR.lt (h : RdR B rb ob s bg r vw vl w) : rb < w.heap.size := (Array.getElem?_eq_some_iff.1 h.box).1
theorem RdR.hBw (h : RdR B rb ob s bg r vw vl w) : B ≤ w.heap.size := Nat.le_trans h.hB (Nat.le_of_lt h.lt)
theorem RdR.below (h : RdR B rb ob s bg r vw vl w) (hb : Below w.heap.size w w') : RdR B rb ob s bg r vw vl w' :=
  ⟨(hb.block rb h.lt).trans h.box, own_belowG h.words hb, h.lines.below hb, by
    have h2 := h.ops
    unfold OpsAt at h2 ⊢
    exact h2.kept (row := none) ⟨hb.os, hb.tape, hb.output, hb.size, fun k hk _ => hb.block k hk⟩ (by simp), h.hB, h.h8, h.laid.below hb, h.it.below hb⟩
theorem RdR.cells (h : RdR B rb ob s bg r vw vl w) : (w.cell? ⟨rb, 0, none⟩ = some (.string ⟨s.toArray⟩) ∧ w.cell? ⟨rb, 1, none⟩ = some (.map (some ob)) ∧ w.cell? ⟨rb, 2, none⟩ = some (.int .i64 bg) ∧ w.cell? ⟨rb, 3, none⟩ = some (.bool r.remark) ∧ w.cell? ⟨rb, 4, none⟩ = some vw ∧ w.cell? ⟨rb, 5, none⟩ = some vl ∧ w.cell? ⟨rb, 6, none⟩ = some (.int .i64 (r.count : Int)) ∧ w.cell? ⟨rb, 7, none⟩ = some (.int .i64 (r.number : Int)) ∧ w.cell? ⟨rb, 8, none⟩ = some (.bool r.wrong)) ∧ ∀ k, w.frozen? ⟨rb, k, none⟩ = false :=
  ⟨⟨cell_of_block h.box rfl, cell_of_block h.box rfl, cell_of_block h.box rfl, cell_of_block h.box rfl, cell_of_block h.box rfl, cell_of_block h.box rfl, cell_of_block h.box rfl, cell_of_block h.box rfl, cell_of_block h.box rfl⟩, fun k => by simp [World.frozen?, h.box]⟩
/-- A plain cell of the reader is turned. -/
theorem RdR.set (h : RdR B rb ob s bg r vw vl w) (k : Nat) (u : Value) (hc : (rdCs s ob bg r vw vl).setIfInBounds k u = rdCs s ob bg' r' vw vl) (hw : r'.words = r.words) (hl : r'.lines = r.lines) : RdR B rb ob s bg' r' vw vl (w.setCell ⟨rb, k, none⟩ u) :=
  ⟨by rw [heap_setCell_same w rb k _ _ _ h.box, hc], by
    rw [hw]; exact own_keepG h.words (fun q hq => set_otherL (own_boxG h.words h.box (by decide) q hq)), by
    rw [hl]; exact h.lines.set h.box, by
    have h2 := h.ops
    unfold OpsAt at h2 ⊢
    exact h2.setCell (fun e => by
      obtain ⟨es, clock, hb, _⟩ := h2
      rw [e] at hb
      have := h.box
      rw [hb] at this
      injection this with this
      cases this) u, h.hB, h.h8, h.laid.belowB h.h8 ((Below.refl B w).setCell (p := ⟨rb, k, none⟩) h.hB u), h.it.set h.box⟩
end
/-- Where the word begins that is read. -/
def BegR (s : List UInt8) (at_ : Nat) (cur : Option (List UInt8)) (bg : Int) : Prop :=
  (cur = none ∧ bg = -1) ∨ ∃ b : Nat, b < at_ ∧ cur = some ((s.take at_).drop b) ∧ bg = b
def RdPost (B rb ob : Nat) (s : List UInt8) (bg : Int) (r : Rd) (w : World) (e : Ending) (w' : World) : Prop := e = .returned (.tuple #[]) ∧ ∃ vw vl, RdR B rb ob s bg r vw vl w' ∧ Below B w w'
omit [ItP] in
theorem ext_cut (s : List UInt8) (i j : Nat) : (⟨s.toArray⟩ : ByteArray).extract i j = ⟨((s.take j).drop i).toArray⟩ := by
  apply ByteArray.ext
  simp [ByteArray.data_extract, List.drop_take]
end Go.Proofs.YthojmbljlehpbaaGreatDoor.Lists
