/- lookAt's inner loop: what lies, and what a round turns. No condition. -/
import Derived.Test.YtcijaaiopfbffaaDoorLka
import Derived.Test.YtcijaaiopfbffaaDoorLkc
import Derived.Test.YtcijaaiopfbffaaDoorZn
namespace Go.Proofs.YtcijaaiopfbffaaDoor.Live
open Go.RowKit Go.Proofs.YtcijaaiopfbffaaDoor.Graph

structure InLk (w : World) (bx : Obj) (B B4 lb ub db ab n m : Nat) (gv : Value) (LL : List Int) (L : Nat → Look) (A : Nat → List Nat) (vs : Nat → Value) (wr : World) : Prop where
  lk : LookSt lb ub db n (.slice (some ⟨ab, 0, none⟩) n n) L wr
  ah : AhSt B ab n A vs wr
  box : wr.heap[w.heap.size]? = some bx
  below : Below w.heap.size w wr
  row : wr.ownsRow B4 3 1 gv m (LL.map iv)
  apart : ∀ b q, b < n → (vs b).ownBlock = some q → gv.ownBlock ≠ some q
  old : lb < B ∧ ub < B ∧ db < B ∧ ab < B ∧ w.heap.size < B ∧ B ≤ B4 ∧ B4 ≤ wr.heap.size
  ne : ab ≠ lb ∧ ab ≠ ub ∧ ab ≠ db ∧ w.heap.size < ab
theorem LookSt.same3 {w w' : World} {lb ub db n : Nat} {va : Value} {L : Nat → Look} (h : LookSt lb ub db n va L w) (he : ∀ k, (k = lb ∨ k = ub ∨ k = db) → w'.heap[k]? = w.heap[k]?) : LookSt lb ub db n va L w' :=
  ⟨(he lb (by simp)).trans h.look, h.us.keep (he ub (by simp)), h.ds.keep (he db (by simp)), h.ne⟩
theorem stay_more {wr W1 w7 : World} {ab a : Nat} {row : Option Nat} {v' : Value} (hb : Below wr.heap.size wr W1) (hg : W1.grownBy w7 row) : ∀ i, i < wr.heap.size → i ≠ ab → row ≠ some i → (w7.setCell ⟨ab, a, none⟩ v').heap[i]? = wr.heap[i]? := fun i hi h1 h2 =>
  (heap_setCell_other w7 ⟨ab, a, none⟩ i v' h1).trans ((hg.block i (Nat.lt_of_lt_of_le hi hb.size) (fun e => h2 e.symm)).trans (hb.block i hi))
theorem cell_more {wr W1 w7 : World} {row : Option Nat} (hb : Below wr.heap.size wr W1) (hg : W1.grownBy w7 row) {p : Addr} (hp : p.block < wr.heap.size) (hr : row ≠ some p.block) : w7.cell? p = wr.cell? p ∧ w7.frozen? p = wr.frozen? p := by
  have h : w7.heap[p.block]? = wr.heap[p.block]? := (hg.block p.block (Nat.lt_of_lt_of_le hp hb.size) (fun e => hr e.symm)).trans (hb.block _ hp)
  exact ⟨by unfold World.cell?; rw [h], by unfold World.frozen?; rw [h]⟩
section
variable {w : World} {bx : Obj} {B B4 lb ub db ab n m : Nat} {gv : Value} {LL : List Int} {L : Nat → Look} {A : Nat → List Nat} {vs : Nat → Value} {wr : World}
theorem InLk.more (h : InLk w bx B B4 lb ub db ab n m gv LL L A vs wr) {t k g5 c5 : Nat} {W1 w7 : World} (ht : t < n) (hb : Below wr.heap.size wr W1)
    (h5 : w7.ownsRow B 3 1 (.slice (some ⟨g5, 0, none⟩) ((A t).length + 1) c5) ((A t).length + 1) ((A t).map iN ++ [iN k])) (h6 : W1.grownBy w7 (vs t).ownBlock) (h7 : (vs t).ownBlock = some g5 ∨ g5 = W1.heap.size) :
    InLk w bx B B4 lb ub db ab n m gv LL L (fun b => if b = t then A t ++ [k] else A b) (fun b => if b = t then .slice (some ⟨g5, 0, none⟩) ((A t).length + 1) c5 else vs b) (w7.setCell ⟨ab, t, none⟩ (.slice (some ⟨g5, 0, none⟩) ((A t).length + 1) c5)) := by
  obtain ⟨o1, o2, o3, o4, o5, o6, o7⟩ := h.old
  obtain ⟨n1, n2, n3, n4⟩ := h.ne
  have hsz : wr.heap.size ≤ (w7.setCell ⟨ab, t, none⟩ (.slice (some ⟨g5, 0, none⟩) ((A t).length + 1) c5)).heap.size := by rw [World.size_setCell]; exact Nat.le_trans hb.size h6.size
  have hst := stay_more (ab := ab) (a := t) (v' := .slice (some ⟨g5, 0, none⟩) ((A t).length + 1) c5) hb h6
  have hown : ∀ q, (vs t).ownBlock = some q → B ≤ q ∧ q < wr.heap.size := fun q hq => (h.ah.rows t ht).lt q hq
  have hlow : ∀ i, i < B → i ≠ ab → (w7.setCell ⟨ab, t, none⟩ (.slice (some ⟨g5, 0, none⟩) ((A t).length + 1) c5)).heap[i]? = wr.heap[i]? := fun i hi hn => hst i (by omega) hn (fun e => by have := (hown i e).1; omega)
  refine ⟨h.lk.same3 fun k hk => hlow k (by omega) (by omega), (h.ah.keep hb).more o4 ht h6 h5 ?_, (hlow _ o5 (by omega)).trans h.box, ?_, ?_, fun b q hbn hq => ?_, by omega, h.ne⟩
  · rcases h7 with h7 | h7
    · exact .inl h7
    · refine .inr fun q hq => ?_
      injection hq with hq
      simp only at hq
      omega
  · exact ⟨h6.os.trans (hb.os.trans h.below.os), h6.tape.trans (hb.tape.trans h.below.tape), h6.output.trans (hb.output.trans h.below.output), Nat.le_trans h.below.size hsz, fun i hi => (hlow i (by omega) (by omega)).trans (h.below.block i hi)⟩
  · refine own_set ((own_below h.row hb).kept h6 ?_) (by omega) _ _
    cases hq : gv.ownBlock with
    | none => exact .inl rfl
    | some q => exact .inr (fun e => h.apart t q ht e.symm hq)
  · by_cases e : b = t
    · subst e
      simp only [if_true] at hq
      rcases h7 with h7 | h7
      · exact h.apart b q hbn (h7.trans hq)
      · intro e2
        have := (h.row.lt q e2).2
        injection hq with hq
        have := hb.size
        simp only at hq
        omega
    · simp only [if_neg e] at hq
      exact h.apart b q hbn hq
end
/-- Which blocks lead to which, in the middle of a block. -/
structure AhInv (k j : Nat) (LL : List Int) (A0 A : Nat → List Nat) : Prop where
  nd : ∀ b, (A b).Nodup
  mem : ∀ b c, c ∈ A b ↔ c ∈ A0 b ∨ (c = k ∧ ∃ q, q < j ∧ LL[q]? = some (b : Int))
theorem AhInv.zero {k : Nat} {LL : List Int} {A0 : Nat → List Nat} (h : ∀ b, (A0 b).Nodup) : AhInv k 0 LL A0 A0 :=
  ⟨h, fun b c => ⟨.inl, fun h => by
    rcases h with h | ⟨_, q, hq, _⟩
    · exact h
    · omega⟩⟩
theorem AhInv.more {k j t : Nat} {LL : List Int} {A0 A : Nat → List Nat} (h : AhInv k j LL A0 A) (hs : LL.Pairwise (· < ·)) (ht : LL[j]? = some (t : Int)) (hk : k ∉ A0 t) : AhInv k (j + 1) LL A0 (fun b => if b = t then A t ++ [k] else A b) := by
  have hn : k ∉ A t := fun hm => by
    rcases (h.mem t k).1 hm with h1 | ⟨_, q, hq, h2⟩
    · exact hk h1
    · have := strict_get hs hq h2 ht
      omega
  refine ⟨fun b => ?_, fun b c => ?_⟩
  · by_cases e : b = t
    · subst e
      simp only [if_true]
      refine List.nodup_append.2 ⟨h.nd b, by simp, fun x hx y hy e => ?_⟩
      rw [List.mem_singleton] at hy
      subst hy e
      exact hn hx
    · simp only [if_neg e]; exact h.nd b
  · by_cases e : b = t
    · subst e
      simp only [if_true, List.mem_append, List.mem_singleton]
      rw [h.mem]
      constructor
      · rintro ((h1 | ⟨h1, q, hq, h2⟩) | h1)
        · exact .inl h1
        · exact .inr ⟨h1, q, by omega, h2⟩
        · exact .inr ⟨h1, j, by omega, ht⟩
      · rintro (h1 | ⟨h1, _⟩)
        · exact .inl (.inl h1)
        · exact .inr h1
    · simp only [if_neg e]
      rw [h.mem]
      constructor
      · rintro (h1 | ⟨h1, q, hq, h2⟩)
        · exact .inl h1
        · exact .inr ⟨h1, q, by omega, h2⟩
      · rintro (h1 | ⟨h1, q, hq, h2⟩)
        · exact .inl h1
        · refine .inr ⟨h1, q, ?_, h2⟩
          rcases Nat.lt_or_ge q j with h3 | h3
          · exact h3
          · have : q = j := by omega
            subst this
            rw [ht] at h2
            injection h2 with h2
            omega
/-- What the blocks before the k-th say of which lead to which. -/
def AhUpto (x : PGr) (k : Nat) (A : Nat → List Nat) : Prop := (∀ b, (A b).Nodup) ∧ ∀ b c, c ∈ A b ↔ c < k ∧ ∃ t, x.blocks[c]? = some t ∧ (b : Int) ∈ namedN t.fin
theorem AhInv.done {x : PGr} {k : Nat} {LL : List Int} {A0 A : Nat → List Nat} {t : PBlk} (h : AhInv k LL.length LL A0 A) (h0 : AhUpto x k A0) (ht : x.blocks[k]? = some t) (hl : ∀ s, s ∈ LL ↔ s ∈ namedN t.fin) : AhUpto x (k + 1) A := by
  refine ⟨h.nd, fun b c => ?_⟩
  rw [h.mem, h0.2]
  constructor
  · rintro (⟨h1, h2⟩ | ⟨rfl, q, _, h2⟩)
    · exact ⟨by omega, h2⟩
    · exact ⟨by omega, t, ht, (hl _).1 (List.mem_of_getElem? h2)⟩
  · rintro ⟨h1, t', h2, h3⟩
    rcases Nat.lt_or_ge c k with h4 | h4
    · exact .inl ⟨h4, t', h2, h3⟩
    · have : c = k := by omega
      subst this
      rw [ht] at h2
      injection h2 with h2
      subst h2
      obtain ⟨q, hq, h5⟩ := List.mem_iff_getElem.1 ((hl _).2 h3)
      exact .inr ⟨rfl, q, hq, by rw [List.getElem?_eq_getElem hq, h5]⟩
theorem AhUpto.len {k : Nat} {A : Nat → List Nat} (hk : ∀ b c, c ∈ A b → c ≤ k) (h : ∀ b, (A b).Nodup) (b : Nat) : (A b).length ≤ k + 1 := by
  have := nodup_len (s := List.range (k + 1)) (h b) fun c hc => List.mem_range.2 (by have := hk b c hc; omega)
  rwa [List.length_range] at this
theorem next_strict (x : PGr) (b : Int) : (nextL x b).Pairwise (· < ·) := by
  unfold nextL
  split
  · split
    · exact (sorted_strict _).mono
    · exact List.Pairwise.nil
  · exact List.Pairwise.nil
end Go.Proofs.YtcijaaiopfbffaaDoor.Live
