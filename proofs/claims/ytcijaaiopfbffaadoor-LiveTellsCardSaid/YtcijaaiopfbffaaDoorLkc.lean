/- Rows in a row: which blocks lead to which, while it is built. No condition. -/
import Derived.Test.YtcijaaiopfbffaaDoorZx
namespace Go.Proofs.YtcijaaiopfbffaaDoor.Live
open Go.RowKit Go.Proofs.YtcijaaiopfbffaaDoor.Graph

structure AhSt (B ab n : Nat) (A : Nat → List Nat) (vs : Nat → Value) (w : World) : Prop where
  blk : ∃ cs, w.heap[ab]? = some (.cells cs 22 (0, 0)) ∧ cs.size = n ∧ ∀ b, b < n → cs[b]? = some (vs b)
  rows : ∀ b, b < n → w.ownsRow B 3 1 (vs b) (A b).length ((A b).map iN)
  apart : ∀ b c q, b < n → c < n → b ≠ c → (vs b).ownBlock = some q → (vs c).ownBlock ≠ some q
section
variable {B ab n : Nat} {A : Nat → List Nat} {vs : Nat → Value} {w w' : World}
theorem AhSt.cell (h : AhSt B ab n A vs w) {b : Nat} (hb : b < n) : w.cell? ⟨ab, b, none⟩ = some (vs b) ∧ w.frozen? ⟨ab, b, none⟩ = false := by
  obtain ⟨cs, h1, _, h3⟩ := h.blk
  exact ⟨by simp [World.cell?, h1, h3 b hb], by simp [World.frozen?, h1]⟩
theorem AhSt.lt (h : AhSt B ab n A vs w) : ab < w.heap.size := by
  obtain ⟨cs, h1, _⟩ := h.blk
  exact (Array.getElem?_eq_some_iff.1 h1).1
theorem AhSt.keep (h : AhSt B ab n A vs w) (hb : Below w.heap.size w w') : AhSt B ab n A vs w' := by
  obtain ⟨cs, h1, h2⟩ := h.blk
  exact ⟨⟨cs, (hb.block _ h.lt).trans h1, h2⟩, fun b hn => own_below (h.rows b hn) hb, h.apart⟩
/-- All below stays, but for two blocks that are none of these. -/
theorem AhSt.turn {x y : Nat} (h : AhSt B ab n A vs w) (ht : Turn x y w w') (hx : x < B ∧ x ≠ ab) (hy : y < B ∧ y ≠ ab) : AhSt B ab n A vs w' := by
  obtain ⟨cs, h1, h2⟩ := h.blk
  refine ⟨⟨cs, (ht.block _ h.lt (Ne.symm hx.2) (Ne.symm hy.2)).trans h1, h2⟩, fun b hn => ?_, h.apart⟩
  obtain ⟨h3, h4 | ⟨g, cap, cur, h5, hB, hg, h6⟩⟩ := h.rows b hn
  · exact ⟨h3, .inl h4⟩
  · exact ⟨h3, .inr ⟨g, cap, cur, h5, hB, (ht.block g (Array.getElem?_eq_some_iff.1 hg).1 (by omega) (by omega)).trans hg, h6⟩⟩
/-- One more in one row. -/
theorem AhSt.more {t k : Nat} {v' : Value} {w7 : World} (h : AhSt B ab n A vs w) (hab : ab < B) (ht : t < n) (hg : w.grownBy w7 (vs t).ownBlock) (hr : w7.ownsRow B 3 1 v' ((A t).length + 1) ((A t).map iN ++ [iN k])) (hv : (vs t).ownBlock = v'.ownBlock ∨ ∀ q, v'.ownBlock = some q → w.heap.size ≤ q) :
    AhSt B ab n (fun b => if b = t then A t ++ [k] else A b) (fun b => if b = t then v' else vs b) (w7.setCell ⟨ab, t, none⟩ v') := by
  obtain ⟨cs, h1, h2, h3⟩ := h.blk
  have h4 : w7.heap[ab]? = some (.cells cs 22 (0, 0)) := (hg.block _ h.lt (fun e => by have := ((h.rows t ht).lt ab e.symm).1; omega)).trans h1
  refine ⟨⟨_, heap_setCell_same w7 ab _ _ _ _ h4, by simpa using h2, fun b hb => ?_⟩, fun b hb => ?_, fun b c q hb hc hne hq => ?_⟩
  · have h5 := h3 b hb
    by_cases e : b = t
    · subst e
      rw [Array.getElem?_setIfInBounds_self_of_lt (Array.getElem?_eq_some_iff.1 h5).1, if_pos rfl]
    · rw [Array.getElem?_setIfInBounds_ne (Ne.symm e), if_neg e]; exact h5
  · by_cases e : b = t
    · subst e
      simp only [if_true]
      rw [List.length_append, List.map_append]
      exact own_set hr hab _ _
    · simp only [if_neg e]
      refine own_set ((h.rows b hb).kept hg ?_) hab _ _
      cases hq : (vs b).ownBlock with
      | none => exact .inl rfl
      | some q => exact .inr (fun e2 => h.apart b t q hb ht e hq e2.symm)
  · by_cases e : b = t
    · subst e
      have ec : c ≠ b := Ne.symm hne
      simp only [if_true] at hq
      simp only [if_neg ec]
      rcases hv with hv | hv
      · exact h.apart b c q hb hc hne (hv.trans hq)
      · intro e2
        have := hv q hq
        have := ((h.rows c hc).lt q e2).2
        omega
    · simp only [if_neg e] at hq
      by_cases ec : c = t
      · subst ec
        simp only [if_true]
        rcases hv with hv | hv
        · rw [← hv]; exact h.apart b c q hb hc hne hq
        · intro e2
          have := hv q e2
          have := ((h.rows b hb).lt q hq).2
          omega
      · simp only [if_neg ec]
        exact h.apart b c q hb hc hne hq
/-- At the beginning no row holds anything. -/
theorem AhSt.made (h : w.heap[ab]? = some (.cells (madeCells #[.slice none 0 0] n) 22 (0, 0))) : AhSt B ab n (fun _ => []) (fun _ => .slice none 0 0) w := by
  refine ⟨⟨_, h, size_madeCells _ _, fun b hb => made_at _ _ _ hb _ ?_⟩, fun b _ => World.ownsRow_nil _ _ _ _, fun b c q _ _ _ hq => by cases hq⟩
  have : b % (#[Value.slice none 0 0] : Array Value).size = 0 := Nat.mod_one b
  rw [this]; rfl
theorem ints_own {v : Value} {l : List Nat} (h : w.ownsRow B 3 1 v l.length (l.map iN)) : IntsR w v (l.map fun (k : Nat) => (k : Int)) := by
  obtain ⟨_, ⟨rfl, h0⟩ | ⟨g, cap, cur, rfl, hB, hg, h1, h2, h3, h4⟩⟩ := h
  · exact .inl ⟨by rw [List.length_map]; exact h0, none, 0, rfl⟩
  · rcases Nat.eq_zero_or_pos l.length with h0 | h0
    · exact .inl ⟨by rw [List.length_map]; exact h0, some ⟨g, 0, none⟩, cap, by rw [h0]⟩
    · refine .inr ⟨g, 0, cap, by rw [List.length_map], by rw [List.length_map]; exact h0, ⟨by rw [List.length_map]; exact h1, h2⟩, (Array.getElem?_eq_some_iff.1 hg).1, fun j hj x hx => ?_⟩
      rw [List.length_map] at hj
      rw [Nat.mul_one, Nat.zero_add]
      have h5 : cur.toList[j]? = some (.int .i64 x) := by
        have h6 : (cur.toList.take (l.length * 1))[j]? = (l.map iN)[j]? := by rw [h4]
        rw [List.getElem?_take_of_lt (by omega), List.getElem?_map] at h6
        rw [List.getElem?_map] at hx
        rw [h6]
        cases hl : l[j]? with
        | none => rw [hl] at hx; cases hx
        | some y => rw [hl] at hx; injection hx with hx; rw [← hx]; rfl
      rw [Array.getElem?_toList] at h5
      exact (cell_of_block hg h5).1
/-- At the end. -/
theorem AhSt.ahead (h : AhSt B ab n A vs w) : AhR w (.slice (some ⟨ab, 0, none⟩) n n) n A :=
  ⟨ab, rfl, h.lt, fun b hb => ⟨vs b, (h.cell hb).1, ints_own (h.rows b hb)⟩⟩
end
end Go.Proofs.YtcijaaiopfbffaaDoor.Live
