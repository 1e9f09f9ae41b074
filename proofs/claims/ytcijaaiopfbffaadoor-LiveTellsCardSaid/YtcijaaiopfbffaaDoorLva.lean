/- What Live tells, as it lies. No condition. -/
import Derived.Test.YtcijaaiopfbffaaDoorLkb
import Derived.Test.YtcijaaiopfbffaaDoorZz
import Derived.Test.YtcijaaiopfbffaaDoorZw
namespace Go.Proofs.YtcijaaiopfbffaaDoor.Live
open Go.RowKit Go.Proofs.YtcijaaiopfbffaaDoor.Graph Go.Shelf

theorem AhSt.congr {B ab n : Nat} {A A' : Nat → List Nat} {vs : Nat → Value} {w : World} (h : AhSt B ab n A vs w) (he : ∀ b, b < n → A b = A' b) : AhSt B ab n A' vs w :=
  ⟨h.blk, fun b hb => by rw [← he b hb]; exact h.rows b hb, h.apart⟩
/-- A row is put in. -/
theorem AhSt.put {B ab n t : Nat} {A : Nat → List Nat} {vs : Nat → Value} {w w1 : World} {v' : Value} {l : List Nat} (h : AhSt B ab n A vs w) (hab : ab < B) (ht : t < n) (hb : Below w.heap.size w w1) (hB : B ≤ w.heap.size) (hr : w1.ownsRow w.heap.size 3 1 v' l.length (l.map iN)) :
    AhSt B ab n (fun b => if b = t then l else A b) (fun b => if b = t then v' else vs b) (w1.setCell ⟨ab, t, none⟩ v') := by
  obtain ⟨cs, h1, h2, h3⟩ := h.blk
  have h4 : w1.heap[ab]? = some (.cells cs 22 (0, 0)) := (hb.block _ h.lt).trans h1
  have hr2 : w1.ownsRow B 3 1 v' l.length (l.map iN) := by
    obtain ⟨h5, h6 | ⟨g, cap, cur, h6, h7, h8⟩⟩ := hr
    · exact ⟨h5, .inl h6⟩
    · exact ⟨h5, .inr ⟨g, cap, cur, h6, Nat.le_trans hB h7, h8⟩⟩
  refine ⟨⟨_, heap_setCell_same w1 ab _ _ _ _ h4, by simpa using h2, fun b hb => ?_⟩, fun b hb2 => ?_, fun b c q hb2 hc hne hq => ?_⟩
  · have h5 := h3 b hb
    by_cases e : b = t
    · subst e
      rw [Array.getElem?_setIfInBounds_self_of_lt (Array.getElem?_eq_some_iff.1 h5).1, if_pos rfl]
    · rw [Array.getElem?_setIfInBounds_ne (Ne.symm e), if_neg e]; exact h5
  · by_cases e : b = t
    · subst e
      simp only [if_true]
      exact own_set hr2 hab _ _
    · simp only [if_neg e]
      exact own_set (own_below (h.rows b hb2) hb) hab _ _
  · have hlt : ∀ c q, c < n → (vs c).ownBlock = some q → q < w.heap.size := fun c q hc hq => ((h.rows c hc).lt q hq).2
    by_cases e : b = t
    · subst e
      have ec : c ≠ b := Ne.symm hne
      simp only [if_true] at hq
      simp only [if_neg ec]
      intro e2
      have := (hr.lt q hq).1
      have := hlt c q hc e2
      omega
    · simp only [if_neg e] at hq
      by_cases ec : c = t
      · subst ec
        simp only [if_true]
        intro e2
        have := (hr.lt q e2).1
        have := hlt b q hb2 hq
        omega
      · simp only [if_neg ec]
        exact h.apart b c q hb2 hc hne hq
theorem tab_below {t : List Nat} {w w' : World} (h : TabAt 0 t w) (h0 : 0 < w.heap.size) (hb : Below w.heap.size w w') : TabAt 0 t w' := fun j hj => (hb.cell (p := ⟨0, j, none⟩) h0).trans (h j hj)
/-- The rows that Live tells: whose they are, what they hold. -/
structure LiveOut (x : PGr) (n rb : Nat) (vs : Nat → Value) (w w' : World) : Prop where
  ah : AhSt (rb + 1) rb n (needN x) vs w'
  new : w.heap.size ≤ rb
  below : Below w.heap.size w w'
def LiveOk (x : PGr) (n : Nat) (w : World) (e : Ending) (w' : World) : Prop := ∃ rb vs, e = .returned (.tuple #[.slice (some ⟨rb, 0, none⟩) n n, .int .i64 0]) ∧ LiveOut x n rb vs w w'
theorem needed_at {x : PGr} {n lb ub db ab : Nat} {L : Nat → Look} {A : Nat → List Nat} {w w' W : World} (hn : n = x.blocks.length) (hf : fitsB x = true) (h : LookPostG x n lb ub db ab L A w w') (hW : Below w'.heap.size w' W) :
    Calls Tryd.prog 32 #[.pointer (some ⟨lb, 0, none⟩), .int .i64 x.temps] W (NeededPost x n W) := by
  have hfd := hf
  unfold fitsB at hfd
  rw [Bool.and_eq_true] at hfd
  have hlen := of_decide_eq_true hfd.1
  refine needed_any (w0 := w') hf (fun wd => ?_) h.ah hW (h.lk.keep hW) (by omega) (by omega)
  have := look_fx hf wd (U := fun b => (L b).u wd) (S := fun b => (L b).d wd) (A := A) (fun b blk hb => by show (L b).u wd = _; rw [h.looks.1 b blk hb]) (fun b blk hb => by show (L b).d wd = _; rw [h.looks.1 b blk hb])
    (fun b hb => by show (L b).u wd = 0; rw [h.looks.2.1 b (by omega)]; rfl) (fun b hb => by show (L b).d wd = 0; rw [h.looks.2.1 b (by omega)]; rfl)
    (fun b hb c => by
      rw [h.upto.2 b c]
      refine ⟨fun h2 => h2.2, fun ⟨t, h1, h2⟩ => ⟨by have := (List.getElem?_eq_some_iff.1 h1).1; omega, t, h1, h2⟩⟩)
  rw [← hn] at this
  exact this
theorem need_total {x : PGr} {n fo : Nat} {V : Nat → Nat → Nat} {w : World} (h : SetsAt w fo n V) (hq : ∀ b wd, b < n → wd < 125 → V b wd < w64 ∧ ∀ i, i < 64 → ((V b wd).testBit i = true ↔ Need x b ((64 * wd + i : Nat) : Int))) :
    ∃ V', SetsAt w fo n V' ∧ (∀ b, b < n → ∀ wd i, wd < 125 → i < 64 → ((V' b wd).testBit i = true ↔ Need x b ((64 * wd + i : Nat) : Int))) ∧ ∀ b, b < n → ∀ u, V' b u < w64 := by
  refine ⟨fun b u => if u < 125 then V b u else 0, h.congr fun b k _ hk => by simp only [hk, if_true], fun b hb wd i hwd hi => ?_, fun b hb u => ?_⟩
  · simp only [hwd, if_true]; exact (hq b wd hb hwd).2 i hi
  · show (if u < 125 then V b u else 0) < w64
    by_cases hu : u < 125
    · rw [if_pos hu]; exact (hq b u hb hu).1
    · rw [if_neg hu]; decide
end Go.Proofs.YtcijaaiopfbffaaDoor.Live
