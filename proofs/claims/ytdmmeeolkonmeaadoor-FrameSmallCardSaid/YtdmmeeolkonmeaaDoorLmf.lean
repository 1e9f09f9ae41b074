/- How far rounds over all blocks reach, plainly; a row of booleans. No condition. -/
import Derived.Test.YtdmmeeolkonmeaaDoorLme
namespace Go.Proofs.YtdmmeeolkonmeaaDoor.Live
open Go.RowKit Go.Proofs.YtdmmeeolkonmeaaDoor.Graph Go.Shelf

/-- Needed within so many steps. -/
def lev (x : PGr) (t : Int) : Nat → Nat → Prop
  | 0, _ => False
  | r + 1, b => ∃ blk, x.blocks[b]? = some blk ∧ (firstB blk t = 1 ∨ (firstB blk t = 0 ∧ ∃ c : Nat, (c : Int) ∈ namedN blk.fin ∧ lev x t r c))
theorem lev_more {x : PGr} {t : Int} : ∀ (r b : Nat), lev x t r b → lev x t (r + 1) b
  | 0, _, h => h.elim
  | r + 1, b, ⟨blk, hb, h⟩ => ⟨blk, hb, by
    rcases h with h | ⟨h, c, hc, hl⟩
    · exact .inl h
    · exact .inr ⟨h, c, hc, lev_more r c hl⟩⟩
theorem lev_le {x : PGr} {t : Int} {r s b : Nat} (hrs : r ≤ s) (h : lev x t r b) : lev x t s b := by
  obtain ⟨d, rfl⟩ := Nat.exists_eq_add_of_le hrs
  clear hrs
  induction d with
  | zero => exact h
  | succ d ih => exact lev_more _ _ ih
theorem lev_lt {x : PGr} {t : Int} {r b : Nat} (h : lev x t r b) : b < x.blocks.length := by
  cases r with
  | zero => exact h.elim
  | succ r =>
    obtain ⟨blk, hb, _⟩ := h
    exact (List.getElem?_eq_some_iff.1 hb).1
theorem lev_need {x : PGr} {t : Int} {b : Nat} (h : Need x b t) : ∃ r, lev x t r b := by
  induction h with
  | use hb h => exact ⟨1, _, hb, .inl h⟩
  | step hb h hc _ ih =>
    obtain ⟨r, hr⟩ := ih
    exact ⟨r + 1, _, hb, .inr ⟨h, _, hc, hr⟩⟩
theorem lev_still {x : PGr} {t : Int} {r : Nat} (h : ∀ b, lev x t (r + 1) b → lev x t r b) : ∀ d b, lev x t (r + d) b → lev x t r b
  | 0, _, hb => hb
  | d + 1, b, ⟨blk, hb, hl⟩ => h b ⟨blk, hb, by
    rcases hl with hl | ⟨hl, c, hc, hn⟩
    · exact .inl hl
    · exact .inr ⟨hl, c, hc, lev_still h d c hn⟩⟩
theorem filter_less {p q : Nat → Bool} {b0 : Nat} : ∀ {l : List Nat}, (∀ b ∈ l, p b = true → q b = true) → b0 ∈ l → q b0 = true → p b0 = false → (l.filter p).length < (l.filter q).length
  | [], _, h, _, _ => absurd h List.not_mem_nil
  | a :: l, hpq, hm, hq, hp => by
    have hle : ∀ {l : List Nat}, (∀ b ∈ l, p b = true → q b = true) → (l.filter p).length ≤ (l.filter q).length := by
      intro l
      induction l with
      | nil => intro _; exact Nat.le_refl _
      | cons a l ih =>
        intro h
        have ih := ih fun b hb => h b (List.mem_cons_of_mem _ hb)
        have ha := h a (List.mem_cons_self ..)
        cases hpa : p a
        · rw [List.filter_cons_of_neg (by rw [hpa]; simp)]
          cases hqa : q a
          · rw [List.filter_cons_of_neg (by rw [hqa]; simp)]; exact ih
          · rw [List.filter_cons_of_pos hqa, List.length_cons]; omega
        · rw [List.filter_cons_of_pos hpa, List.filter_cons_of_pos (ha hpa), List.length_cons, List.length_cons]; omega
    have h2 : ∀ b ∈ l, p b = true → q b = true := fun b hb => hpq b (List.mem_cons_of_mem _ hb)
    rcases List.mem_cons.1 hm with rfl | hm
    · rw [List.filter_cons_of_neg (by rw [hp]; simp), List.filter_cons_of_pos hq, List.length_cons]
      have := hle h2
      omega
    · have ih := filter_less h2 hm hq hp
      have ha := hpq a (List.mem_cons_self ..)
      cases hpa : p a
      · rw [List.filter_cons_of_neg (by rw [hpa]; simp)]
        cases hqa : q a
        · rw [List.filter_cons_of_neg (by rw [hqa]; simp)]; exact ih
        · rw [List.filter_cons_of_pos hqa, List.length_cons]; omega
      · rw [List.filter_cons_of_pos hpa, List.filter_cons_of_pos (ha hpa), List.length_cons, List.length_cons]; omega
open Classical in
noncomputable def levN (x : PGr) (t : Int) (r : Nat) : Nat := ((List.range x.blocks.length).filter fun b => decide (lev x t r b)).length
open Classical in
theorem lev_count (x : PGr) (t : Int) : ∀ r, (∃ s, s < r ∧ ∀ b, lev x t (s + 1) b → lev x t s b) ∨ r ≤ levN x t r
  | 0 => .inr (Nat.zero_le _)
  | r + 1 => by
    rcases lev_count x t r with ⟨s, hs, h⟩ | h
    · exact .inl ⟨s, by omega, h⟩
    · by_cases hst : ∀ b, lev x t (r + 1) b → lev x t r b
      · exact .inl ⟨r, by omega, hst⟩
      · obtain ⟨b, hb⟩ := Classical.not_forall.1 hst
        obtain ⟨h1, h2⟩ := Classical.not_imp.1 hb
        refine .inr ?_
        have := filter_less (p := fun b => decide (lev x t r b)) (q := fun b => decide (lev x t (r + 1) b)) (b0 := b) (l := List.range x.blocks.length) (fun b _ h => by simpa using lev_more r b (by simpa using h)) (List.mem_range.2 (lev_lt h1)) (by simpa using h1) (by simpa using h2)
        unfold levN at h ⊢
        omega
theorem lev_all {x : PGr} {t : Int} {b : Nat} (h : Need x b t) : lev x t x.blocks.length b := by
  obtain ⟨r, hr⟩ := lev_need h
  have hle : levN x t (x.blocks.length + 1) ≤ x.blocks.length := by
    unfold levN
    refine Nat.le_trans (List.length_filter_le _ _) ?_
    rw [List.length_range]; exact Nat.le_refl _
  rcases lev_count x t (x.blocks.length + 1) with ⟨s, hs, hst⟩ | h2
  · refine lev_le (show s ≤ x.blocks.length by omega) ?_
    rcases Nat.lt_or_ge r s with h3 | h3
    · exact lev_le (by omega) hr
    · obtain ⟨d, rfl⟩ := Nat.exists_eq_add_of_le h3
      exact lev_still hst d b hr
  · omega
/-- A row of booleans. -/
def BoRow (w : World) (g n : Nat) (U : Nat → Bool) : Prop :=
  ∃ cs, w.heap[g]? = some (.cells cs 4 (0, 0)) ∧ cs.size = n ∧ ∀ b, b < n → cs[b]? = some (.bool (U b))
section
variable {w w' : World} {g n : Nat} {U : Nat → Bool}
theorem BoRow.lt (h : BoRow w g n U) : g < w.heap.size := by
  obtain ⟨cs, h1, _⟩ := h
  exact (Array.getElem?_eq_some_iff.1 h1).1
theorem BoRow.cell (h : BoRow w g n U) {b : Nat} (hb : b < n) : w.cell? ⟨g, b, none⟩ = some (.bool (U b)) := by
  obtain ⟨cs, h1, _, h3⟩ := h
  simp [World.cell?, h1, h3 b hb]
theorem BoRow.frozen (h : BoRow w g n U) (k : Nat) : w.frozen? ⟨g, k, none⟩ = false := by
  obtain ⟨cs, h1, _⟩ := h
  simp [World.frozen?, h1]
theorem BoRow.keep (h : BoRow w g n U) (he : w'.heap[g]? = w.heap[g]?) : BoRow w' g n U := by
  obtain ⟨cs, h1, h2⟩ := h
  exact ⟨cs, he.trans h1, h2⟩
theorem BoRow.below (h : BoRow w g n U) (hb : Below w.heap.size w w') : BoRow w' g n U := h.keep (hb.block _ h.lt)
theorem BoRow.set (h : BoRow w g n U) {b : Nat} (v : Bool) : BoRow (w.setCell ⟨g, b, none⟩ (.bool v)) g n (fun k => if k = b then v else U k) := by
  obtain ⟨cs, h1, h2, h3⟩ := h
  refine ⟨_, heap_setCell_same w g _ _ _ _ h1, by simpa using h2, fun c hc => ?_⟩
  have h4 := h3 c hc
  by_cases e : c = b
  · subst e
    rw [Array.getElem?_setIfInBounds_self_of_lt (Array.getElem?_eq_some_iff.1 h4).1]; simp
  · rw [Array.getElem?_setIfInBounds_ne (Ne.symm e)]
    simp only [if_neg e]; exact h4
end
theorem info_bool : (Tryd.prog.info? 4).map (fun i => (i.zero, i.size, i.bytes)) = some (some (.bool false), 1, 1) := by kernel_rfl
theorem make_bools (n : Nat) (hn : n ≤ 20000) (w : World) : (Instr.makeSlice 45 (.int .i64 (n : Int)) (.int .i64 (n : Int))).run Tryd.prog w = .ok (.slice (some ⟨w.heap.size, 0, none⟩) n n) (w.alloc (.cells (madeCells #[.bool false] n) 4)) := by
  obtain ⟨i0, HI, hz0, hz1, hz2⟩ := info_parts info_bool
  have := run_make (P := Tryd.prog) w 45 4 i0 _ Tryd.underlying45 HI hz0 .i64 .i64 (n : Int) (n : Int) (by omega) (by omega) (by rw [hz2]; omega) (by omega)
  simpa [hz1, Value.cells] using this
theorem made_bools {w : World} {g n : Nat} (h : w.heap[g]? = some (.cells (madeCells #[.bool false] n) 4 (0, 0))) : BoRow w g n fun _ => false := by
  refine ⟨_, h, size_madeCells _ _, fun b hb => made_at _ _ _ hb _ ?_⟩
  have : b % (#[Value.bool false] : Array Value).size = 0 := Nat.mod_one b
  rw [this]; rfl
/-- A store into a row that is newer. -/
theorem below_set {w w' : World} {B g k : Nat} {v : Value} (h : Below B w w') (hg : B ≤ g) : Below B w (w'.setCell ⟨g, k, none⟩ v) :=
  ⟨h.os, h.tape, h.output, by rw [World.size_setCell]; exact h.size, fun i hi => (heap_setCell_other w' ⟨g, k, none⟩ i v (by show i ≠ g; omega)).trans (h.block i hi)⟩
end Go.Proofs.YtdmmeeolkonmeaaDoor.Live
