/- The assembler's rounds, plainly: they end; no more than branches and one; all that is short then reaches. No condition. -/
import Derived.Test.YtbbfjlheaaalkaaDoorPa
namespace Go.Proofs.YtbbfjlheaaalkaaDoor.Relax
open Go.Proofs.YtbbfjlheaaalkaaDoor.Enc

def cntN (g : List Bool) : Nat → Nat
  | 0 => 0
  | i + 1 => cntN g i + (if longAt g i then 1 else 0)
def brN (l : List PL) : Nat → Nat
  | 0 => 0
  | i + 1 => brN l i + (if isBr (lineAt l i) then 1 else 0)
theorem brN_snoc (l : List PL) (x : PL) : ∀ i, i ≤ l.length → brN (l ++ [x]) i = brN l i
  | 0, _ => rfl
  | i + 1, h => by
    have e : lineAt (l ++ [x]) i = lineAt l i := by
      unfold lineAt
      rw [List.getD_eq_getElem?_getD, List.getD_eq_getElem?_getD, List.getElem?_append_left (by omega)]
    unfold brN
    rw [brN_snoc l x i (by omega), e]
theorem brN_all (l : List PL) : brN l l.length = branchesP l := by
  unfold branchesP
  suffices h : ∀ (r : List PL), brN r.reverse r.length = (r.reverse.filter isBr).length by
    have := h l.reverse
    simpa using this
  intro r
  induction r with
  | nil => rfl
  | cons x r ih =>
    have hl : r.reverse.length = r.length := List.length_reverse
    rw [List.reverse_cons, List.length_cons]
    unfold brN
    rw [brN_snoc _ _ _ (by omega), ih, List.filter_append, List.length_append]
    have e : lineAt (r.reverse ++ [x]) r.length = x := by
      unfold lineAt
      rw [List.getD_eq_getElem?_getD, List.getElem?_append_right (by omega), hl]; simp
    rw [e]
    cases h : isBr x <;> simp [h]
theorem cnt_le {g h : List Bool} (hgh : Le g h) : ∀ n, cntN g n ≤ cntN h n
  | 0 => Nat.le_refl _
  | n + 1 => by
    have ih := cnt_le hgh n
    have hn := hgh n
    unfold cntN
    cases hg : longAt g n <;> cases hh : longAt h n <;> simp_all <;> omega
theorem cnt_lt {g h : List Bool} (hgh : Le g h) {i : Nat} (h1 : longAt g i = false) (h2 : longAt h i = true) : ∀ n, i < n → cntN g n < cntN h n
  | 0, hi => absurd hi (by omega)
  | n + 1, hi => by
    unfold cntN
    rcases Nat.lt_or_ge i n with h3 | h3
    · have ih := cnt_lt hgh h1 h2 n h3
      have hn := hgh n
      cases hg : longAt g n <;> cases hh : longAt h n <;> simp_all <;> omega
    · have e : i = n := by omega
      subst e
      have := cnt_le hgh i
      simp [h1, h2]; omega
theorem cnt_br {l : List PL} {g : List Bool} (h : ∀ i, longAt g i = true → isBr (lineAt l i) = true) : ∀ n, cntN g n ≤ brN l n
  | 0 => Nat.le_refl _
  | n + 1 => by
    have ih := cnt_br h n
    have hn := h n
    unfold cntN brN
    cases hg : longAt g n
    · cases hb : isBr (lineAt l n) <;> simp <;> omega
    · rw [hn hg]; simp; exact ih
/-- Only branches are long, and only lines of the list. -/
structure Sub (l : List PL) (g : List Bool) : Prop where
  len : g.length = l.length
  br : ∀ i, longAt g i = true → isBr (lineAt l i) = true
theorem sub_none (l : List PL) : Sub l (noneLong l) := by
  refine ⟨by simp [noneLong], fun i hi => ?_⟩
  unfold noneLong longAt at hi
  rw [List.getD_eq_getElem?_getD] at hi
  rcases Nat.lt_or_ge i l.length with h1 | h1
  · rw [List.getElem?_replicate, if_pos h1] at hi; cases hi
  · rw [List.getElem?_eq_none (by simpa using h1)] at hi; cases hi
theorem sub_round {l : List PL} {g : List Bool} (h : Sub l g) : Sub l (roundP l g) := by
  refine ⟨by simp [roundP], fun i hi => ?_⟩
  rw [longAt_round] at hi
  simp only [Bool.and_eq_true, Bool.or_eq_true, decide_eq_true_eq] at hi
  rcases hi.2 with h2 | h2
  · exact h.br i h2
  · exact h2.1
theorem le_round {l : List PL} {g : List Bool} (h : Sub l g) : Le g (roundP l g) := fun i hi => by
  rw [longAt_round, hi]
  have : i < l.length := by
    rcases Nat.lt_or_ge i l.length with h1 | h1
    · exact h1
    · unfold longAt at hi
      rw [List.getD_eq_getElem?_getD, List.getElem?_eq_none (by rw [h.len]; exact h1)] at hi
      cases hi
  simp [this]
theorem ext_long {g h : List Bool} (hl : g.length = h.length) (he : ∀ i, longAt g i = longAt h i) : g = h := by
  apply List.ext_getElem? 
  intro i
  rcases Nat.lt_or_ge i g.length with h1 | h1
  · have h2 := he i
    unfold longAt at h2
    rw [List.getD_eq_getElem?_getD, List.getD_eq_getElem?_getD, List.getElem?_eq_getElem h1, List.getElem?_eq_getElem (by omega)] at h2
    rw [List.getElem?_eq_getElem h1, List.getElem?_eq_getElem (by omega)]
    simpa using h2
  · rw [List.getElem?_eq_none h1, List.getElem?_eq_none (by omega)]
/-- A round that changes something makes one more long. -/
theorem round_more {l : List PL} {g : List Bool} (h : Sub l g) (hne : roundP l g ≠ g) : cntN g l.length < cntN (roundP l g) l.length := by
  have hle := le_round h
  have hex : ∃ i, longAt g i = false ∧ longAt (roundP l g) i = true := by
    rcases Classical.em (∃ i, longAt g i = false ∧ longAt (roundP l g) i = true) with h1 | h1
    · exact h1
    · exfalso
      refine hne (ext_long (by rw [(sub_round h).len, h.len]) fun i => ?_)
      cases hg : longAt g i with
      | true => exact hle i hg
      | false =>
        cases hh : longAt (roundP l g) i with
        | false => rfl
        | true => exact absurd ⟨i, hg, hh⟩ h1
  obtain ⟨i, h1, h2⟩ := hex
  have hi : i < l.length := by
    rw [longAt_round] at h2
    simp only [Bool.and_eq_true, decide_eq_true_eq] at h2
    exact h2.1
  exact cnt_lt hle h1 h2 _ hi
theorem settle_ends {l : List PL} : ∀ (k : Nat) (g : List Bool), Sub l g → branchesP l + 1 ≤ k + cntN g l.length → 1 ≤ k →
    roundP l (settle l k g).1 = (settle l k g).1 ∧ 1 ≤ (settle l k g).2 ∧ (settle l k g).2 ≤ k ∧ Sub l (settle l k g).1 ∧ Le g (settle l k g).1
  | 0, _, _, _, hk => absurd hk (by omega)
  | k + 1, g, hs, hc, _ => by
    unfold settle
    by_cases e : roundP l g = g
    · rw [if_pos e]; exact ⟨e, Nat.le_refl _, by simp only; omega, hs, fun _ h => h⟩
    · rw [if_neg e]
      have h1 := round_more hs e
      have h2 := cnt_br (sub_round hs).br l.length
      rw [brN_all] at h2
      have hk : 1 ≤ k := by omega
      obtain ⟨a, b, c, d, f⟩ := settle_ends k (roundP l g) (sub_round hs) (by omega) hk
      exact ⟨a, by simp only; omega, by simp only; omega, d, fun i hi => f i (le_round hs i hi)⟩
/-- The rounds end; how many there are. -/
theorem long_facts (l : List PL) : roundP l (longP l).1 = (longP l).1 ∧ 1 ≤ (longP l).2 ∧ (longP l).2 ≤ branchesP l + 1 ∧ Sub l (longP l).1 := by
  obtain ⟨a, b, c, d, _⟩ := settle_ends (branchesP l + 1) (noneLong l) (sub_none l) (by omega) (by omega)
  exact ⟨a, b, c, d⟩
/-- All that is short at the end reaches. -/
theorem long_reaches (l : List PL) : Reaches l (longP l).1 := fun i hi hb hs => by
  have h := (long_facts l).1
  have h1 := congrArg (fun g => longAt g i) h
  simp only [longAt_round, hs, hb, hi, decide_true, Bool.true_and, Bool.false_or] at h1
  simpa using h1
end Go.Proofs.YtbbfjlheaaalkaaDoor.Relax
