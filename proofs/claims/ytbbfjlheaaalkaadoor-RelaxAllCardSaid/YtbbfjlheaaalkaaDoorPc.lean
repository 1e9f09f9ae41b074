/- The assembler's rounds, plainly: a line of one word less makes no branch long; labels that nobody goes to change nothing. No condition. -/
import Derived.Test.YtbbfjlheaaalkaaDoorPb
namespace Go.Proofs.YtbbfjlheaaalkaaDoor.Relax
open Go.Proofs.YtbbfjlheaaalkaaDoor.Enc

/-- Where a line of the shorter list stood. -/
def was (p k : Nat) : Nat := if k < p then k else k + 1
/-- l without its line p. -/
structure Cut (l m : List PL) (p : Nat) : Prop where
  at_ : p < l.length
  len : m.length + 1 = l.length
  line : ∀ k, lineAt m k = lineAt l (was p k)
theorem cut_erase (l : List PL) (p : Nat) (h : p < l.length) : Cut l (l.take p ++ l.drop (p + 1)) p := by
  refine ⟨h, by rw [List.length_append, List.length_take, List.length_drop]; omega, fun k => ?_⟩
  unfold lineAt was
  rw [List.getD_eq_getElem?_getD, List.getD_eq_getElem?_getD]
  congr 1
  by_cases hk : k < p
  · rw [if_pos hk, List.getElem?_append_left (by rw [List.length_take]; omega), List.getElem?_take_of_lt hk]
  · rw [if_neg hk, List.getElem?_append_right (by rw [List.length_take]; omega), List.getElem?_drop, List.length_take]
    congr 1
    omega
/-- The long set of the list, seen from the shorter one. -/
def seen (m : List PL) (p : Nat) (g : List Bool) : List Bool := (List.range m.length).map fun k => longAt g (was p k)
theorem longAt_seen (m : List PL) (p : Nat) (g : List Bool) (k : Nat) : longAt (seen m p g) k = (decide (k < m.length) && longAt g (was p k)) := by
  unfold seen
  rw [show longAt (List.map (fun k => longAt g (was p k)) (List.range m.length)) k = ((List.map (fun k => longAt g (was p k)) (List.range m.length))[k]?).getD false from List.getD_eq_getElem?_getD]
  rw [List.getElem?_map]
  rcases Nat.lt_or_ge k m.length with h | h
  · rw [List.getElem?_range h]; simp [h]
  · rw [List.getElem?_eq_none (by simp; omega)]; simp; omega
section
variable {l m : List PL} {p z : Nat}
/-- How places go together: z is how many words the line p makes. -/
theorem place_cut (hc : Cut l m p) (g : List Bool) (hz : ∀ b, sizeP (lineAt l p) b = z) : ∀ k, k ≤ m.length → placeP m (seen m p g) k + (if k ≤ p then 0 else z) = placeP l g (if k ≤ p then k else k + 1)
  | 0, _ => by simp [placeP]
  | k + 1, hk => by
    have ih := place_cut hc g hz k (by omega)
    show placeP m (seen m p g) k + sizeP (lineAt m k) (longAt (seen m p g) k) + _ = _
    rw [hc.line k, longAt_seen]
    have hd : decide (k < m.length) = true := decide_eq_true (by omega)
    rw [hd, Bool.true_and]
    unfold was
    by_cases h1 : k + 1 ≤ p
    · rw [if_pos h1, if_pos h1, if_pos (by omega)]
      rw [if_pos (by omega), if_pos (by omega)] at ih
      show _ = placeP l g k + _
      omega
    · rw [if_neg h1, if_neg h1, if_neg (by omega)]
      by_cases h2 : k ≤ p
      · have e : k = p := by omega
        subst e
        rw [if_pos (Nat.le_refl _), if_pos (Nat.le_refl _)] at ih
        show _ = placeP l g k + sizeP (lineAt l k) (longAt g k) + sizeP (lineAt l (k + 1)) (longAt g (k + 1))
        rw [hz]; omega
      · rw [if_neg h2, if_neg h2] at ih
        show _ = placeP l g (k + 1) + sizeP (lineAt l (k + 1)) (longAt g (k + 1))
        omega
/-- Where labels stand. -/
theorem stands_cut (hc : Cut l m p) (lab : Int) (hp : ¬((lineAt l p).op = 0 ∧ (lineAt l p).label = lab)) : ∀ k, k ≤ m.length → (standsAt m lab k).map (was p) = standsAt l lab (if k ≤ p then k else k + 1)
  | 0, _ => by simp [standsAt]
  | k + 1, hk => by
    have ih := stands_cut hc lab hp k (by omega)
    show (if (lineAt m k).op = 0 ∧ (lineAt m k).label = lab then some k else standsAt m lab k).map (was p) = _
    rw [hc.line k]
    by_cases h1 : k + 1 ≤ p
    · rw [if_pos h1]
      rw [if_pos (by omega)] at ih
      have e : was p k = k := by unfold was; rw [if_pos (by omega)]
      show _ = if (lineAt l k).op = 0 ∧ (lineAt l k).label = lab then some k else standsAt l lab k
      rw [e]
      split
      · simp [e]
      · exact ih
    · rw [if_neg h1]
      have e : was p k = k + 1 := by unfold was; rw [if_neg (by omega)]
      show _ = if (lineAt l (k + 1)).op = 0 ∧ (lineAt l (k + 1)).label = lab then some (k + 1) else standsAt l lab (k + 1)
      rw [e]
      split
      · simp [e]
      · by_cases h2 : k ≤ p
        · have e2 : k = p := by omega
          subst e2
          rw [if_pos (Nat.le_refl _)] at ih
          show _ = if (lineAt l k).op = 0 ∧ (lineAt l k).label = lab then some k else standsAt l lab k
          rw [if_neg hp]; exact ih
        · rw [if_neg h2] at ih; exact ih
theorem was_lt (hc : Cut l m p) {k : Nat} (hk : k < m.length) : was p k < l.length := by
  have := hc.len
  unfold was; split <;> omega
theorem was_ne (p k : Nat) : was p k ≠ p := by unfold was; split <;> omega
/-- Where a label stands, and its place, in both. -/
theorem at_cut (hc : Cut l m p) (g : List Bool) (hz : ∀ b, sizeP (lineAt l p) b = z) {lab : Int} (hp : ¬((lineAt l p).op = 0 ∧ (lineAt l p).label = lab)) {t : Nat} (ht : standsAt l lab l.length = some t) :
    ∃ s, standsAt m lab m.length = some s ∧ was p s = t ∧ s < m.length ∧ (placeP m (seen m p g) s : Int) = placeP l g t - (if p < t then (z : Int) else 0) := by
  have h := stands_cut hc lab hp m.length (Nat.le_refl _)
  have e : standsAt l lab (if m.length ≤ p then m.length else m.length + 1) = standsAt l lab l.length := by
    have k1 := hc.at_
    have k2 := hc.len
    by_cases k3 : m.length ≤ p
    · have k4 : p = m.length := by omega
      rw [if_pos k3, ← k2, ← k4]
      show _ = if (lineAt l p).op = 0 ∧ (lineAt l p).label = lab then some p else standsAt l lab p
      rw [if_neg hp]
    · rw [if_neg k3, k2]
  rw [e, ht] at h
  cases hs : standsAt m lab m.length with
  | none => rw [hs] at h; cases h
  | some s =>
    rw [hs] at h
    simp only [Option.map_some, Option.some.injEq] at h
    have hlt : s < m.length := by
      have key : ∀ n s, standsAt m lab n = some s → s < n := by
        intro n
        induction n with
        | zero => intro s h; cases h
        | succ n ih =>
          intro s h
          unfold standsAt at h
          split at h
          · injection h with h; omega
          · have := ih s h; omega
      exact key _ _ hs
    refine ⟨s, rfl, h, hlt, ?_⟩
    have hpl := place_cut hc g hz s (by omega)
    unfold was at h
    by_cases h1 : s < p
    · rw [if_pos h1] at h
      rw [if_pos (by omega), if_pos (by omega)] at hpl
      rw [if_neg (by omega)]
      subst h; omega
    · rw [if_neg h1] at h
      by_cases h2 : s = p
      · subst h2
        rw [if_pos (Nat.le_refl _), if_pos (Nat.le_refl _)] at hpl
        subst h
        rw [if_pos (by omega)]
        have e3 : placeP l g (s + 1) = placeP l g s + z := by show placeP l g s + sizeP _ _ = _; rw [hz]
        omega
      · rw [if_neg (by omega), if_neg (by omega)] at hpl
        rw [if_pos (by omega)]
        subst h; omega
theorem place_was (hc : Cut l m p) (g : List Bool) (hz : ∀ b, sizeP (lineAt l p) b = z) {k : Nat} (hk : k < m.length) : (placeP m (seen m p g) k : Int) = placeP l g (was p k) - (if p < was p k then (z : Int) else 0) := by
  have hpl := place_cut hc g hz k (by omega)
  unfold was
  by_cases h1 : k < p
  · rw [if_pos h1, if_neg (by omega)]
    rw [if_pos (by omega), if_pos (by omega)] at hpl
    omega
  · rw [if_neg h1, if_pos (by omega)]
    by_cases h2 : k = p
    · subst h2
      rw [if_pos (Nat.le_refl _), if_pos (Nat.le_refl _)] at hpl
      have e3 : placeP l g (k + 1) = placeP l g k + z := by show placeP l g k + sizeP _ _ = _; rw [hz]
      omega
    · rw [if_neg (by omega), if_neg (by omega)] at hpl
      omega
/-- How displacements go together. -/
theorem disp_cut (hc : Cut l m p) (g : List Bool) (hz : ∀ b, sizeP (lineAt l p) b = z) {k : Nat} (hk : k < m.length) (hp : ¬((lineAt l p).op = 0 ∧ (lineAt l p).label = (lineAt l (was p k)).label))
    {t : Nat} (ht : standsAt l (lineAt l (was p k)).label l.length = some t) :
    dispP m (seen m p g) k = dispP l g (was p k) - (if p < t then (z : Int) else 0) + (if p < was p k then (z : Int) else 0) := by
  obtain ⟨s, h1, _, _, h4⟩ := at_cut hc g hz hp ht
  have h5 := place_was hc g hz hk
  unfold dispP atP
  rw [hc.line k, h1, ht]
  simp only
  omega
/-- Without a line of one word that is no branch and no label, no branch becomes long. -/
theorem shrinks (hc : Cut l m p) (hz : ∀ b, sizeP (lineAt l p) b = 1) (_hnb : isBr (lineAt l p) = false) (ho : (lineAt l p).op ≠ 0) (hl : Stand l) {k : Nat} (h : longAt (longP m).1 k = true) : longAt (longP l).1 (was p k) = true := by
  have hm : Stand m := fun i hi hb => by
    rw [hc.line i] at hb ⊢
    have := hl (was p i) (was_lt hc hi) hb
    obtain ⟨t, ht⟩ := Option.isSome_iff_exists.1 this
    obtain ⟨s, h1, _⟩ := at_cut hc (noneLong l) hz (fun e => ho e.1) ht
    rw [h1]; rfl
  have hr : Reaches m (seen m p (longP l).1) := fun i hi hb hs => by
    rw [hc.line i] at hb
    rw [longAt_seen, decide_eq_true hi, Bool.true_and] at hs
    have hn := long_reaches l (was p i) (was_lt hc hi) hb hs
    obtain ⟨t, ht⟩ := Option.isSome_iff_exists.1 (hl (was p i) (was_lt hc hi) hb)
    have hd := disp_cut hc (longP l).1 hz hi (fun e => ho e.1) ht
    have hw : placeP l (longP l).1 (was p i + 1) = placeP l (longP l).1 (was p i) + 1 := by show placeP l _ (was p i) + sizeP _ _ = _; rw [hs, br_size _ hb]
    have hpp : placeP l (longP l).1 (p + 1) = placeP l (longP l).1 p + 1 := by show placeP l _ p + sizeP _ _ = _; rw [hz]
    have hdl : dispP l (longP l).1 (was p i) = (placeP l (longP l).1 t : Int) - placeP l (longP l).1 (was p i) - 1 := by unfold dispP atP; rw [ht]
    have hne := was_ne p i
    have hmono : ∀ a b, a ≤ b → placeP l (longP l).1 a ≤ placeP l (longP l).1 b := fun a b hab => by
      obtain ⟨d, rfl⟩ := Nat.exists_eq_add_of_le hab
      exact place_mono l _ a d
    have ht0 : t ≠ p := fun e => by
      have key : ∀ n s, standsAt l (lineAt l (was p i)).label n = some s → (lineAt l s).op = 0 := by
        intro n
        induction n with
        | zero => intro s h; cases h
        | succ n ih =>
          intro s h
          unfold standsAt at h
          split at h
          · rename_i hh; injection h with h; subst h; exact hh.1
          · exact ih s h
      have := key _ _ ht
      rw [e] at this
      exact ho this
    unfold nearB at hn ⊢
    simp only [decide_eq_true_eq] at hn ⊢
    rw [hd]
    by_cases c1 : p < t
    · by_cases c2 : p < was p i
      · rw [if_pos c1, if_pos c2]; omega
      · rw [if_pos c1, if_neg c2]
        have m1 := hmono (was p i + 1) p (by omega)
        have m2 := hmono (p + 1) t (by omega)
        omega
    · by_cases c2 : p < was p i
      · rw [if_neg c1, if_pos c2]
        have m1 := hmono t p (by omega)
        have m2 := hmono (p + 1) (was p i) (by omega)
        omega
      · rw [if_neg c1, if_neg c2]; omega
  have h2 := least hm hr k h
  rw [longAt_seen] at h2
  simp only [Bool.and_eq_true] at h2
  exact h2.2
end
end Go.Proofs.YtbbfjlheaaalkaaDoor.Relax
