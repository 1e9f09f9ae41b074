/- The assembler's rounds, plainly: a label more that nobody goes to changes nothing. No condition. -/
import Derived.Test.YtbbfjlheaaalkaaDoorPc
namespace Go.Proofs.YtbbfjlheaaalkaaDoor.Relax
open Go.Proofs.YtbbfjlheaaalkaaDoor.Enc
section
variable {l m : List PL} {p : Nat}
/-- The line p of l is a label to which no branch of m goes. -/
structure Idle (l m : List PL) (p : Nat) : Prop where
  cut : Cut l m p
  op : (lineAt l p).op = 0
  un : ∀ i, i < m.length → isBr (lineAt m i) = true → (lineAt m i).label ≠ (lineAt l p).label
theorem label_size {x : PL} (h : x.op = 0) (b : Bool) : sizeP x b = 0 := by unfold sizeP; rw [if_pos h]
theorem label_br {x : PL} (h : x.op = 0) : isBr x = false := by unfold isBr branchOp; rw [h]; decide
/-- Labels stand in the longer list where they stand in the shorter one. -/
theorem stands_up (hc : Cut l m p) {lab : Int} (hp : ¬((lineAt l p).op = 0 ∧ (lineAt l p).label = lab)) : (standsAt l lab l.length).isSome = (standsAt m lab m.length).isSome := by
  have h := stands_cut hc lab hp m.length (Nat.le_refl _)
  have k1 := hc.at_
  have k2 := hc.len
  have e : standsAt l lab (if m.length ≤ p then m.length else m.length + 1) = standsAt l lab l.length := by
    by_cases k3 : m.length ≤ p
    · have k4 : p = m.length := by omega
      rw [if_pos k3, ← k2, ← k4]
      show _ = if (lineAt l p).op = 0 ∧ (lineAt l p).label = lab then some p else standsAt l lab p
      rw [if_neg hp]
    · rw [if_neg k3, k2]
  rw [← e, ← h, Option.isSome_map]
theorem round_idle (hi : Idle l m p) (hm : Stand m) {g : List Bool} : roundP m (seen m p g) = seen m p (roundP l g) := by
  refine ext_long (by simp [roundP, seen]) fun k => ?_
  rw [longAt_round, longAt_seen, longAt_seen, longAt_round, hi.cut.line k]
  rcases Nat.lt_or_ge k m.length with hk | hk
  · rw [decide_eq_true hk, decide_eq_true (was_lt hi.cut hk)]
    simp only [Bool.true_and]
    cases hb : isBr (lineAt l (was p k)) with
    | false => simp
    | true =>
      have hbm : isBr (lineAt m k) = true := by rw [hi.cut.line k]; exact hb
      have hun := hi.un k hk hbm
      rw [hi.cut.line k] at hun
      have hp : ¬((lineAt l p).op = 0 ∧ (lineAt l p).label = (lineAt l (was p k)).label) := fun e => hun e.2.symm
      have hs := hm k hk hbm
      rw [hi.cut.line k, ← stands_up hi.cut hp] at hs
      obtain ⟨t, ht⟩ := Option.isSome_iff_exists.1 hs
      have hd := disp_cut (z := 0) hi.cut g (fun b => label_size hi.op b) hk hp ht
      rw [hd]
      simp
  · rw [decide_eq_false (by omega)]; simp
theorem long_p {g : List Bool} (hi : Idle l m p) (hs : Sub l g) : longAt g p = false := by
  cases h : longAt g p with
  | false => rfl
  | true => have := hs.br p h; rw [label_br hi.op] at this; cases this
/-- Two long sets of the longer list that the shorter one sees alike are one. -/
theorem seen_inj {g h : List Bool} (hi : Idle l m p) (hg : Sub l g) (hh : Sub l h) (e : seen m p g = seen m p h) : g = h := by
  refine ext_long (by rw [hg.len, hh.len]) fun i => ?_
  by_cases hip : i = p
  · subst hip; rw [long_p hi hg, long_p hi hh]
  · rcases Nat.lt_or_ge i l.length with h1 | h1
    · have hl := hi.cut.len
      obtain ⟨k, hk, hk2⟩ : ∃ k, was p k = i ∧ k < m.length := by
        by_cases h2 : i < p
        · exact ⟨i, by unfold was; rw [if_pos h2], by have := hi.cut.at_; omega⟩
        · exact ⟨i - 1, by unfold was; rw [if_neg (by omega)]; omega, by omega⟩
      have h3 := congrArg (fun x => longAt x k) e
      simp only [longAt_seen, decide_eq_true hk2, Bool.true_and, hk] at h3
      exact h3
    · unfold longAt
      rw [List.getD_eq_getElem?_getD, List.getD_eq_getElem?_getD, List.getElem?_eq_none (by rw [hg.len]; exact h1), List.getElem?_eq_none (by rw [hh.len]; exact h1)]
theorem settle_idle (hi : Idle l m p) (hm : Stand m) : ∀ (k : Nat) (g : List Bool), Sub l g → settle m k (seen m p g) = (seen m p (settle l k g).1, (settle l k g).2)
  | 0, _, _ => rfl
  | k + 1, g, hs => by
    unfold settle
    rw [round_idle hi hm]
    by_cases e : roundP l g = g
    · rw [if_pos e, if_pos (by rw [e])]
    · rw [if_neg e, if_neg (fun e2 => e (seen_inj hi (sub_round hs) hs e2)), settle_idle hi hm k _ (sub_round hs)]
theorem seen_none (_hc : Cut l m p) : seen m p (noneLong l) = noneLong m := by
  refine ext_long (by simp [seen, noneLong]) fun k => ?_
  have h0 : ∀ (x : List PL) i, longAt (noneLong x) i = false := fun x i => by
    cases h : longAt (noneLong x) i with
    | false => rfl
    | true =>
      unfold noneLong longAt at h
      rw [List.getD_eq_getElem?_getD] at h
      rcases Nat.lt_or_ge i x.length with h1 | h1
      · rw [List.getElem?_replicate, if_pos h1] at h; cases h
      · rw [List.getElem?_eq_none (by simpa using h1)] at h; cases h
  rw [longAt_seen, h0, h0]; simp
theorem br_cut (hc : Cut l m p) (hb : isBr (lineAt l p) = false) : ∀ k, k ≤ m.length → brN m k = brN l (if k ≤ p then k else k + 1)
  | 0, _ => by simp [brN]
  | k + 1, hk => by
    have ih := br_cut hc hb k (by omega)
    show brN m k + (if isBr (lineAt m k) then 1 else 0) = _
    rw [hc.line k]
    by_cases h1 : k + 1 ≤ p
    · have e : was p k = k := by unfold was; rw [if_pos (by omega)]
      rw [if_pos h1, e]
      rw [if_pos (by omega)] at ih
      rw [ih]; rfl
    · have e : was p k = k + 1 := by unfold was; rw [if_neg (by omega)]
      rw [if_neg h1, e]
      by_cases h2 : k ≤ p
      · have e2 : k = p := by omega
        subst e2
        rw [if_pos (Nat.le_refl _)] at ih
        show _ = brN l k + (if isBr (lineAt l k) then 1 else 0) + (if isBr (lineAt l (k + 1)) then 1 else 0)
        rw [hb, ih]; rfl
      · rw [if_neg h2] at ih
        rw [ih]; rfl
theorem branches_cut (hc : Cut l m p) (hb : isBr (lineAt l p) = false) : branchesP m = branchesP l := by
  rw [← brN_all, ← brN_all, br_cut hc hb m.length (Nat.le_refl _)]
  have k1 := hc.at_
  have k2 := hc.len
  by_cases k3 : m.length ≤ p
  · have k4 : p = m.length := by omega
    rw [if_pos k3, ← k2, ← k4]
    show _ = brN l p + (if isBr (lineAt l p) then 1 else 0)
    rw [hb]; simp
  · rw [if_neg k3, k2]
/-- A label more that nobody goes to: the same rounds, the same long branches. -/
theorem idle_long (hi : Idle l m p) (hm : Stand m) : longP m = (seen m p (longP l).1, (longP l).2) := by
  unfold longP
  rw [← seen_none hi.cut, branches_cut hi.cut (label_br hi.op)]
  exact settle_idle hi hm _ _ (sub_none l)
/-- The places of lines, and of labels, are the same. -/
theorem idle_place (hi : Idle l m p) (hm : Stand m) {k : Nat} (hk : k < m.length) : placeP m (longP m).1 k = placeP l (longP l).1 (was p k) := by
  rw [idle_long hi hm]
  have := place_was (z := 0) hi.cut (longP l).1 (fun b => label_size hi.op b) hk
  simp at this
  exact_mod_cast this
theorem idle_at (hi : Idle l m p) (hm : Stand m) {lab : Int} (hp : (lineAt l p).label ≠ lab) (hs : (standsAt m lab m.length).isSome = true) : atP m (longP m).1 lab = atP l (longP l).1 lab := by
  rw [idle_long hi hm]
  have hp2 : ¬((lineAt l p).op = 0 ∧ (lineAt l p).label = lab) := fun e => hp e.2
  rw [← stands_up hi.cut hp2] at hs
  obtain ⟨t, ht⟩ := Option.isSome_iff_exists.1 hs
  obtain ⟨s, h1, _, _, h4⟩ := at_cut (z := 0) hi.cut (longP l).1 (fun b => label_size hi.op b) hp2 ht
  unfold atP
  rw [h1, ht]
  simp only
  rw [h4]; simp
end
end Go.Proofs.YtbbfjlheaaalkaaDoor.Relax
