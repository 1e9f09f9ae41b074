/- A list that is taken is taken without a plain line, and has fewer words; with a label more that nobody goes to its words are the same. No condition. -/
import Derived.Test.YtbbfjlheaaalkaaDoorPi
namespace Go.Proofs.YtbbfjlheaaalkaaDoor.Relax
open Go.Proofs.YtbbfjlheaaalkaaDoor.Enc

theorem firstErr_zero {f : Nat → Int} : ∀ {i k : Nat}, (∀ j, i ≤ j → j < i + k → f j = 0) → firstErr f i k = none
  | i, 0, _ => rfl
  | i, k + 1, h => by
    unfold firstErr
    rw [if_pos (h i (Nat.le_refl _) (by omega))]
    exact firstErr_zero fun j h1 h2 => h j (by omega) (by omega)
theorem refused_taken {l : List PL} (h : Taken l) : refusedP l = (0, 0) := by
  unfold refusedP
  rw [if_neg (by have := h.len; omega), firstErr_zero (fun j _ h2 => h.line j (by omega))]
  simp only
  rw [firstErr_zero (fun j _ h2 => h.lab j (by omega))]
theorem asm_taken {l : List PL} (h : Taken l) (hs : placeP l (longP l).1 l.length ≤ 65536) :
    asmP l = (⟨(wordsN l (longP l).1 l.length).map (·.1), (wordsN l (longP l).1 l.length).map (·.2), (List.range l.length).map fun i => (placeP l (longP l).1 i : Int), (longP l).2⟩, 0, 0) := by
  unfold asmP
  rw [refused_taken h, if_pos rfl, if_neg (by omega)]
theorem stands_none {l : List PL} {lab : Int} : ∀ {n : Nat}, (∀ k, k < n → ¬((lineAt l k).op = 0 ∧ (lineAt l k).label = lab)) → standsAt l lab n = none
  | 0, _ => rfl
  | n + 1, h => by rw [stands_succ, if_neg (h n (by omega))]; exact stands_none fun k hk => h k (by omega)
theorem stands_no {l : List PL} {lab : Int} : ∀ {n : Nat}, standsAt l lab n = none → ∀ k, k < n → ¬((lineAt l k).op = 0 ∧ (lineAt l k).label = lab)
  | 0, _, k, hk => absurd hk (Nat.not_lt_zero _)
  | n + 1, h, k, hk => by
    rw [stands_succ] at h
    split at h
    · cases h
    · rename_i h2
      rcases Nat.lt_or_ge k n with h3 | h3
      · exact stands_no h k h3
      · have e : k = n := by omega
        rw [e]; exact h2
theorem made_at {x : PL} {b : Bool} {q : Int} {f g : Int → Int} (h1 : goesB x = true → f x.label = g x.label) (h2 : ∀ k ∈ x.list, f k = g k) : madeP x b q f = madeP x b q g := by
  have e : x.list.map (fun k => (f k, (3 : Int))) = x.list.map (fun k => (g k, (3 : Int))) := List.map_congr_left fun k hk => by rw [h2 k hk]
  cases hg : goesB x with
  | true =>
    unfold madeP
    rw [h1 hg, e]
  | false =>
    have h3 : ¬(x.op = 40) ∧ ¬(x.op = 41) ∧ ¬(x.op = 43) ∧ branchOp x.op = false := by
      unfold goesB isBr at hg
      simp only [Bool.or_eq_false_iff, beq_eq_false_iff_ne] at hg
      exact ⟨hg.1.2, hg.2.1, hg.2.2, hg.1.1⟩
    unfold madeP
    rw [e, h3.2.2.2]
    simp only [h3.1, h3.2.1, h3.2.2.1, Bool.false_and, false_and, or_false, Bool.false_eq_true, ↓reduceIte]
variable {l m : List PL} {p : Nat}
theorem stands_was (hc : Cut l m p) {lab : Int} (hp : ¬((lineAt l p).op = 0 ∧ (lineAt l p).label = lab)) {k : Nat} (hk : k < m.length) : (standsAt l lab (was p k)).isSome = (standsAt m lab k).isSome := by
  have h := stands_cut hc lab hp k (by omega)
  have e : standsAt l lab (was p k) = standsAt l lab (if k ≤ p then k else k + 1) := by
    unfold was
    by_cases h1 : k < p
    · rw [if_pos h1, if_pos (by omega)]
    · rw [if_neg h1]
      by_cases h2 : k ≤ p
      · have e2 : k = p := by omega
        rw [if_pos h2, e2, stands_succ, if_neg hp]
      · rw [if_neg h2]
  rw [e, ← h, Option.isSome_map]
theorem line_cut (hc : Cut l m p) {k : Nat} (hk : k < m.length) (hp : ¬((lineAt l p).op = 0 ∧ (lineAt l p).label = (lineAt m k).label)) : lineErr m k = lineErr l (was p k) := by
  unfold lineErr
  rw [hc.line k] at hp
  rw [hc.line k, stands_was hc hp hk]
theorem lab_cut (hc : Cut l m p) {k : Nat} (hp : ∀ lab, (goesB (lineAt m k) = true ∧ (lineAt m k).label = lab) ∨ lab ∈ (lineAt m k).list → ¬((lineAt l p).op = 0 ∧ (lineAt l p).label = lab)) : labErr m k = labErr l (was p k) := by
  unfold labErr standsB
  rw [hc.line k] at hp
  rw [hc.line k]
  generalize lineAt l (was p k) = x at hp
  have e1 : (goesB x && !(standsAt m x.label m.length).isSome) = (goesB x && !(standsAt l x.label l.length).isSome) := by
    cases hg : goesB x with
    | false => rfl
    | true => rw [stands_up hc (hp _ (.inl ⟨hg, rfl⟩))]
  have e2 : (x.list.any fun k => !(standsAt m k m.length).isSome) = (x.list.any fun k => !(standsAt l k l.length).isSome) := by
    rw [Bool.eq_iff_iff, List.any_eq_true, List.any_eq_true]
    constructor
    · rintro ⟨y, h1, h2⟩; exact ⟨y, h1, by rw [stands_up hc (hp _ (.inr h1))]; exact h2⟩
    · rintro ⟨y, h1, h2⟩; exact ⟨y, h1, by rw [stands_up hc (hp _ (.inr h1))] at h2; exact h2⟩
  rw [e1, e2]
/-- Without a line that is no label. -/
theorem taken_cut (hc : Cut l m p) (h : Taken l) (h0 : (lineAt l p).op ≠ 0) : Taken m := by
  refine ⟨by have := h.len; have := hc.len; omega, fun i hi => ?_, fun i hi => ?_⟩
  · rw [line_cut hc hi (fun h2 => h0 h2.1)]; exact h.line _ (was_lt hc hi)
  · rw [lab_cut hc (fun _ _ h2 => h0 h2.1)]; exact h.lab _ (was_lt hc hi)
theorem place_le {g h : List Bool} (hgh : Le g h) (i : Nat) : placeP l g i ≤ placeP l h i := by
  have := between_le (l := l) hgh 0 i
  simp only [Nat.zero_add, placeP] at this
  omega
/-- A line of one word less: taken, fewer words, and nothing long that was short. -/
theorem asm_cut (hc : Cut l m p) {a : Asm} {line : Int} (h : asmP l = (a, line, 0)) (hz : ∀ b, sizeP (lineAt l p) b = 1) (hnb : isBr (lineAt l p) = false) (h0 : (lineAt l p).op ≠ 0) :
    ∃ b, asmP m = (b, 0, 0) ∧ b.words.length < a.words.length ∧ ∀ k, longAt (longP m).1 k = true → longAt (longP l).1 (was p k) = true := by
  obtain ⟨ht, hsz, _, _⟩ := asm_yes h
  have hm := taken_cut hc ht h0
  have hsh : ∀ k, longAt (longP m).1 k = true → longAt (longP l).1 (was p k) = true := fun k hk => shrinks hc hz hnb h0 ht.stand hk
  have hle : Le (longP m).1 (seen m p (longP l).1) := by
    intro k hk
    rw [longAt_seen, hsh k hk, Bool.and_true]
    have hs := (long_facts m).2.2.2.len
    rcases Nat.lt_or_ge k m.length with h1 | h1
    · exact decide_eq_true h1
    · unfold longAt at hk
      rw [List.getD_eq_getElem?_getD, List.getElem?_eq_none (by omega)] at hk
      cases hk
  have h1 := place_le (l := m) hle m.length
  have h2 := place_cut hc (longP l).1 hz m.length (Nat.le_refl _)
  have h3 : placeP l (longP l).1 l.length = placeP m (seen m p (longP l).1) m.length + 1 := by
    have k1 := hc.at_
    have k2 := hc.len
    by_cases h4 : m.length ≤ p
    · have k4 : p = m.length := by omega
      rw [if_pos h4, if_pos h4] at h2
      rw [← k2]
      show placeP l _ m.length + sizeP (lineAt l m.length) _ = _
      rw [← h2, ← k4, hz]
    · rw [if_neg h4, if_neg h4, k2] at h2
      omega
  refine ⟨_, asm_taken hm (by omega), ?_, hsh⟩
  rw [(asm_len h).1, List.length_map, words_len]
  omega
/-- A label more that stands nowhere yet. -/
theorem asm_idle {lab : Int} (hc : Cut l m p) {b : Asm} {line : Int} (h : asmP m = (b, line, 0)) (h0 : lineAt l p = ⟨0, 0, 0, 0, 0, lab, []⟩) (hlab : labelB lab = true) (hno : standsAt m lab m.length = none) (hlen : l.length ≤ 60000) :
    ∃ a, asmP l = (a, 0, 0) ∧ a.words = b.words ∧ a.kinds = b.kinds ∧ a.rounds = b.rounds := by
  obtain ⟨hm, hsz, _, hb⟩ := asm_yes h
  have hp : ∀ {k : Int}, (standsAt m k m.length).isSome = true → ¬((lineAt l p).op = 0 ∧ (lineAt l p).label = k) := by
    rintro k hk ⟨_, h2⟩
    rw [h0] at h2
    simp only at h2
    rw [← h2, hno] at hk
    cases hk
  have hun : ∀ i, i < m.length → isBr (lineAt m i) = true → (lineAt m i).label ≠ (lineAt l p).label := fun i hi hb h2 =>
    hp (hm.goes hi (by unfold goesB; rw [hb]; rfl)) ⟨by rw [h0], h2.symm⟩
  have hi : Idle l m p := ⟨hc, by rw [h0], hun⟩
  have hst := hm.stand
  -- every line but the new one is that of before
  have hwas : ∀ i, i < l.length → i ≠ p → ∃ k, k < m.length ∧ was p k = i := by
    intro i h1 h2
    have := hc.len
    rcases Nat.lt_or_ge i p with h3 | h3
    · exact ⟨i, by have := hc.at_; omega, by unfold was; rw [if_pos h3]⟩
    · exact ⟨i - 1, by omega, by unfold was; rw [if_neg (by omega)]; omega⟩
  have hT : Taken l := by
    refine ⟨hlen, fun i h1 => ?_, fun i h1 => ?_⟩
    · by_cases h2 : i = p
      · subst h2
        unfold lineErr
        rw [h0]
        have hs0 : standsAt l lab i = none := stands_none fun k hk h4 => by
          have hwk : was i k = k := by unfold was; rw [if_pos hk]
          have h5 := hc.line k
          rw [hwk] at h5
          rw [← h5] at h4
          exact stands_no hno k (by have := hc.len; omega) h4
        simp only
        rw [if_neg (by omega)]
        have hmay : mayL ⟨0, 0, 0, 0, 0, lab, []⟩ = true := by unfold mayL; rw [if_pos rfl, hlab]; rfl
        rw [hmay, if_pos rfl, if_neg (by rw [hs0]; simp)]
      · obtain ⟨k, hk, rfl⟩ := hwas i h1 h2
        by_cases h3 : (lineAt m k).op = 0
        · rw [← line_cut hc hk]
          · exact hm.line k hk
          · rintro ⟨_, h4⟩
            rw [h0] at h4
            simp only at h4
            exact stands_no hno k hk ⟨h3, h4.symm⟩
        · have h6 := hm.line k hk
          unfold lineErr at h6 ⊢
          rw [hc.line k] at h6 h3
          generalize (standsAt l (lineAt l (was p k)).label (was p k)).isSome = q
          generalize (standsAt m (lineAt l (was p k)).label k).isSome = q2 at h6
          have e : ∀ q : Bool, (if (lineAt l (was p k)).op = 0 ∧ q = true then (172 : Int) else 0) = 0 := fun q => if_neg (fun h7 => h3 h7.1)
          rw [e] at h6 ⊢
          exact h6
    · by_cases h2 : i = p
      · subst h2
        unfold labErr
        rw [h0]
        rfl
      · obtain ⟨k, hk, rfl⟩ := hwas i h1 h2
        rw [← lab_cut hc]
        · exact hm.lab k hk
        · rintro lab2 (⟨h3, h4⟩ | h3)
          · exact hp (h4 ▸ hm.goes hk h3)
          · exact hp (hm.list hk h3)
  have hat : ∀ {k : Int}, (standsAt m k m.length).isSome = true → atP m (longP m).1 k = atP l (longP l).1 k := fun {k} hk => idle_at hi hst (fun h2 => hp hk ⟨by rw [h0], h2⟩) hk
  have hone : ∀ k, k < m.length → madeP (lineAt m k) (longAt (longP m).1 k) (placeP m (longP m).1 k) (atP m (longP m).1) = madeP (lineAt l (was p k)) (longAt (longP l).1 (was p k)) (placeP l (longP l).1 (was p k)) (atP l (longP l).1) := by
    intro k hk
    rw [idle_place hi hst hk, ← hc.line k, made_at (fun hg => hat (hm.goes hk hg)) (fun y hy => hat (hm.list hk hy))]
    have e : longAt (longP m).1 k = longAt (longP l).1 (was p k) := by
      rw [idle_long hi hst, longAt_seen, decide_eq_true hk, Bool.true_and]
    rw [e]
  have hw : ∀ k, k ≤ m.length → wordsN m (longP m).1 k = wordsN l (longP l).1 (if k ≤ p then k else k + 1) := by
    have hpn : ∀ b q f, madeP (lineAt l p) b q f = [] := by intro b q f; unfold madeP; rw [h0, if_pos rfl]
    intro k
    induction k with
    | zero => intro _; simp [wordsN]
    | succ k ih =>
      intro hk
      have ih := ih (by omega)
      show wordsN m _ k ++ madeP _ _ _ _ = _
      rw [hone k (by omega), ih]
      unfold was
      by_cases h1 : k + 1 ≤ p
      · have hkp : k < p := by omega
        have hkp2 : k ≤ p := by omega
        rw [if_pos h1, if_pos hkp2, if_pos hkp]; rfl
      · have hkp : ¬ k < p := by omega
        rw [if_neg h1, if_neg hkp]
        by_cases h2 : k ≤ p
        · have e : k = p := by omega
          rw [if_pos h2]
          show _ = wordsN l _ (k + 1) ++ _
          show _ = (wordsN l _ k ++ madeP (lineAt l k) _ _ _) ++ _
          rw [e, hpn, List.append_nil]
        · rw [if_neg h2]; rfl
  have hall : wordsN m (longP m).1 m.length = wordsN l (longP l).1 l.length := by
    have h2 := hw m.length (Nat.le_refl _)
    have k1 := hc.at_
    have k2 := hc.len
    rw [h2]
    by_cases h3 : m.length ≤ p
    · have k4 : p = m.length := by omega
      rw [if_pos h3, ← k2]
      show _ = wordsN l _ m.length ++ madeP (lineAt l m.length) _ _ _
      rw [← k4]
      have hpn : ∀ b q f, madeP (lineAt l p) b q f = [] := by intro b q f; unfold madeP; rw [h0, if_pos rfl]
      rw [hpn, List.append_nil]
    · rw [if_neg h3, k2]
  have hpl : placeP l (longP l).1 l.length = placeP m (longP m).1 m.length := by
    rw [← words_len, ← words_len, hall]
  refine ⟨_, asm_taken hT (by omega), ?_, ?_, ?_⟩
  · rw [hb]; simp only; rw [hall]
  · rw [hb]; simp only; rw [hall]
  · rw [hb]; simp only; rw [idle_long hi hst]
end Go.Proofs.YtbbfjlheaaalkaaDoor.Relax
