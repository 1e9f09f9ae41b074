/- The assembler, plainly: what is known of a list that is taken; which words stand at a line's place. No condition. -/
import Derived.Test.YtbbfjlheaaalkaaDoorPe
namespace Go.Proofs.YtbbfjlheaaalkaaDoor.Relax
open Go.Proofs.YtbbfjlheaaalkaaDoor.Enc

theorem firstErr_none {f : Nat → Int} : ∀ {i k : Nat}, firstErr f i k = none → ∀ j, i ≤ j → j < i + k → f j = 0
  | i, 0, _, j, h1, h2 => absurd h2 (by omega)
  | i, k + 1, h, j, h1, h2 => by
    unfold firstErr at h
    by_cases h0 : f i = 0
    · rw [if_pos h0] at h
      rcases Nat.lt_or_ge i j with h3 | h3
      · exact firstErr_none h j (by omega) (by omega)
      · have e : j = i := by omega
        subst e; exact h0
    · rw [if_neg h0] at h; cases h
theorem firstErr_some {f : Nat → Int} : ∀ {i k j : Nat} {e : Int}, firstErr f i k = some (j, e) → i ≤ j ∧ j < i + k ∧ e = f j ∧ f j ≠ 0
  | i, 0, j, e, h => by cases h
  | i, k + 1, j, e, h => by
    unfold firstErr at h
    by_cases h0 : f i = 0
    · rw [if_pos h0] at h
      obtain ⟨a, b, c, d⟩ := firstErr_some h
      exact ⟨by omega, by omega, c, d⟩
    · rw [if_neg h0] at h
      simp only [Option.some.injEq, Prod.mk.injEq] at h
      obtain ⟨rfl, rfl⟩ := h
      exact ⟨Nat.le_refl _, by omega, rfl, h0⟩
/-- What is known of a list that is taken. -/
structure Taken (l : List PL) : Prop where
  len : l.length ≤ 60000
  line : ∀ i, i < l.length → lineErr l i = 0
  lab : ∀ i, i < l.length → labErr l i = 0
theorem taken_of {l : List PL} (h : (refusedP l).2 = 0) : Taken l := by
  unfold refusedP at h
  by_cases h1 : 60000 < l.length
  · rw [if_pos h1] at h; cases h
  rw [if_neg h1] at h
  cases h2 : firstErr (lineErr l) 0 l.length with
  | some p =>
    obtain ⟨i, e⟩ := p
    rw [h2] at h
    have := firstErr_some h2
    simp only at h
    exact absurd (this.2.2.1 ▸ h) this.2.2.2
  | none =>
    rw [h2] at h
    simp only at h
    cases h3 : firstErr (labErr l) 0 l.length with
    | some p =>
      obtain ⟨i, e⟩ := p
      rw [h3] at h
      have := firstErr_some h3
      simp only at h
      exact absurd (this.2.2.1 ▸ h) this.2.2.2
    | none => exact ⟨by omega, fun i hi => firstErr_none h2 i (by omega) (by omega), fun i hi => firstErr_none h3 i (by omega) (by omega)⟩
theorem Taken.op {l : List PL} (h : Taken l) {i : Nat} (hi : i < l.length) : 0 ≤ (lineAt l i).op ∧ (lineAt l i).op ≤ 48 := by
  have := h.line i hi
  unfold lineErr at this
  by_cases h1 : (lineAt l i).op < 0 ∨ 48 < (lineAt l i).op
  · rw [if_pos h1] at this; cases this
  · omega
theorem Taken.may {l : List PL} (h : Taken l) {i : Nat} (hi : i < l.length) : mayL (lineAt l i) = true := by
  have := h.line i hi
  unfold lineErr at this
  rw [if_neg (by have := h.op hi; omega)] at this
  cases h1 : mayL (lineAt l i) with
  | true => rfl
  | false => rw [h1] at this; cases this
/-- No label stands twice. -/
theorem Taken.once {l : List PL} (h : Taken l) {i : Nat} (hi : i < l.length) (h0 : (lineAt l i).op = 0) : standsAt l (lineAt l i).label i = none := by
  have := h.line i hi
  unfold lineErr at this
  rw [if_neg (by have := h.op hi; omega), h.may hi] at this
  cases h1 : standsAt l (lineAt l i).label i with
  | none => rfl
  | some t => rw [h1] at this; rw [if_pos rfl, if_pos ⟨h0, rfl⟩] at this; cases this
theorem Taken.goes {l : List PL} (h : Taken l) {i : Nat} (hi : i < l.length) (hg : goesB (lineAt l i) = true) : (standsAt l (lineAt l i).label l.length).isSome = true := by
  have := h.lab i hi
  unfold labErr standsB at this
  cases h1 : (standsAt l (lineAt l i).label l.length).isSome with
  | true => rfl
  | false => rw [hg, h1] at this; simp at this
theorem Taken.list {l : List PL} (h : Taken l) {i : Nat} (hi : i < l.length) {k : Int} (hk : k ∈ (lineAt l i).list) : (standsAt l k l.length).isSome = true := by
  have := h.lab i hi
  unfold labErr standsB at this
  cases h1 : (standsAt l k l.length).isSome with
  | true => rfl
  | false =>
    rw [if_pos (by rw [Bool.or_eq_true]; right; rw [List.any_eq_true]; exact ⟨k, hk, by rw [h1]; rfl⟩)] at this
    cases this
theorem Taken.stand {l : List PL} (h : Taken l) : Stand l := fun i hi hb => h.goes hi (by unfold goesB; rw [hb]; rfl)
/-- The words at a line's place are its own. -/
theorem word_at (l : List PL) (g : List Bool) : ∀ (n i j : Nat), i < n → j < sizeP (lineAt l i) (longAt g i) → (wordsN l g n)[placeP l g i + j]? = (madeP (lineAt l i) (longAt g i) (placeP l g i) (atP l g))[j]?
  | 0, _, _, h, _ => absurd h (by omega)
  | n + 1, i, j, h, hj => by
    show (wordsN l g n ++ madeP _ _ _ _)[_]? = _
    rcases Nat.lt_or_ge i n with h1 | h1
    · have hm : placeP l g i + sizeP (lineAt l i) (longAt g i) ≤ placeP l g n := by
        have := place_mono l g (i + 1) (n - (i + 1))
        rw [show i + 1 + (n - (i + 1)) = n by omega] at this
        exact this
      rw [List.getElem?_append_left (by rw [words_len]; omega)]
      exact word_at l g n i j h1 hj
    · have e : i = n := by omega
      subst e
      rw [List.getElem?_append_right (by rw [words_len]; omega), words_len, Nat.add_sub_cancel_left]
theorem reg_near {x : PL} (hb : isBr x = true) (hm : mayL x = true) {d : Int} (hd : nearB d = true) : mayP ⟨x.op, x.a, x.b, d⟩ = true := by
  have hop : (30 ≤ x.op ∧ x.op ≤ 39) ∨ x.op = 40 := by unfold isBr branchOp at hb; simpa using hb
  have hg : goesB x = true := by unfold goesB; rw [hb]; rfl
  unfold mayL at hm
  rw [if_neg (by omega), if_pos hg] at hm
  simp only [Bool.and_eq_true] at hm
  have h1 := hm.1.1.1.1
  unfold codeOf mayP at h1
  unfold mayP
  have hn : near d = true := hd
  simp only at h1 ⊢
  rcases hop with h | h
  · rw [if_neg (by omega), if_neg (by omega), if_neg (by omega), if_neg (by omega), if_neg (by omega), if_pos (by omega)] at h1 ⊢
    rw [hn]
    simp only [Bool.and_eq_true] at h1 ⊢
    exact ⟨h1.1, trivial⟩
  · rw [if_neg (by omega), if_neg (by omega), if_neg (by omega), if_neg (by omega), if_neg (by omega), if_neg (by omega), if_pos (by omega)] at h1 ⊢
    rw [hn]
    simp only [Bool.and_eq_true] at h1 ⊢
    exact ⟨h1.1, trivial⟩
/-- A short branch's word, read back. -/
theorem short_word {l : List PL} (h : Taken l) {i : Nat} (hi : i < l.length) (hb : isBr (lineAt l i) = true) (hs : longAt (longP l).1 i = false) :
    (wordsN l (longP l).1 l.length)[placeP l (longP l).1 i]? = some (wordP ⟨(lineAt l i).op, (lineAt l i).a, (lineAt l i).b, dispP l (longP l).1 i⟩, 1) ∧
    decP (wordP ⟨(lineAt l i).op, (lineAt l i).a, (lineAt l i).b, dispP l (longP l).1 i⟩) = (⟨(lineAt l i).op, (lineAt l i).a, (lineAt l i).b, dispP l (longP l).1 i⟩, 0) := by
  have hop : (30 ≤ (lineAt l i).op ∧ (lineAt l i).op ≤ 39) ∨ (lineAt l i).op = 40 := by unfold isBr branchOp at hb; simpa using hb
  have hm := reg_near hb (h.may hi) (long_reaches l i hi hb hs)
  refine ⟨?_, dec_enc hm⟩
  have h1 := word_at l (longP l).1 l.length i 0 hi (by rw [hs, br_size _ hb]; omega)
  rw [Nat.add_zero] at h1
  rw [h1, hs]
  unfold madeP
  rw [if_neg (by omega), if_neg (by simp), if_neg (by simp; omega), if_pos (by unfold branchOp; simp; omega)]
  show some (wordOf _ _ _ _, (1 : Int)) = _
  unfold wordOf
  have he : encP ⟨(lineAt l i).op, (lineAt l i).a, (lineAt l i).b, dispP l (longP l).1 i⟩ = (wordP ⟨(lineAt l i).op, (lineAt l i).a, (lineAt l i).b, dispP l (longP l).1 i⟩, 0) := by
    unfold encP; rw [if_pos (isOp_of (within hm)), if_pos hm]
  unfold dispP at he ⊢
  rw [he]
end Go.Proofs.YtbbfjlheaaalkaaDoor.Relax
