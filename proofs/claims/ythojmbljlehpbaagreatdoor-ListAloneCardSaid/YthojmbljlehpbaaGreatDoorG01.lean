/- The assembler, plainly: what is known of a list that is taken; which words stand at a line's place. No condition. -/
import Derived.Test.YthojmbljlehpbaaGreatDoorG00
namespace Go.Proofs.YthojmbljlehpbaaGreatDoor.Relax
open Go.Proofs.YthojmbljlehpbaaGreatDoor.Enc

theorem firstErr_none {f : Nat → Int} : ∀ {i k : Nat}, firstErr f i k = none → ∀ j, i ≤ j → j < i + k → f j = 0
  | i, 0, _, j, h1, h2 => absurd h2 (by omega)
  | i, k + 1, h, j, h1, h2 => by
    unfold firstErr at h
    by_cases h0 : f i = 0
    · rw [if_pos h0] at h
      rcases Nat.lt_or_ge i j with h3 | h3
      · exact firstErr_none h j (by omega) (by omega)
      · have e : j = i := by omega
        subst e; exact h0
    · rw [if_neg h0] at h; cases h
theorem firstErr_some {f : Nat → Int} : ∀ {i k j : Nat} {e : Int}, firstErr f i k = some (j, e) → i ≤ j ∧ j < i + k ∧ e = f j ∧ f j ≠ 0
  | i, 0, j, e, h => by cases h
  | i, k + 1, j, e, h => by
    unfold firstErr at h
    by_cases h0 : f i = 0
    · rw [if_pos h0] at h
      obtain ⟨a, b, c, d⟩ := firstErr_some h
      exact ⟨by omega, by omega, c, d⟩
    · rw [if_neg h0] at h
      simp only [Option.some.injEq, Prod.mk.injEq] at h
      obtain ⟨rfl, rfl⟩ := h
      exact ⟨Nat.le_refl _, by omega, rfl, h0⟩
/-- What is known of a list that is taken. -/
structure Taken (l : List PL) : Prop where
  len : l.length ≤ 60000
  line : ∀ i, i < l.length → lineErr l i = 0
  lab : ∀ i, i < l.length → labErr l i = 0
theorem taken_of {l : List PL} (h : (refusedP l).2 = 0) : Taken l := by
  unfold refusedP at h
  by_cases h1 : 60000 < l.length
  · rw [if_pos h1] at h; cases h
  rw [if_neg h1] at h
  cases h2 : firstErr (lineErr l) 0 l.length with
  | some p =>
    obtain ⟨i, e⟩ := p
    rw [h2] at h
    have := firstErr_some h2
    simp only at h
    exact absurd (this.2.2.1 ▸ h) this.2.2.2
  | none =>
    rw [h2] at h
    simp only at h
    cases h3 : firstErr (labErr l) 0 l.length with
    | some p =>
      obtain ⟨i, e⟩ := p
      rw [h3] at h
      have := firstErr_some h3
      simp only at h
      exact absurd (this.2.2.1 ▸ h) this.2.2.2
    | none => exact ⟨by omega, fun i hi => firstErr_none h2 i (by omega) (by omega), fun i hi => firstErr_none h3 i (by omega) (by omega)⟩
theorem Taken.op {l : List PL} (h : Taken l) {i : Nat} (hi : i < l.length) : 0 ≤ (lineAt l i).op ∧ (lineAt l i).op ≤ 48 := by
  have := h.line i hi
  unfold lineErr at this
  by_cases h1 : (lineAt l i).op < 0 ∨ 48 < (lineAt l i).op
  · rw [if_pos h1] at this; cases this
  · omega
theorem Taken.may {l : List PL} (h : Taken l) {i : Nat} (hi : i < l.length) : mayL (lineAt l i) = true := by
  have := h.line i hi
  unfold lineErr at this
  rw [if_neg (by have := h.op hi; omega)] at this
  cases h1 : mayL (lineAt l i) with
  | true => rfl
  | false => rw [h1] at this; cases this
/-- No label stands twice. -/
theorem Taken.once {l : List PL} (h : Taken l) {i : Nat} (hi : i < l.length) (h0 : (lineAt l i).op = 0) : standsAt l (lineAt l i).label i = none := by
  have := h.line i hi
  unfold lineErr at this
  rw [if_neg (by have := h.op hi; omega), h.may hi] at this
  cases h1 : standsAt l (lineAt l i).label i with
  | none => rfl
  | some t => rw [h1] at this; rw [if_pos rfl, if_pos ⟨h0, rfl⟩] at this; cases this
theorem Taken.goes {l : List PL} (h : Taken l) {i : Nat} (hi : i < l.length) (hg : goesB (lineAt l i) = true) : (standsAt l (lineAt l i).label l.length).isSome = true := by
  have := h.lab i hi
  unfold labErr standsB at this
  cases h1 : (standsAt l (lineAt l i).label l.length).isSome with
  | true => rfl
  | false => rw [hg, h1] at this; simp at this
theorem Taken.list {l : List PL} (h : Taken l) {i : Nat} (hi : i < l.length) {k : Int} (hk : k ∈ (lineAt l i).list) : (standsAt l k l.length).isSome = true := by
  have := h.lab i hi
  unfold labErr standsB at this
  cases h1 : (standsAt l k l.length).isSome with
  | true => rfl
  | false =>
    rw [if_pos (by rw [Bool.or_eq_true]; right; rw [List.any_eq_true]; exact ⟨k, hk, by rw [h1]; rfl⟩)] at this
    cases this
theorem Taken.stand {l : List PL} (h : Taken l) : Stand l := fun i hi hb => h.goes hi (by unfold goesB; rw [hb]; rfl)
/-- The words at a line's place are its own. -/
theorem word_at (l : List PL) (g : List Bool) : ∀ (n i j : Nat), i < n → j < sizeP (lineAt l i) (longAt g i) → (wordsN l g n)[placeP l g i + j]? = (madeP (lineAt l i) (longAt g i) (placeP l g i) (atP l g))[j]?
  | 0, _, _, h, _ => absurd h (by omega)
  | n + 1, i, j, h, hj => by
    show (wordsN l g n ++ madeP _ _ _ _)[_]? = _
    rcases Nat.lt_or_ge i n with h1 | h1
    · have hm : placeP l g i + sizeP (lineAt l i) (longAt g i) ≤ placeP l g n := by
        have := place_mono l g (i + 1) (n - (i + 1))
        rw [show i + 1 + (n - (i + 1)) = n by omega] at this
        exact this
      rw [List.getElem?_append_left (by rw [words_len]; omega)]
      exact word_at l g n i j h1 hj
    · have e : i = n := by omega
      subst e
      rw [List.getElem?_append_right (by rw [words_len]; omega), words_len, Nat.add_sub_cancel_left]
theorem reg_near {x : PL} (hb : isBr x = true) (hm : mayL x = true) {d : Int} (hd : nearB d = true) : mayP ⟨x.op, x.a, x.b, d⟩ = true := by
  have hop : (30 ≤ x.op ∧ x.op ≤ 39) ∨ x.op = 40 := by unfold isBr branchOp at hb; simpa using hb
  have hg : goesB x = true := by unfold goesB; rw [hb]; rfl
  unfold mayL at hm
  rw [if_neg (by omega), if_pos hg] at hm
  simp only [Bool.and_eq_true] at hm
  have h1 := hm.1.1.1.1
  unfold codeOf mayP at h1
  unfold mayP
  have hn : near d = true := hd
  simp only at h1 ⊢
  rcases hop with h | h
  · rw [if_neg (by omega), if_neg (by omega), if_neg (by omega), if_neg (by omega), if_neg (by omega), if_pos (by omega)] at h1 ⊢
    rw [hn]
    simp only [Bool.and_eq_true] at h1 ⊢
    exact ⟨h1.1, trivial⟩
  · rw [if_neg (by omega), if_neg (by omega), if_neg (by omega), if_neg (by omega), if_neg (by omega), if_neg (by omega), if_pos (by omega)] at h1 ⊢
    rw [hn]
    simp only [Bool.and_eq_true] at h1 ⊢
    exact ⟨h1.1, trivial⟩
/-- A short branch's word, read back. -/
theorem short_word {l : List PL} (h : Taken l) {i : Nat} (hi : i < l.length) (hb : isBr (lineAt l i) = true) (hs : longAt (longP l).1 i = false) :
    (wordsN l (longP l).1 l.length)[placeP l (longP l).1 i]? = some (wordP ⟨(lineAt l i).op, (lineAt l i).a, (lineAt l i).b, dispP l (longP l).1 i⟩, 1) ∧
    decP (wordP ⟨(lineAt l i).op, (lineAt l i).a, (lineAt l i).b, dispP l (longP l).1 i⟩) = (⟨(lineAt l i).op, (lineAt l i).a, (lineAt l i).b, dispP l (longP l).1 i⟩, 0) := by
  have hop : (30 ≤ (lineAt l i).op ∧ (lineAt l i).op ≤ 39) ∨ (lineAt l i).op = 40 := by unfold isBr branchOp at hb; simpa using hb
  have hm := reg_near hb (h.may hi) (long_reaches l i hi hb hs)
  refine ⟨?_, dec_enc hm⟩
  have h1 := word_at l (longP l).1 l.length i 0 hi (by rw [hs, br_size _ hb]; omega)
  rw [Nat.add_zero] at h1
  rw [h1, hs]
  unfold madeP
  rw [if_neg (by omega), if_neg (by simp), if_neg (by simp; omega), if_pos (by unfold branchOp; simp; omega)]
  show some (wordOf _ _ _ _, (1 : Int)) = _
  unfold wordOf
  have he : encP ⟨(lineAt l i).op, (lineAt l i).a, (lineAt l i).b, dispP l (longP l).1 i⟩ = (wordP ⟨(lineAt l i).op, (lineAt l i).a, (lineAt l i).b, dispP l (longP l).1 i⟩, 0) := by
    unfold encP; rw [if_pos (isOp_of (within hm)), if_pos hm]
  unfold dispP at he ⊢
  rw [he]
end Go.Proofs.YthojmbljlehpbaaGreatDoor.Relax
namespace Go.Proofs.YthojmbljlehpbaaGreatDoor.Relax
open Go.Proofs.YthojmbljlehpbaaGreatDoor.Enc

theorem wordOf_may {op a b i : Int} (h : mayP ⟨op, a, b, i⟩ = true) : decP (wordOf op a b i) = (⟨op, a, b, i⟩, 0) ∧ 0 ≤ wordOf op a b i ∧ wordOf op a b i ≤ 4294967295 := by
  have he : encP ⟨op, a, b, i⟩ = (wordP ⟨op, a, b, i⟩, 0) := by unfold encP; rw [if_pos (isOp_of (within h)), if_pos h]
  unfold wordOf
  rw [he]
  exact ⟨dec_enc h, wordP_range (within h)⟩
theorem may41 : mayP ⟨41, 0, 0, 0⟩ = true := by decide
theorem may43 : mayP ⟨43, 0, 0, 0⟩ = true := by decide
/-- What a line's fields are, by its sort. -/
theorem fields_go {x : PL} (hm : mayL x = true) (hg : goesB x = true) : x.op ≠ 0 ∧ mayP ⟨x.op, x.a, x.b, 0⟩ = true ∧ x.imm = 0 ∧ x.n = 0 ∧ x.list = [] := by
  have hop : (30 ≤ x.op ∧ x.op ≤ 39) ∨ x.op = 40 ∨ x.op = 41 ∨ x.op = 43 := by
    unfold goesB isBr branchOp at hg; simp at hg; omega
  unfold mayL at hm
  rw [if_neg (by omega), if_pos hg] at hm
  simp only [Bool.and_eq_true, beq_iff_eq] at hm
  refine ⟨by omega, ?_, hm.1.1.1.2, hm.1.1.2, List.length_eq_zero_iff.1 hm.1.2⟩
  exact hm.1.1.1.1
theorem fields_lit {x : PL} (hm : mayL x = true) (ho : x.op = 2) : mayP ⟨2, x.a, 0, 0⟩ = true ∧ x.b = 0 ∧ x.imm = 0 := by
  have hg : goesB x = false := by unfold goesB isBr branchOp; rw [ho]; decide
  unfold mayL at hm
  rw [if_neg (by omega), if_neg (by rw [hg]; simp), if_neg (by omega), if_pos ho] at hm
  simp only [Bool.and_eq_true] at hm
  have h1 := hm.1.1
  unfold codeOf at h1
  rw [ho] at h1
  have h2 : (reg x.a && zero x.b && zero x.imm) = true := h1
  unfold zero at h2
  simp only [Bool.and_eq_true, decide_eq_true_eq] at h2
  refine ⟨?_, h2.1.2, h2.2⟩
  show (reg x.a && zero 0 && zero 0) = true
  rw [h2.1.1]; rfl
theorem fields_tab {x : PL} (hm : mayL x = true) (ho : x.op = 42) : mayP ⟨42, x.a, 0, 0⟩ = true ∧ x.b = 0 ∧ x.imm = 0 ∧ 1 ≤ x.list.length ∧ x.list.length ≤ 400 := by
  have hg : goesB x = false := by unfold goesB isBr branchOp; rw [ho]; decide
  unfold mayL at hm
  rw [if_neg (by omega), if_neg (by rw [hg]; simp), if_pos ho] at hm
  simp only [Bool.and_eq_true, decide_eq_true_eq] at hm
  have h1 := hm.1.1.1.1.2
  unfold codeOf at h1
  rw [ho] at h1
  have h2 : (reg x.a && zero x.b && zero x.imm) = true := h1
  unfold zero at h2
  simp only [Bool.and_eq_true, decide_eq_true_eq] at h2
  refine ⟨?_, h2.1.2, h2.2, hm.1.2, hm.2⟩
  show (reg x.a && zero 0 && zero 0) = true
  rw [h2.1.1]; rfl
theorem fields_plain {x : PL} (hm : mayL x = true) (h0 : x.op ≠ 0) (hg : goesB x = false) (h42 : x.op ≠ 42) (h2 : x.op ≠ 2) : mayP ⟨x.op, x.a, x.b, x.imm⟩ = true ∧ x.list = [] := by
  unfold mayL at hm
  rw [if_neg h0, if_neg (by rw [hg]; simp), if_neg h42, if_neg h2] at hm
  simp only [Bool.and_eq_true, beq_iff_eq] at hm
  exact ⟨hm.1.1.1, List.length_eq_zero_iff.1 hm.2⟩
/-- The other branch may be, with the displacement 2. -/
theorem may_other {op a b : Int} (ho : 30 ≤ op ∧ op ≤ 39) (h : mayP ⟨op, a, b, 0⟩ = true) : mayP ⟨otherP op, a, b, 2⟩ = true := by
  have hx : 30 ≤ otherP op ∧ otherP op ≤ 39 := by unfold otherP; (repeat' split) <;> omega
  have h1 : reg a = true ∧ reg b = true := by
    unfold mayP at h
    simp only at h
    rw [if_neg (by omega), if_neg (by omega), if_neg (by omega), if_neg (by omega), if_neg (by omega), if_pos (by omega)] at h
    simp only [Bool.and_eq_true] at h
    exact h.1
  unfold mayP
  simp only
  rw [if_neg (by omega), if_neg (by omega), if_neg (by omega), if_neg (by omega), if_neg (by omega), if_pos (by omega), h1.1, h1.2]
  rfl
/-- Places of labels are below how many words there are, and one. -/
theorem at_range {l : List PL} (g : List Bool) {lab : Int} (h : (standsAt l lab l.length).isSome = true) : 0 ≤ atP l g lab ∧ atP l g lab ≤ placeP l g l.length := by
  obtain ⟨t, ht⟩ := Option.isSome_iff_exists.1 h
  have key : ∀ n s, standsAt l lab n = some s → s < n := by
    intro n
    induction n with
    | zero => intro s h; cases h
    | succ n ih =>
      intro s h
      unfold standsAt at h
      split at h
      · injection h with h; omega
      · have := ih s h; omega
  have hlt := key _ _ ht
  unfold atP
  rw [ht]
  simp only
  have := place_mono l g t (l.length - t)
  rw [show t + (l.length - t) = l.length by omega] at this
  omega
/-- A line's place, and its words, are within all words. -/
theorem place_end (l : List PL) (g : List Bool) {i : Nat} (hi : i < l.length) : placeP l g i + sizeP (lineAt l i) (longAt g i) ≤ placeP l g l.length := by
  have := place_mono l g (i + 1) (l.length - (i + 1))
  rw [show i + 1 + (l.length - (i + 1)) = l.length by omega] at this
  exact this
end Go.Proofs.YthojmbljlehpbaaGreatDoor.Relax
namespace Go.Proofs.YthojmbljlehpbaaGreatDoor.Relax
open Go.Proofs.YthojmbljlehpbaaGreatDoor.Enc

/-- The place of a label by the first so many lines; -1: none of them is the label. -/
def labAt (l : List PL) (g : List Bool) (lab : Int) (i : Nat) : Int := match standsAt l lab i with | none => -1 | some t => placeP l g t
theorem labAt_all (l : List PL) (g : List Bool) (lab : Int) : labAt l g lab l.length = atP l g lab := rfl
theorem labAt_zero (l : List PL) (g : List Bool) (lab : Int) : labAt l g lab 0 = -1 := rfl
theorem stands_succ (l : List PL) (lab : Int) (i : Nat) : standsAt l lab (i + 1) = if (lineAt l i).op = 0 ∧ (lineAt l i).label = lab then some i else standsAt l lab i := rfl
theorem labAt_label {l : List PL} {g : List Bool} {i : Nat} (h : (lineAt l i).op = 0) (k : Int) : labAt l g k (i + 1) = if k = (lineAt l i).label then (placeP l g i : Int) else labAt l g k i := by
  unfold labAt
  rw [stands_succ]
  by_cases hk : k = (lineAt l i).label
  · rw [if_pos ⟨h, hk.symm⟩, if_pos hk]
  · rw [if_neg (fun h2 => hk h2.2.symm), if_neg hk]
theorem labAt_other {l : List PL} {g : List Bool} {i : Nat} (h : (lineAt l i).op ≠ 0) (k : Int) : labAt l g k (i + 1) = labAt l g k i := by
  unfold labAt
  rw [stands_succ, if_neg (fun h2 => h h2.1)]
theorem size_bound {l : List PL} (h : Taken l) {i : Nat} (hi : i < l.length) (b : Bool) : sizeP (lineAt l i) b ≤ 402 := by
  have hm := h.may hi
  unfold sizeP
  (repeat' split) <;> try omega
  rename_i h42
  have := fields_tab hm h42
  omega
theorem list_bound {l : List PL} (h : Taken l) {i : Nat} (hi : i < l.length) : (lineAt l i).list.length ≤ 400 := by
  have hm := h.may hi
  unfold mayL at hm
  (repeat' split at hm) <;> simp at hm <;> first | omega | (have := hm; simp_all; done) | (simp_all; omega)
theorem place_bound {l : List PL} (h : Taken l) (g : List Bool) : ∀ i, i ≤ l.length → placeP l g i ≤ 402 * i
  | 0, _ => Nat.le_refl _
  | i + 1, hi => by
    have h1 := place_bound h g i (by omega)
    have h2 := size_bound h (show i < l.length by omega) (longAt g i)
    show placeP l g i + sizeP _ _ ≤ _
    omega
theorem label_range {l : List PL} (h : Taken l) {i : Nat} (hi : i < l.length) (h0 : (lineAt l i).op = 0) : 0 ≤ (lineAt l i).label ∧ (lineAt l i).label ≤ 100000 := by
  have hm := h.may hi
  unfold mayL at hm
  rw [if_pos h0] at hm
  simp [labelB] at hm
  omega
theorem branch_label {l : List PL} (h : Taken l) {i : Nat} (hi : i < l.length) (hb : isBr (lineAt l i) = true) : 0 ≤ (lineAt l i).label ∧ (lineAt l i).label ≤ 100000 := by
  have hm := h.may hi
  have h0 : (lineAt l i).op ≠ 0 := by unfold isBr branchOp at hb; simp at hb; omega
  have hg : goesB (lineAt l i) = true := by unfold goesB; rw [hb]; rfl
  unfold mayL at hm
  rw [if_neg h0, if_pos hg] at hm
  simp [labelB] at hm
  omega
theorem taken_len {l : List PL} (h : (refusedP l).2 = 0) : l.length ≤ 60000 := by
  unfold refusedP at h
  split at h
  · simp at h
  · omega
theorem asm_no {l : List PL} {a : Asm} {line er : Int} (h : asmP l = (a, line, er)) (he : er ≠ 0) : a = noAsm := by
  unfold asmP at h
  by_cases h1 : (refusedP l).2 = 0
  · rw [if_pos h1] at h
    by_cases h2 : 65536 < placeP l (longP l).1 l.length
    · rw [if_pos h2] at h
      simp only [Prod.mk.injEq] at h
      exact h.1.symm
    · rw [if_neg h2] at h
      simp only [Prod.mk.injEq] at h
      exact absurd h.2.2.symm he
  · rw [if_neg h1] at h
    simp only [Prod.mk.injEq] at h
    exact h.1.symm
theorem asm_yes {l : List PL} {a : Asm} {line : Int} (h : asmP l = (a, line, 0)) : Taken l ∧ placeP l (longP l).1 l.length ≤ 65536 ∧ line = 0 ∧
    a = ⟨(wordsN l (longP l).1 l.length).map (·.1), (wordsN l (longP l).1 l.length).map (·.2), (List.range l.length).map fun i => (placeP l (longP l).1 i : Int), (longP l).2⟩ := by
  unfold asmP at h
  by_cases h1 : (refusedP l).2 = 0
  · rw [if_pos h1] at h
    by_cases h2 : 65536 < placeP l (longP l).1 l.length
    · rw [if_pos h2] at h
      simp only [Prod.mk.injEq] at h
      exact absurd h.2.2 (by decide)
    · rw [if_neg h2] at h
      simp only [Prod.mk.injEq] at h
      exact ⟨taken_of h1, by omega, h.2.1.symm, h.1.symm⟩
  · rw [if_neg h1] at h
    simp only [Prod.mk.injEq] at h
    rw [h.2] at h1
    exact absurd rfl h1
theorem asm_ref {l : List PL} {a : Asm} {line : Int} (h : asmP l = (a, line, 0)) : (refusedP l).2 = 0 := by
  unfold asmP at h
  by_cases h1 : (refusedP l).2 = 0
  · exact h1
  · rw [if_neg h1] at h
    simp only [Prod.mk.injEq] at h
    rw [h.2]
theorem asm_places {l : List PL} {a : Asm} {line : Int} (h : asmP l = (a, line, 0)) : a.places.length = l.length ∧ ∀ i, i < l.length → a.places[i]? = some (placeP l (longP l).1 i : Int) := by
  obtain ⟨_, _, _, rfl⟩ := asm_yes h
  refine ⟨by simp, fun i hi => ?_⟩
  simp [hi]
/-- A short branch, read back at its place. -/
theorem short_code {l : List PL} {a : Asm} {line : Int} (h : asmP l = (a, line, 0)) {i : Nat} (hi : i < l.length) (hb : isBr (lineAt l i) = true) (hs : longAt (longP l).1 i = false) :
    ∃ y imm, a.words[placeP l (longP l).1 i]? = some y ∧ a.kinds[placeP l (longP l).1 i]? = some 1 ∧ (0 ≤ y ∧ y ≤ 4294967295) ∧ decP y = (⟨(lineAt l i).op, (lineAt l i).a, (lineAt l i).b, imm⟩, 0) := by
  obtain ⟨ht, _, _, rfl⟩ := asm_yes h
  obtain ⟨h1, h2⟩ := short_word ht hi hb hs
  refine ⟨_, _, ?_, ?_, ?_, h2⟩
  · simp only [List.getElem?_map, h1]; rfl
  · simp only [List.getElem?_map, h1]; rfl
  · have hm := reg_near hb (ht.may hi) (long_reaches l i hi hb hs)
    exact wordP_range (within hm)
/-- The first word of a long branch, read back at its place: it is of another Op. -/
theorem long_code {l : List PL} {a : Asm} {line : Int} (h : asmP l = (a, line, 0)) {i : Nat} (hi : i < l.length) (hb : isBr (lineAt l i) = true) (hs : longAt (longP l).1 i = true) :
    ∃ y c, a.words[placeP l (longP l).1 i]? = some y ∧ a.kinds[placeP l (longP l).1 i]? = some 1 ∧ (0 ≤ y ∧ y ≤ 4294967295) ∧ decP y = (c, 0) ∧ c.op ≠ (lineAt l i).op := by
  obtain ⟨ht, _, _, rfl⟩ := asm_yes h
  have hop : (30 ≤ (lineAt l i).op ∧ (lineAt l i).op ≤ 39) ∨ (lineAt l i).op = 40 := by unfold isBr branchOp at hb; simpa using hb
  have hg : goesB (lineAt l i) = true := by unfold goesB; rw [hb]; rfl
  have hf := fields_go (ht.may hi) hg
  have hsz : 0 < sizeP (lineAt l i) (longAt (longP l).1 i) := by rw [hs]; unfold sizeP branchOp; (repeat' split) <;> simp_all
  have h1 := word_at l (longP l).1 l.length i 0 hi hsz
  rw [Nat.add_zero, hs] at h1
  by_cases h40 : (lineAt l i).op = 40
  · have hm : (madeP (lineAt l i) true (placeP l (longP l).1 i) (atP l (longP l).1))[0]? = some (wordOf 41 0 0 0, 1) := by
      unfold madeP
      rw [if_neg hf.1, if_neg (by unfold branchOp; simp; omega), if_pos (Or.inl ⟨h40, rfl⟩)]; rfl
    rw [hm] at h1
    obtain ⟨k1, k2⟩ := wordOf_may may41
    exact ⟨_, _, by simp only [List.getElem?_map, h1]; rfl, by simp only [List.getElem?_map, h1]; rfl, k2, k1, by simp only; omega⟩
  · have ho : 30 ≤ (lineAt l i).op ∧ (lineAt l i).op ≤ 39 := by omega
    have hm : (madeP (lineAt l i) true (placeP l (longP l).1 i) (atP l (longP l).1))[0]? = some (wordOf (otherP (lineAt l i).op) (lineAt l i).a (lineAt l i).b 2, 1) := by
      unfold madeP
      rw [if_neg hf.1, if_pos (by unfold branchOp; simp; omega)]; rfl
    rw [hm] at h1
    obtain ⟨k1, k2⟩ := wordOf_may (may_other ho hf.2.1)
    refine ⟨_, _, by simp only [List.getElem?_map, h1]; rfl, by simp only [List.getElem?_map, h1]; rfl, k2, k1, ?_⟩
    simp only
    unfold otherP
    (repeat' split) <;> omega
end Go.Proofs.YthojmbljlehpbaaGreatDoor.Relax
namespace Go.Proofs.YthojmbljlehpbaaGreatDoor.Relax
open Go.Proofs.YthojmbljlehpbaaGreatDoor.Enc

theorem stands_lt {l : List PL} {lab : Int} : ∀ {n s : Nat}, standsAt l lab n = some s → s < n ∧ (lineAt l s).op = 0 ∧ (lineAt l s).label = lab
  | 0, s, h => by cases h
  | n + 1, s, h => by
    rw [stands_succ] at h
    split at h
    · rename_i h2
      injection h with h
      subst h
      exact ⟨by omega, h2⟩
    · obtain ⟨h1, h2⟩ := stands_lt h
      exact ⟨by omega, h2⟩
/-- The words of a line, in the answer. -/
theorem asm_word {l : List PL} {a : Asm} {line : Int} (h : asmP l = (a, line, 0)) {i : Nat} (hi : i < l.length) {j : Nat} {y k : Int}
    (hm : (madeP (lineAt l i) (longAt (longP l).1 i) (placeP l (longP l).1 i) (atP l (longP l).1))[j]? = some (y, k)) :
    a.words[placeP l (longP l).1 i + j]? = some y ∧ a.kinds[placeP l (longP l).1 i + j]? = some k := by
  obtain ⟨_, _, _, rfl⟩ := asm_yes h
  have hj : j < sizeP (lineAt l i) (longAt (longP l).1 i) := by
    rw [← made_len _ _ (placeP l (longP l).1 i : Int) (atP l (longP l).1)]
    exact (List.getElem?_eq_some_iff.1 hm).1
  have h1 := word_at l (longP l).1 l.length i j hi hj
  rw [hm] at h1
  simp only [List.getElem?_map, h1]
  exact ⟨rfl, rfl⟩
/-- Where a label that stands is found, by the answer. -/
theorem asm_label {l : List PL} {a : Asm} {line : Int} (h : asmP l = (a, line, 0)) {lab : Int} (hs : (standsAt l lab l.length).isSome = true) :
    ∃ s : Nat, standsAt l lab l.length = some s ∧ standsAt l lab s = none ∧ a.places[s]? = some (atP l (longP l).1 lab) ∧ 0 ≤ atP l (longP l).1 lab ∧ atP l (longP l).1 lab ≤ 65536 := by
  obtain ⟨s, h1⟩ := Option.isSome_iff_exists.1 hs
  obtain ⟨h2, h3, h4⟩ := stands_lt h1
  obtain ⟨ht, hsz, _, _⟩ := asm_yes h
  have h5 := ht.once h2 h3
  rw [h4] at h5
  have h6 := at_range (longP l).1 hs
  have h7 := (asm_places h).2 s h2
  refine ⟨s, h1, h5, ?_, h6.1, by omega⟩
  rw [h7]
  unfold atP
  rw [h1]
theorem asm_end {l : List PL} {a : Asm} {line : Int} (h : asmP l = (a, line, 0)) {i : Nat} (hi : i < l.length) : placeP l (longP l).1 i + sizeP (lineAt l i) (longAt (longP l).1 i) ≤ 65536 := by
  have h1 := place_end l (longP l).1 hi
  obtain ⟨_, h2, _, _⟩ := asm_yes h
  omega
theorem asm_len {l : List PL} {a : Asm} {line : Int} (h : asmP l = (a, line, 0)) : a.words.length = placeP l (longP l).1 l.length ∧ a.kinds.length = placeP l (longP l).1 l.length ∧ a.places.length = l.length := by
  have h1 := (asm_places h).1
  obtain ⟨_, _, _, rfl⟩ := asm_yes h
  exact ⟨by simp [words_len], by simp [words_len], h1⟩
end Go.Proofs.YthojmbljlehpbaaGreatDoor.Relax
namespace Go.Proofs.YthojmbljlehpbaaGreatDoor.Relax
open Go.Proofs.YthojmbljlehpbaaGreatDoor.Enc

theorem firstErr_zero {f : Nat → Int} : ∀ {i k : Nat}, (∀ j, i ≤ j → j < i + k → f j = 0) → firstErr f i k = none
  | i, 0, _ => rfl
  | i, k + 1, h => by
    unfold firstErr
    rw [if_pos (h i (Nat.le_refl _) (by omega))]
    exact firstErr_zero fun j h1 h2 => h j (by omega) (by omega)
theorem refused_taken {l : List PL} (h : Taken l) : refusedP l = (0, 0) := by
  unfold refusedP
  rw [if_neg (by have := h.len; omega), firstErr_zero (fun j _ h2 => h.line j (by omega))]
  simp only
  rw [firstErr_zero (fun j _ h2 => h.lab j (by omega))]
theorem asm_taken {l : List PL} (h : Taken l) (hs : placeP l (longP l).1 l.length ≤ 65536) :
    asmP l = (⟨(wordsN l (longP l).1 l.length).map (·.1), (wordsN l (longP l).1 l.length).map (·.2), (List.range l.length).map fun i => (placeP l (longP l).1 i : Int), (longP l).2⟩, 0, 0) := by
  unfold asmP
  rw [refused_taken h, if_pos rfl, if_neg (by omega)]
theorem stands_none {l : List PL} {lab : Int} : ∀ {n : Nat}, (∀ k, k < n → ¬((lineAt l k).op = 0 ∧ (lineAt l k).label = lab)) → standsAt l lab n = none
  | 0, _ => rfl
  | n + 1, h => by rw [stands_succ, if_neg (h n (by omega))]; exact stands_none fun k hk => h k (by omega)
theorem stands_no {l : List PL} {lab : Int} : ∀ {n : Nat}, standsAt l lab n = none → ∀ k, k < n → ¬((lineAt l k).op = 0 ∧ (lineAt l k).label = lab)
  | 0, _, k, hk => absurd hk (Nat.not_lt_zero _)
  | n + 1, h, k, hk => by
    rw [stands_succ] at h
    split at h
    · cases h
    · rename_i h2
      rcases Nat.lt_or_ge k n with h3 | h3
      · exact stands_no h k h3
      · have e : k = n := by omega
        rw [e]; exact h2
theorem made_at {x : PL} {b : Bool} {q : Int} {f g : Int → Int} (h1 : goesB x = true → f x.label = g x.label) (h2 : ∀ k ∈ x.list, f k = g k) : madeP x b q f = madeP x b q g := by
  have e : x.list.map (fun k => (f k, (3 : Int))) = x.list.map (fun k => (g k, (3 : Int))) := List.map_congr_left fun k hk => by rw [h2 k hk]
  cases hg : goesB x with
  | true =>
    unfold madeP
    rw [h1 hg, e]
  | false =>
    have h3 : ¬(x.op = 40) ∧ ¬(x.op = 41) ∧ ¬(x.op = 43) ∧ branchOp x.op = false := by
      unfold goesB isBr at hg
      simp only [Bool.or_eq_false_iff, beq_eq_false_iff_ne] at hg
      exact ⟨hg.1.2, hg.2.1, hg.2.2, hg.1.1⟩
    unfold madeP
    rw [e, h3.2.2.2]
    simp only [h3.1, h3.2.1, h3.2.2.1, Bool.false_and, false_and, or_false, Bool.false_eq_true, ↓reduceIte]
variable {l m : List PL} {p : Nat}
theorem stands_was (hc : Cut l m p) {lab : Int} (hp : ¬((lineAt l p).op = 0 ∧ (lineAt l p).label = lab)) {k : Nat} (hk : k < m.length) : (standsAt l lab (was p k)).isSome = (standsAt m lab k).isSome := by
  have h := stands_cut hc lab hp k (by omega)
  have e : standsAt l lab (was p k) = standsAt l lab (if k ≤ p then k else k + 1) := by
    unfold was
    by_cases h1 : k < p
    · rw [if_pos h1, if_pos (by omega)]
    · rw [if_neg h1]
      by_cases h2 : k ≤ p
      · have e2 : k = p := by omega
        rw [if_pos h2, e2, stands_succ, if_neg hp]
      · rw [if_neg h2]
  rw [e, ← h, Option.isSome_map]
theorem line_cut (hc : Cut l m p) {k : Nat} (hk : k < m.length) (hp : ¬((lineAt l p).op = 0 ∧ (lineAt l p).label = (lineAt m k).label)) : lineErr m k = lineErr l (was p k) := by
  unfold lineErr
  rw [hc.line k] at hp
  rw [hc.line k, stands_was hc hp hk]
theorem lab_cut (hc : Cut l m p) {k : Nat} (hp : ∀ lab, (goesB (lineAt m k) = true ∧ (lineAt m k).label = lab) ∨ lab ∈ (lineAt m k).list → ¬((lineAt l p).op = 0 ∧ (lineAt l p).label = lab)) : labErr m k = labErr l (was p k) := by
  unfold labErr standsB
  rw [hc.line k] at hp
  rw [hc.line k]
  generalize lineAt l (was p k) = x at hp
  have e1 : (goesB x && !(standsAt m x.label m.length).isSome) = (goesB x && !(standsAt l x.label l.length).isSome) := by
    cases hg : goesB x with
    | false => rfl
    | true => rw [stands_up hc (hp _ (.inl ⟨hg, rfl⟩))]
  have e2 : (x.list.any fun k => !(standsAt m k m.length).isSome) = (x.list.any fun k => !(standsAt l k l.length).isSome) := by
    rw [Bool.eq_iff_iff, List.any_eq_true, List.any_eq_true]
    constructor
    · rintro ⟨y, h1, h2⟩; exact ⟨y, h1, by rw [stands_up hc (hp _ (.inr h1))]; exact h2⟩
    · rintro ⟨y, h1, h2⟩; exact ⟨y, h1, by rw [stands_up hc (hp _ (.inr h1))] at h2; exact h2⟩
  rw [e1, e2]
/-- Without a line that is no label. -/
theorem taken_cut (hc : Cut l m p) (h : Taken l) (h0 : (lineAt l p).op ≠ 0) : Taken m := by
  refine ⟨by have := h.len; have := hc.len; omega, fun i hi => ?_, fun i hi => ?_⟩
  · rw [line_cut hc hi (fun h2 => h0 h2.1)]; exact h.line _ (was_lt hc hi)
  · rw [lab_cut hc (fun _ _ h2 => h0 h2.1)]; exact h.lab _ (was_lt hc hi)
theorem place_le {g h : List Bool} (hgh : Le g h) (i : Nat) : placeP l g i ≤ placeP l h i := by
  have := between_le (l := l) hgh 0 i
  simp only [Nat.zero_add, placeP] at this
  omega
/-- A line of one word less: taken, fewer words, and nothing long that was short. -/
theorem asm_cut (hc : Cut l m p) {a : Asm} {line : Int} (h : asmP l = (a, line, 0)) (hz : ∀ b, sizeP (lineAt l p) b = 1) (hnb : isBr (lineAt l p) = false) (h0 : (lineAt l p).op ≠ 0) :
    ∃ b, asmP m = (b, 0, 0) ∧ b.words.length < a.words.length ∧ ∀ k, longAt (longP m).1 k = true → longAt (longP l).1 (was p k) = true := by
  obtain ⟨ht, hsz, _, _⟩ := asm_yes h
  have hm := taken_cut hc ht h0
  have hsh : ∀ k, longAt (longP m).1 k = true → longAt (longP l).1 (was p k) = true := fun k hk => shrinks hc hz hnb h0 ht.stand hk
  have hle : Le (longP m).1 (seen m p (longP l).1) := by
    intro k hk
    rw [longAt_seen, hsh k hk, Bool.and_true]
    have hs := (long_facts m).2.2.2.len
    rcases Nat.lt_or_ge k m.length with h1 | h1
    · exact decide_eq_true h1
    · unfold longAt at hk
      rw [List.getD_eq_getElem?_getD, List.getElem?_eq_none (by omega)] at hk
      cases hk
  have h1 := place_le (l := m) hle m.length
  have h2 := place_cut hc (longP l).1 hz m.length (Nat.le_refl _)
  have h3 : placeP l (longP l).1 l.length = placeP m (seen m p (longP l).1) m.length + 1 := by
    have k1 := hc.at_
    have k2 := hc.len
    by_cases h4 : m.length ≤ p
    · have k4 : p = m.length := by omega
      rw [if_pos h4, if_pos h4] at h2
      rw [← k2]
      show placeP l _ m.length + sizeP (lineAt l m.length) _ = _
      rw [← h2, ← k4, hz]
    · rw [if_neg h4, if_neg h4, k2] at h2
      omega
  refine ⟨_, asm_taken hm (by omega), ?_, hsh⟩
  rw [(asm_len h).1, List.length_map, words_len]
  omega
/-- A label more that stands nowhere yet. -/
theorem asm_idle {lab : Int} (hc : Cut l m p) {b : Asm} {line : Int} (h : asmP m = (b, line, 0)) (h0 : lineAt l p = ⟨0, 0, 0, 0, 0, lab, []⟩) (hlab : labelB lab = true) (hno : standsAt m lab m.length = none) (hlen : l.length ≤ 60000) :
    ∃ a, asmP l = (a, 0, 0) ∧ a.words = b.words ∧ a.kinds = b.kinds ∧ a.rounds = b.rounds := by
  obtain ⟨hm, hsz, _, hb⟩ := asm_yes h
  have hp : ∀ {k : Int}, (standsAt m k m.length).isSome = true → ¬((lineAt l p).op = 0 ∧ (lineAt l p).label = k) := by
    rintro k hk ⟨_, h2⟩
    rw [h0] at h2
    simp only at h2
    rw [← h2, hno] at hk
    cases hk
  have hun : ∀ i, i < m.length → isBr (lineAt m i) = true → (lineAt m i).label ≠ (lineAt l p).label := fun i hi hb h2 =>
    hp (hm.goes hi (by unfold goesB; rw [hb]; rfl)) ⟨by rw [h0], h2.symm⟩
  have hi : Idle l m p := ⟨hc, by rw [h0], hun⟩
  have hst := hm.stand
  -- every line but the new one is that of before
  have hwas : ∀ i, i < l.length → i ≠ p → ∃ k, k < m.length ∧ was p k = i := by
    intro i h1 h2
    have := hc.len
    rcases Nat.lt_or_ge i p with h3 | h3
    · exact ⟨i, by have := hc.at_; omega, by unfold was; rw [if_pos h3]⟩
    · exact ⟨i - 1, by omega, by unfold was; rw [if_neg (by omega)]; omega⟩
  have hT : Taken l := by
    refine ⟨hlen, fun i h1 => ?_, fun i h1 => ?_⟩
    · by_cases h2 : i = p
      · subst h2
        unfold lineErr
        rw [h0]
        have hs0 : standsAt l lab i = none := stands_none fun k hk h4 => by
          have hwk : was i k = k := by unfold was; rw [if_pos hk]
          have h5 := hc.line k
          rw [hwk] at h5
          rw [← h5] at h4
          exact stands_no hno k (by have := hc.len; omega) h4
        simp only
        rw [if_neg (by omega)]
        have hmay : mayL ⟨0, 0, 0, 0, 0, lab, []⟩ = true := by unfold mayL; rw [if_pos rfl, hlab]; rfl
        rw [hmay, if_pos rfl, if_neg (by rw [hs0]; simp)]
      · obtain ⟨k, hk, rfl⟩ := hwas i h1 h2
        by_cases h3 : (lineAt m k).op = 0
        · rw [← line_cut hc hk]
          · exact hm.line k hk
          · rintro ⟨_, h4⟩
            rw [h0] at h4
            simp only at h4
            exact stands_no hno k hk ⟨h3, h4.symm⟩
        · have h6 := hm.line k hk
          unfold lineErr at h6 ⊢
          rw [hc.line k] at h6 h3
          generalize (standsAt l (lineAt l (was p k)).label (was p k)).isSome = q
          generalize (standsAt m (lineAt l (was p k)).label k).isSome = q2 at h6
          have e : ∀ q : Bool, (if (lineAt l (was p k)).op = 0 ∧ q = true then (172 : Int) else 0) = 0 := fun q => if_neg (fun h7 => h3 h7.1)
          rw [e] at h6 ⊢
          exact h6
    · by_cases h2 : i = p
      · subst h2
        unfold labErr
        rw [h0]
        rfl
      · obtain ⟨k, hk, rfl⟩ := hwas i h1 h2
        rw [← lab_cut hc]
        · exact hm.lab k hk
        · rintro lab2 (⟨h3, h4⟩ | h3)
          · exact hp (h4 ▸ hm.goes hk h3)
          · exact hp (hm.list hk h3)
  have hat : ∀ {k : Int}, (standsAt m k m.length).isSome = true → atP m (longP m).1 k = atP l (longP l).1 k := fun {k} hk => idle_at hi hst (fun h2 => hp hk ⟨by rw [h0], h2⟩) hk
  have hone : ∀ k, k < m.length → madeP (lineAt m k) (longAt (longP m).1 k) (placeP m (longP m).1 k) (atP m (longP m).1) = madeP (lineAt l (was p k)) (longAt (longP l).1 (was p k)) (placeP l (longP l).1 (was p k)) (atP l (longP l).1) := by
    intro k hk
    rw [idle_place hi hst hk, ← hc.line k, made_at (fun hg => hat (hm.goes hk hg)) (fun y hy => hat (hm.list hk hy))]
    have e : longAt (longP m).1 k = longAt (longP l).1 (was p k) := by
      rw [idle_long hi hst, longAt_seen, decide_eq_true hk, Bool.true_and]
    rw [e]
  have hw : ∀ k, k ≤ m.length → wordsN m (longP m).1 k = wordsN l (longP l).1 (if k ≤ p then k else k + 1) := by
    have hpn : ∀ b q f, madeP (lineAt l p) b q f = [] := by intro b q f; unfold madeP; rw [h0, if_pos rfl]
    intro k
    induction k with
    | zero => intro _; simp [wordsN]
    | succ k ih =>
      intro hk
      have ih := ih (by omega)
      show wordsN m _ k ++ madeP _ _ _ _ = _
      rw [hone k (by omega), ih]
      unfold was
      by_cases h1 : k + 1 ≤ p
      · have hkp : k < p := by omega
        have hkp2 : k ≤ p := by omega
        rw [if_pos h1, if_pos hkp2, if_pos hkp]; rfl
      · have hkp : ¬ k < p := by omega
        rw [if_neg h1, if_neg hkp]
        by_cases h2 : k ≤ p
        · have e : k = p := by omega
          rw [if_pos h2]
          show _ = wordsN l _ (k + 1) ++ _
          show _ = (wordsN l _ k ++ madeP (lineAt l k) _ _ _) ++ _
          rw [e, hpn, List.append_nil]
        · rw [if_neg h2]; rfl
  have hall : wordsN m (longP m).1 m.length = wordsN l (longP l).1 l.length := by
    have h2 := hw m.length (Nat.le_refl _)
    have k1 := hc.at_
    have k2 := hc.len
    rw [h2]
    by_cases h3 : m.length ≤ p
    · have k4 : p = m.length := by omega
      rw [if_pos h3, ← k2]
      show _ = wordsN l _ m.length ++ madeP (lineAt l m.length) _ _ _
      rw [← k4]
      have hpn : ∀ b q f, madeP (lineAt l p) b q f = [] := by intro b q f; unfold madeP; rw [h0, if_pos rfl]
      rw [hpn, List.append_nil]
    · rw [if_neg h3, k2]
  have hpl : placeP l (longP l).1 l.length = placeP m (longP m).1 m.length := by
    rw [← words_len, ← words_len, hall]
  refine ⟨_, asm_taken hT (by omega), ?_, ?_, ?_⟩
  · rw [hb]; simp only; rw [hall]
  · rw [hb]; simp only; rw [hall]
  · rw [hb]; simp only; rw [idle_long hi hst]
end Go.Proofs.YthojmbljlehpbaaGreatDoor.Relax
