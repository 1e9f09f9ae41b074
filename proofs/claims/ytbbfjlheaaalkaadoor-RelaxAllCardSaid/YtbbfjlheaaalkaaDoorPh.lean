/- What the document's Places tells of each label behind so many lines, plainly; bounds. No condition. -/
import Derived.Test.YtbbfjlheaaalkaaDoorPg
namespace Go.Proofs.YtbbfjlheaaalkaaDoor.Relax
open Go.Proofs.YtbbfjlheaaalkaaDoor.Enc

/-- The place of a label by the first so many lines; -1: none of them is the label. -/
def labAt (l : List PL) (g : List Bool) (lab : Int) (i : Nat) : Int := match standsAt l lab i with | none => -1 | some t => placeP l g t
theorem labAt_all (l : List PL) (g : List Bool) (lab : Int) : labAt l g lab l.length = atP l g lab := rfl
theorem labAt_zero (l : List PL) (g : List Bool) (lab : Int) : labAt l g lab 0 = -1 := rfl
theorem stands_succ (l : List PL) (lab : Int) (i : Nat) : standsAt l lab (i + 1) = if (lineAt l i).op = 0 ∧ (lineAt l i).label = lab then some i else standsAt l lab i := rfl
theorem labAt_label {l : List PL} {g : List Bool} {i : Nat} (h : (lineAt l i).op = 0) (k : Int) : labAt l g k (i + 1) = if k = (lineAt l i).label then (placeP l g i : Int) else labAt l g k i := by
  unfold labAt
  rw [stands_succ]
  by_cases hk : k = (lineAt l i).label
  · rw [if_pos ⟨h, hk.symm⟩, if_pos hk]
  · rw [if_neg (fun h2 => hk h2.2.symm), if_neg hk]
theorem labAt_other {l : List PL} {g : List Bool} {i : Nat} (h : (lineAt l i).op ≠ 0) (k : Int) : labAt l g k (i + 1) = labAt l g k i := by
  unfold labAt
  rw [stands_succ, if_neg (fun h2 => h h2.1)]
theorem size_bound {l : List PL} (h : Taken l) {i : Nat} (hi : i < l.length) (b : Bool) : sizeP (lineAt l i) b ≤ 402 := by
  have hm := h.may hi
  unfold sizeP
  (repeat' split) <;> try omega
  rename_i h42
  have := fields_tab hm h42
  omega
theorem list_bound {l : List PL} (h : Taken l) {i : Nat} (hi : i < l.length) : (lineAt l i).list.length ≤ 400 := by
  have hm := h.may hi
  unfold mayL at hm
  (repeat' split at hm) <;> simp at hm <;> first | omega | (have := hm; simp_all; done) | (simp_all; omega)
theorem place_bound {l : List PL} (h : Taken l) (g : List Bool) : ∀ i, i ≤ l.length → placeP l g i ≤ 402 * i
  | 0, _ => Nat.le_refl _
  | i + 1, hi => by
    have h1 := place_bound h g i (by omega)
    have h2 := size_bound h (show i < l.length by omega) (longAt g i)
    show placeP l g i + sizeP _ _ ≤ _
    omega
theorem label_range {l : List PL} (h : Taken l) {i : Nat} (hi : i < l.length) (h0 : (lineAt l i).op = 0) : 0 ≤ (lineAt l i).label ∧ (lineAt l i).label ≤ 100000 := by
  have hm := h.may hi
  unfold mayL at hm
  rw [if_pos h0] at hm
  simp [labelB] at hm
  omega
theorem branch_label {l : List PL} (h : Taken l) {i : Nat} (hi : i < l.length) (hb : isBr (lineAt l i) = true) : 0 ≤ (lineAt l i).label ∧ (lineAt l i).label ≤ 100000 := by
  have hm := h.may hi
  have h0 : (lineAt l i).op ≠ 0 := by unfold isBr branchOp at hb; simp at hb; omega
  have hg : goesB (lineAt l i) = true := by unfold goesB; rw [hb]; rfl
  unfold mayL at hm
  rw [if_neg h0, if_pos hg] at hm
  simp [labelB] at hm
  omega
theorem taken_len {l : List PL} (h : (refusedP l).2 = 0) : l.length ≤ 60000 := by
  unfold refusedP at h
  split at h
  · simp at h
  · omega
theorem asm_no {l : List PL} {a : Asm} {line er : Int} (h : asmP l = (a, line, er)) (he : er ≠ 0) : a = noAsm := by
  unfold asmP at h
  by_cases h1 : (refusedP l).2 = 0
  · rw [if_pos h1] at h
    by_cases h2 : 65536 < placeP l (longP l).1 l.length
    · rw [if_pos h2] at h
      simp only [Prod.mk.injEq] at h
      exact h.1.symm
    · rw [if_neg h2] at h
      simp only [Prod.mk.injEq] at h
      exact absurd h.2.2.symm he
  · rw [if_neg h1] at h
    simp only [Prod.mk.injEq] at h
    exact h.1.symm
theorem asm_yes {l : List PL} {a : Asm} {line : Int} (h : asmP l = (a, line, 0)) : Taken l ∧ placeP l (longP l).1 l.length ≤ 65536 ∧ line = 0 ∧
    a = ⟨(wordsN l (longP l).1 l.length).map (·.1), (wordsN l (longP l).1 l.length).map (·.2), (List.range l.length).map fun i => (placeP l (longP l).1 i : Int), (longP l).2⟩ := by
  unfold asmP at h
  by_cases h1 : (refusedP l).2 = 0
  · rw [if_pos h1] at h
    by_cases h2 : 65536 < placeP l (longP l).1 l.length
    · rw [if_pos h2] at h
      simp only [Prod.mk.injEq] at h
      exact absurd h.2.2 (by decide)
    · rw [if_neg h2] at h
      simp only [Prod.mk.injEq] at h
      exact ⟨taken_of h1, by omega, h.2.1.symm, h.1.symm⟩
  · rw [if_neg h1] at h
    simp only [Prod.mk.injEq] at h
    rw [h.2] at h1
    exact absurd rfl h1
theorem asm_ref {l : List PL} {a : Asm} {line : Int} (h : asmP l = (a, line, 0)) : (refusedP l).2 = 0 := by
  unfold asmP at h
  by_cases h1 : (refusedP l).2 = 0
  · exact h1
  · rw [if_neg h1] at h
    simp only [Prod.mk.injEq] at h
    rw [h.2]
theorem asm_places {l : List PL} {a : Asm} {line : Int} (h : asmP l = (a, line, 0)) : a.places.length = l.length ∧ ∀ i, i < l.length → a.places[i]? = some (placeP l (longP l).1 i : Int) := by
  obtain ⟨_, _, _, rfl⟩ := asm_yes h
  refine ⟨by simp, fun i hi => ?_⟩
  simp [hi]
/-- A short branch, read back at its place. -/
theorem short_code {l : List PL} {a : Asm} {line : Int} (h : asmP l = (a, line, 0)) {i : Nat} (hi : i < l.length) (hb : isBr (lineAt l i) = true) (hs : longAt (longP l).1 i = false) :
    ∃ y imm, a.words[placeP l (longP l).1 i]? = some y ∧ a.kinds[placeP l (longP l).1 i]? = some 1 ∧ (0 ≤ y ∧ y ≤ 4294967295) ∧ decP y = (⟨(lineAt l i).op, (lineAt l i).a, (lineAt l i).b, imm⟩, 0) := by
  obtain ⟨ht, _, _, rfl⟩ := asm_yes h
  obtain ⟨h1, h2⟩ := short_word ht hi hb hs
  refine ⟨_, _, ?_, ?_, ?_, h2⟩
  · simp only [List.getElem?_map, h1]; rfl
  · simp only [List.getElem?_map, h1]; rfl
  · have hm := reg_near hb (ht.may hi) (long_reaches l i hi hb hs)
    exact wordP_range (within hm)
/-- The first word of a long branch, read back at its place: it is of another Op. -/
theorem long_code {l : List PL} {a : Asm} {line : Int} (h : asmP l = (a, line, 0)) {i : Nat} (hi : i < l.length) (hb : isBr (lineAt l i) = true) (hs : longAt (longP l).1 i = true) :
    ∃ y c, a.words[placeP l (longP l).1 i]? = some y ∧ a.kinds[placeP l (longP l).1 i]? = some 1 ∧ (0 ≤ y ∧ y ≤ 4294967295) ∧ decP y = (c, 0) ∧ c.op ≠ (lineAt l i).op := by
  obtain ⟨ht, _, _, rfl⟩ := asm_yes h
  have hop : (30 ≤ (lineAt l i).op ∧ (lineAt l i).op ≤ 39) ∨ (lineAt l i).op = 40 := by unfold isBr branchOp at hb; simpa using hb
  have hg : goesB (lineAt l i) = true := by unfold goesB; rw [hb]; rfl
  have hf := fields_go (ht.may hi) hg
  have hsz : 0 < sizeP (lineAt l i) (longAt (longP l).1 i) := by rw [hs]; unfold sizeP branchOp; (repeat' split) <;> simp_all
  have h1 := word_at l (longP l).1 l.length i 0 hi hsz
  rw [Nat.add_zero, hs] at h1
  by_cases h40 : (lineAt l i).op = 40
  · have hm : (madeP (lineAt l i) true (placeP l (longP l).1 i) (atP l (longP l).1))[0]? = some (wordOf 41 0 0 0, 1) := by
      unfold madeP
      rw [if_neg hf.1, if_neg (by unfold branchOp; simp; omega), if_pos (Or.inl ⟨h40, rfl⟩)]; rfl
    rw [hm] at h1
    obtain ⟨k1, k2⟩ := wordOf_may may41
    exact ⟨_, _, by simp only [List.getElem?_map, h1]; rfl, by simp only [List.getElem?_map, h1]; rfl, k2, k1, by simp only; omega⟩
  · have ho : 30 ≤ (lineAt l i).op ∧ (lineAt l i).op ≤ 39 := by omega
    have hm : (madeP (lineAt l i) true (placeP l (longP l).1 i) (atP l (longP l).1))[0]? = some (wordOf (otherP (lineAt l i).op) (lineAt l i).a (lineAt l i).b 2, 1) := by
      unfold madeP
      rw [if_neg hf.1, if_pos (by unfold branchOp; simp; omega)]; rfl
    rw [hm] at h1
    obtain ⟨k1, k2⟩ := wordOf_may (may_other ho hf.2.1)
    refine ⟨_, _, by simp only [List.getElem?_map, h1]; rfl, by simp only [List.getElem?_map, h1]; rfl, k2, k1, ?_⟩
    simp only
    unfold otherP
    (repeat' split) <;> omega
end Go.Proofs.YtbbfjlheaaalkaaDoor.Relax
