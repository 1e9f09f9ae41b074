/- What the plain assembler's answer holds at each line's place, by the sort of line. No condition. -/
import Derived.Test.YtbbfjlheaaalkaaDoorPh
namespace Go.Proofs.YtbbfjlheaaalkaaDoor.Relax
open Go.Proofs.YtbbfjlheaaalkaaDoor.Enc

theorem stands_lt {l : List PL} {lab : Int} : ∀ {n s : Nat}, standsAt l lab n = some s → s < n ∧ (lineAt l s).op = 0 ∧ (lineAt l s).label = lab
  | 0, s, h => by cases h
  | n + 1, s, h => by
    rw [stands_succ] at h
    split at h
    · rename_i h2
      injection h with h
      subst h
      exact ⟨by omega, h2⟩
    · obtain ⟨h1, h2⟩ := stands_lt h
      exact ⟨by omega, h2⟩
/-- The words of a line, in the answer. -/
theorem asm_word {l : List PL} {a : Asm} {line : Int} (h : asmP l = (a, line, 0)) {i : Nat} (hi : i < l.length) {j : Nat} {y k : Int}
    (hm : (madeP (lineAt l i) (longAt (longP l).1 i) (placeP l (longP l).1 i) (atP l (longP l).1))[j]? = some (y, k)) :
    a.words[placeP l (longP l).1 i + j]? = some y ∧ a.kinds[placeP l (longP l).1 i + j]? = some k := by
  obtain ⟨_, _, _, rfl⟩ := asm_yes h
  have hj : j < sizeP (lineAt l i) (longAt (longP l).1 i) := by
    rw [← made_len _ _ (placeP l (longP l).1 i : Int) (atP l (longP l).1)]
    exact (List.getElem?_eq_some_iff.1 hm).1
  have h1 := word_at l (longP l).1 l.length i j hi hj
  rw [hm] at h1
  simp only [List.getElem?_map, h1]
  exact ⟨rfl, rfl⟩
/-- Where a label that stands is found, by the answer. -/
theorem asm_label {l : List PL} {a : Asm} {line : Int} (h : asmP l = (a, line, 0)) {lab : Int} (hs : (standsAt l lab l.length).isSome = true) :
    ∃ s : Nat, standsAt l lab l.length = some s ∧ standsAt l lab s = none ∧ a.places[s]? = some (atP l (longP l).1 lab) ∧ 0 ≤ atP l (longP l).1 lab ∧ atP l (longP l).1 lab ≤ 65536 := by
  obtain ⟨s, h1⟩ := Option.isSome_iff_exists.1 hs
  obtain ⟨h2, h3, h4⟩ := stands_lt h1
  obtain ⟨ht, hsz, _, _⟩ := asm_yes h
  have h5 := ht.once h2 h3
  rw [h4] at h5
  have h6 := at_range (longP l).1 hs
  have h7 := (asm_places h).2 s h2
  refine ⟨s, h1, h5, ?_, h6.1, by omega⟩
  rw [h7]
  unfold atP
  rw [h1]
theorem asm_end {l : List PL} {a : Asm} {line : Int} (h : asmP l = (a, line, 0)) {i : Nat} (hi : i < l.length) : placeP l (longP l).1 i + sizeP (lineAt l i) (longAt (longP l).1 i) ≤ 65536 := by
  have h1 := place_end l (longP l).1 hi
  obtain ⟨_, h2, _, _⟩ := asm_yes h
  omega
theorem asm_len {l : List PL} {a : Asm} {line : Int} (h : asmP l = (a, line, 0)) : a.words.length = placeP l (longP l).1 l.length ∧ a.kinds.length = placeP l (longP l).1 l.length ∧ a.places.length = l.length := by
  have h1 := (asm_places h).1
  obtain ⟨_, _, _, rfl⟩ := asm_yes h
  exact ⟨by simp [words_len], by simp [words_len], h1⟩
end Go.Proofs.YtbbfjlheaaalkaaDoor.Relax
