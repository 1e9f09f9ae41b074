/- The assembler, plainly: the words of each sort of line, read back. No condition. -/
import Derived.Test.YtbbfjlheaaalkaaDoorPf
namespace Go.Proofs.YtbbfjlheaaalkaaDoor.Relax
open Go.Proofs.YtbbfjlheaaalkaaDoor.Enc

theorem wordOf_may {op a b i : Int} (h : mayP ⟨op, a, b, i⟩ = true) : decP (wordOf op a b i) = (⟨op, a, b, i⟩, 0) ∧ 0 ≤ wordOf op a b i ∧ wordOf op a b i ≤ 4294967295 := by
  have he : encP ⟨op, a, b, i⟩ = (wordP ⟨op, a, b, i⟩, 0) := by unfold encP; rw [if_pos (isOp_of (within h)), if_pos h]
  unfold wordOf
  rw [he]
  exact ⟨dec_enc h, wordP_range (within h)⟩
theorem may41 : mayP ⟨41, 0, 0, 0⟩ = true := by decide
theorem may43 : mayP ⟨43, 0, 0, 0⟩ = true := by decide
/-- What a line's fields are, by its sort. -/
theorem fields_go {x : PL} (hm : mayL x = true) (hg : goesB x = true) : x.op ≠ 0 ∧ mayP ⟨x.op, x.a, x.b, 0⟩ = true ∧ x.imm = 0 ∧ x.n = 0 ∧ x.list = [] := by
  have hop : (30 ≤ x.op ∧ x.op ≤ 39) ∨ x.op = 40 ∨ x.op = 41 ∨ x.op = 43 := by
    unfold goesB isBr branchOp at hg; simp at hg; omega
  unfold mayL at hm
  rw [if_neg (by omega), if_pos hg] at hm
  simp only [Bool.and_eq_true, beq_iff_eq] at hm
  refine ⟨by omega, ?_, hm.1.1.1.2, hm.1.1.2, List.length_eq_zero_iff.1 hm.1.2⟩
  exact hm.1.1.1.1
theorem fields_lit {x : PL} (hm : mayL x = true) (ho : x.op = 2) : mayP ⟨2, x.a, 0, 0⟩ = true ∧ x.b = 0 ∧ x.imm = 0 := by
  have hg : goesB x = false := by unfold goesB isBr branchOp; rw [ho]; decide
  unfold mayL at hm
  rw [if_neg (by omega), if_neg (by rw [hg]; simp), if_neg (by omega), if_pos ho] at hm
  simp only [Bool.and_eq_true] at hm
  have h1 := hm.1.1
  unfold codeOf at h1
  rw [ho] at h1
  have h2 : (reg x.a && zero x.b && zero x.imm) = true := h1
  unfold zero at h2
  simp only [Bool.and_eq_true, decide_eq_true_eq] at h2
  refine ⟨?_, h2.1.2, h2.2⟩
  show (reg x.a && zero 0 && zero 0) = true
  rw [h2.1.1]; rfl
theorem fields_tab {x : PL} (hm : mayL x = true) (ho : x.op = 42) : mayP ⟨42, x.a, 0, 0⟩ = true ∧ x.b = 0 ∧ x.imm = 0 ∧ 1 ≤ x.list.length ∧ x.list.length ≤ 400 := by
  have hg : goesB x = false := by unfold goesB isBr branchOp; rw [ho]; decide
  unfold mayL at hm
  rw [if_neg (by omega), if_neg (by rw [hg]; simp), if_pos ho] at hm
  simp only [Bool.and_eq_true, decide_eq_true_eq] at hm
  have h1 := hm.1.1.1.1.2
  unfold codeOf at h1
  rw [ho] at h1
  have h2 : (reg x.a && zero x.b && zero x.imm) = true := h1
  unfold zero at h2
  simp only [Bool.and_eq_true, decide_eq_true_eq] at h2
  refine ⟨?_, h2.1.2, h2.2, hm.1.2, hm.2⟩
  show (reg x.a && zero 0 && zero 0) = true
  rw [h2.1.1]; rfl
theorem fields_plain {x : PL} (hm : mayL x = true) (h0 : x.op ≠ 0) (hg : goesB x = false) (h42 : x.op ≠ 42) (h2 : x.op ≠ 2) : mayP ⟨x.op, x.a, x.b, x.imm⟩ = true ∧ x.list = [] := by
  unfold mayL at hm
  rw [if_neg h0, if_neg (by rw [hg]; simp), if_neg h42, if_neg h2] at hm
  simp only [Bool.and_eq_true, beq_iff_eq] at hm
  exact ⟨hm.1.1.1, List.length_eq_zero_iff.1 hm.2⟩
/-- The other branch may be, with the displacement 2. -/
theorem may_other {op a b : Int} (ho : 30 ≤ op ∧ op ≤ 39) (h : mayP ⟨op, a, b, 0⟩ = true) : mayP ⟨otherP op, a, b, 2⟩ = true := by
  have hx : 30 ≤ otherP op ∧ otherP op ≤ 39 := by unfold otherP; (repeat' split) <;> omega
  have h1 : reg a = true ∧ reg b = true := by
    unfold mayP at h
    simp only at h
    rw [if_neg (by omega), if_neg (by omega), if_neg (by omega), if_neg (by omega), if_neg (by omega), if_pos (by omega)] at h
    simp only [Bool.and_eq_true] at h
    exact h.1
  unfold mayP
  simp only
  rw [if_neg (by omega), if_neg (by omega), if_neg (by omega), if_neg (by omega), if_neg (by omega), if_pos (by omega), h1.1, h1.2]
  rfl
/-- Places of labels are below how many words there are, and one. -/
theorem at_range {l : List PL} (g : List Bool) {lab : Int} (h : (standsAt l lab l.length).isSome = true) : 0 ≤ atP l g lab ∧ atP l g lab ≤ placeP l g l.length := by
  obtain ⟨t, ht⟩ := Option.isSome_iff_exists.1 h
  have key : ∀ n s, standsAt l lab n = some s → s < n := by
    intro n
    induction n with
    | zero => intro s h; cases h
    | succ n ih =>
      intro s h
      unfold standsAt at h
      split at h
      · injection h with h; omega
      · have := ih s h; omega
  have hlt := key _ _ ht
  unfold atP
  rw [ht]
  simp only
  have := place_mono l g t (l.length - t)
  rw [show t + (l.length - t) = l.length by omega] at this
  omega
/-- A line's place, and its words, are within all words. -/
theorem place_end (l : List PL) (g : List Bool) {i : Nat} (hi : i < l.length) : placeP l g i + sizeP (lineAt l i) (longAt g i) ≤ placeP l g l.length := by
  have := place_mono l g (i + 1) (l.length - (i + 1))
  rw [show i + 1 + (l.length - (i + 1)) = l.length by omega] at this
  exact this
end Go.Proofs.YtbbfjlheaaalkaaDoor.Relax
