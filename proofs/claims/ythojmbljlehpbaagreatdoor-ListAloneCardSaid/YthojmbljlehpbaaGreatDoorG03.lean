/- The program's own way to find which branches are long, plainly: parts, places by a set of long ones, displacements, what one long part more turns. No condition. -/
import Derived.Test.YthojmbljlehpbaaGreatDoorG01
namespace Go.Proofs.YthojmbljlehpbaaGreatDoor.Relax
open Go.Proofs.YthojmbljlehpbaaGreatDoor.Enc

structure PP where
  line : Int
  short : Int
  more : Int
  to : Int
deriving DecidableEq
def partAt (ps : List PP) (k : Nat) : PP := ps.getD k ⟨0, 0, 0, 0⟩
/-- A list of parts that may be. -/
structure WF (ps : List PP) : Prop where
  short : ∀ k, k < ps.length → 1 ≤ (partAt ps k).short ∧ (partAt ps k).short ≤ 402
  more : ∀ k, k < ps.length → 0 ≤ (partAt ps k).more ∧ (partAt ps k).more ≤ 2
  to : ∀ k, k < ps.length → (partAt ps k).more ≠ 0 → 0 ≤ (partAt ps k).to ∧ (partAt ps k).to ≤ ps.length
  size : ps.length ≤ 60000
/-- How many words a part makes, where these are long. -/
def wdS (ps : List PP) (S : List Nat) (k : Nat) : Int := (partAt ps k).short + (if k ∈ S then (partAt ps k).more else 0)
/-- How many words stand ahead of a part. -/
def stS (ps : List PP) (S : List Nat) : Nat → Int
  | 0 => 0
  | k + 1 => stS ps S k + wdS ps S k
def dispS (ps : List PP) (S : List Nat) (i : Nat) : Int := stS ps S (partAt ps i).to.toNat - stS ps S (i + 1)
/-- To which side a branch is led by another part that grows. -/
def pushP (ps : List PP) (i l : Nat) : Int :=
  if (partAt ps i).more = 0 then 0 else if i < l ∧ (l : Int) < (partAt ps i).to then 1 else if (partAt ps i).to ≤ l ∧ l ≤ i then -1 else 0
/-- A branch that goes over few parts. -/
def inW (ps : List PP) (i : Nat) : Prop := ((i : Int) < (partAt ps i).to ∧ (partAt ps i).to - 1 - i ≤ 127) ∨ ((partAt ps i).to ≤ i ∧ (i : Int) - (partAt ps i).to + 1 ≤ 128)

theorem stS_app (ps : List PP) {S : List Nat} {l : Nat} (hl : l ∉ S) : ∀ j, stS ps (S ++ [l]) j = stS ps S j + (if l < j then (partAt ps l).more else 0)
  | 0 => by simp [stS]
  | j + 1 => by
    have ih := stS_app ps hl j
    show stS ps (S ++ [l]) j + wdS ps (S ++ [l]) j = stS ps S j + wdS ps S j + _
    rw [ih]
    unfold wdS
    by_cases h1 : j = l
    · subst h1
      simp [hl]; omega
    · have h2 : (j ∈ S ++ [l]) ↔ j ∈ S := by simp [h1]
      by_cases h3 : l < j
      · rw [if_pos h3, if_pos (by omega : l < j + 1)]
        by_cases h4 : j ∈ S
        · rw [if_pos (h2.2 h4), if_pos h4]; omega
        · rw [if_neg (fun h => h4 (h2.1 h)), if_neg h4]; omega
      · rw [if_neg h3, if_neg (by omega : ¬ l < j + 1)]
        by_cases h4 : j ∈ S
        · rw [if_pos (h2.2 h4), if_pos h4]; omega
        · rw [if_neg (fun h => h4 (h2.1 h)), if_neg h4]; omega
theorem wdS_pos {ps : List PP} (hw : WF ps) (S : List Nat) {k : Nat} (hk : k < ps.length) : 1 ≤ wdS ps S k ∧ wdS ps S k ≤ 404 := by
  have h1 := hw.short k hk
  have h2 := hw.more k hk
  unfold wdS
  split <;> omega
/-- Over so many parts there are at least as many words. -/
theorem stS_ge {ps : List PP} (hw : WF ps) (S : List Nat) (i : Nat) : ∀ d, i + d ≤ ps.length → stS ps S i + d ≤ stS ps S (i + d) ∧ stS ps S (i + d) ≤ stS ps S i + 404 * d
  | 0, _ => by simp
  | d + 1, h => by
    have ih := stS_ge hw S i d (by omega)
    have h1 := wdS_pos hw S (k := i + d) (by omega)
    rw [show i + (d + 1) = (i + d) + 1 by omega]
    show stS ps S i + _ ≤ stS ps S (i + d) + wdS ps S (i + d) ∧ stS ps S (i + d) + wdS ps S (i + d) ≤ _
    omega
theorem stS_bd {ps : List PP} (hw : WF ps) (S : List Nat) {k : Nat} (hk : k ≤ ps.length) : (k : Int) ≤ stS ps S k ∧ stS ps S k ≤ 404 * k := by
  have := stS_ge hw S 0 k (by omega)
  have h0 : stS ps S 0 = 0 := rfl
  rw [Nat.zero_add, h0] at this
  omega
theorem disp_fwd {ps : List PP} (hw : WF ps) (S : List Nat) {i : Nat} (hi : i < ps.length) (hm : (partAt ps i).more ≠ 0) (h : (i : Int) < (partAt ps i).to) :
    (partAt ps i).to - 1 - i ≤ dispS ps S i ∧ dispS ps S i ≤ 24240000 := by
  have ht := hw.to i hi hm
  have hz := hw.size
  unfold dispS
  obtain ⟨t, ht2⟩ : ∃ t : Nat, (partAt ps i).to = t := ⟨(partAt ps i).to.toNat, by omega⟩
  rw [ht2] at ht h ⊢
  rw [Int.toNat_natCast]
  have h1 := stS_ge hw S (i + 1) (t - (i + 1)) (by omega)
  have h2 := stS_bd hw S (k := i + 1) (by omega)
  rw [show i + 1 + (t - (i + 1)) = t by omega] at h1
  omega
theorem disp_bwd {ps : List PP} (hw : WF ps) (S : List Nat) {i : Nat} (hi : i < ps.length) (hm : (partAt ps i).more ≠ 0) (h : (partAt ps i).to ≤ i) :
    dispS ps S i ≤ -(i - (partAt ps i).to + 1) ∧ -24240000 ≤ dispS ps S i := by
  have ht := hw.to i hi hm
  have hz := hw.size
  unfold dispS
  obtain ⟨t, ht2⟩ : ∃ t : Nat, (partAt ps i).to = t := ⟨(partAt ps i).to.toNat, by omega⟩
  rw [ht2] at ht h ⊢
  rw [Int.toNat_natCast]
  have h1 := stS_ge hw S t (i + 1 - t) (by omega)
  have h2 := stS_bd hw S (k := t) (by omega)
  rw [show t + (i + 1 - t) = i + 1 by omega] at h1
  omega
theorem disp_app {ps : List PP} (hw : WF ps) {S : List Nat} {l i : Nat} (hl : l ∉ S) (hi : i < ps.length) (hm : (partAt ps i).more ≠ 0) : dispS ps (S ++ [l]) i = dispS ps S i + pushP ps i l * (partAt ps l).more := by
  have ht := hw.to i hi hm
  unfold dispS
  rw [stS_app ps hl, stS_app ps hl]
  unfold pushP
  rw [if_neg hm]
  obtain ⟨t, ht2⟩ : ∃ t : Nat, (partAt ps i).to = t := ⟨(partAt ps i).to.toNat, by omega⟩
  rw [ht2] at ht ⊢
  rw [Int.toNat_natCast]
  by_cases h1 : i < l ∧ (l : Int) < t
  · rw [if_pos h1, if_pos (by omega), if_neg (by omega)]; omega
  · rw [if_neg h1]
    by_cases h2 : (t : Int) ≤ l ∧ l ≤ i
    · rw [if_pos h2, if_neg (by omega), if_pos (by omega)]; omega
    · rw [if_neg h2]
      by_cases h3 : l < t
      · rw [if_pos h3, if_pos (by omega)]; omega
      · rw [if_neg h3, if_neg (by omega)]; omega
theorem not_inW {ps : List PP} (hw : WF ps) (S : List Nat) {i : Nat} (hi : i < ps.length) (hm : (partAt ps i).more ≠ 0) (h : ¬ inW ps i) : nearB (dispS ps S i) = false := by
  unfold inW at h
  unfold nearB
  by_cases h1 : (i : Int) < (partAt ps i).to
  · have := disp_fwd hw S hi hm h1
    simp; omega
  · have := disp_bwd hw S hi hm (by omega)
    simp; omega
/-- What the reaches are, when these have been made long; and, of one more, so many parts were gone through. -/
structure RI (ps : List PP) (S : List Nat) (r : Nat → Int) : Prop where
  nb : ∀ i, i < ps.length → (partAt ps i).more = 0 → r i = 0
  w : ∀ i, i < ps.length → (partAt ps i).more ≠ 0 → inW ps i → r i = dispS ps S i
  f : ∀ i, i < ps.length → (partAt ps i).more ≠ 0 → ¬ inW ps i → ((i : Int) < (partAt ps i).to → 127 < r i) ∧ ((partAt ps i).to ≤ i → r i < -128)
  bd : ∀ i, i < ps.length → -24240000 - 2 * (S.length : Int) ≤ r i ∧ r i ≤ 24240000 + 2 * (S.length : Int)
structure RM (ps : List PP) (S : List Nat) (l j : Nat) (r : Nat → Int) : Prop where
  nb : ∀ i, i < ps.length → (partAt ps i).more = 0 → r i = 0
  w : ∀ i, i < ps.length → (partAt ps i).more ≠ 0 → inW ps i → r i = if i < j then dispS ps (S ++ [l]) i else dispS ps S i
  f : ∀ i, i < ps.length → (partAt ps i).more ≠ 0 → ¬ inW ps i → ((i : Int) < (partAt ps i).to → 127 < r i) ∧ ((partAt ps i).to ≤ i → r i < -128)
  bd : ∀ i, i < ps.length → -24240000 - 2 * (S.length : Int) - (if i < j then 2 else 0) ≤ r i ∧ r i ≤ 24240000 + 2 * (S.length : Int) + (if i < j then 2 else 0)
theorem push_bd (ps : List PP) (i l : Nat) : -1 ≤ pushP ps i l ∧ pushP ps i l ≤ 1 := by unfold pushP; repeat' split <;> omega
theorem push_out {ps : List PP} {i l : Nat} (hW : inW ps i) (h : i + 127 < l ∨ l + 128 ≤ i) : pushP ps i l = 0 := by
  unfold inW at hW
  unfold pushP
  split
  · rfl
  · rw [if_neg (by omega), if_neg (by omega)]
theorem RI.start {ps : List PP} {S : List Nat} {l : Nat} {r : Nat → Int} (hw : WF ps) (hl : l ∉ S) (h : RI ps S r) {j : Nat} (hj : j ≤ l - 127) : RM ps S l j r := by
  refine ⟨h.nb, fun i hi hm hW => ?_, h.f, fun i hi => ?_⟩
  · rw [h.w i hi hm hW]
    split
    · rw [disp_app hw hl hi hm, push_out hW (by omega)]; omega
    · rfl
  · have := h.bd i hi
    split <;> omega
theorem RM.done {ps : List PP} {S : List Nat} {l : Nat} {r : Nat → Int} (hw : WF ps) (hl : l ∉ S) {j : Nat} (h : RM ps S l j r) (hj : ps.length ≤ j ∨ l + 128 ≤ j) : RI ps (S ++ [l]) r := by
  refine ⟨h.nb, fun i hi hm hW => ?_, h.f, fun i hi => ?_⟩
  · rw [h.w i hi hm hW]
    split
    · rfl
    · rw [disp_app hw hl hi hm, push_out hW (by omega)]; omega
  · have := h.bd i hi
    rw [List.length_append]
    simp only [List.length_cons, List.length_nil]
    split at this <;> omega
/-- The reaches when one is turned. -/
def turnR (r : Nat → Int) (i : Nat) (v : Int) : Nat → Int := fun k => if k = i then v else r k
theorem turnR_same (r : Nat → Int) (i : Nat) (v : Int) : turnR r i v i = v := by simp [turnR]
theorem turnR_other (r : Nat → Int) {i k : Nat} (v : Int) (h : k ≠ i) : turnR r i v k = r k := by simp [turnR, h]
theorem prod_bd {a b : Int} (ha : -1 ≤ a ∧ a ≤ 1) (hb : 0 ≤ b ∧ b ≤ 2) : -2 ≤ a * b ∧ a * b ≤ 2 := by
  have : a = -1 ∨ a = 0 ∨ a = 1 := by omega
  rcases this with rfl | rfl | rfl <;> omega
theorem RM.step {ps : List PP} {S : List Nat} {l : Nat} {r : Nat → Int} (hw : WF ps) (hl : l ∉ S) (hln : l < ps.length) {j : Nat} (h : RM ps S l j r) (hj : j < ps.length) :
    RM ps S l (j + 1) (turnR r j (r j + pushP ps j l * (partAt ps l).more)) := by
  have hb2 := prod_bd (push_bd ps j l) (hw.more l hln)
  have hb3 := hw.more l hln
  refine ⟨fun i hi hm => ?_, fun i hi hm hW => ?_, fun i hi hm hW => ?_, fun i hi => ?_⟩
  · by_cases e : i = j
    · subst e
      rw [turnR_same, h.nb i hi hm]
      unfold pushP
      rw [if_pos hm]; omega
    · rw [turnR_other _ _ e]; exact h.nb i hi hm
  · by_cases e : i = j
    · subst e
      rw [turnR_same, h.w i hi hm hW, if_neg (by omega), if_pos (by omega), disp_app hw hl hi hm]
    · rw [turnR_other _ _ e, h.w i hi hm hW]
      by_cases h1 : i < j
      · rw [if_pos h1, if_pos (by omega)]
      · rw [if_neg h1, if_neg (by omega)]
  · by_cases e : i = j
    · subst e
      rw [turnR_same]
      have hf := h.f i hi hm hW
      refine ⟨fun h1 => ?_, fun h1 => ?_⟩
      · have := hf.1 h1
        have hp : 0 ≤ pushP ps i l := by
          unfold pushP
          rw [if_neg hm]
          split
          · omega
          · rw [if_neg (by omega)]; omega
        have : 0 ≤ pushP ps i l * (partAt ps l).more := Int.mul_nonneg hp hb3.1
        omega
      · have := hf.2 h1
        have hp : pushP ps i l ≤ 0 := by
          unfold pushP
          rw [if_neg hm, if_neg (by omega)]
          split <;> omega
        have : pushP ps i l * (partAt ps l).more ≤ 0 := Int.mul_nonpos_of_nonpos_of_nonneg hp hb3.1
        omega
    · rw [turnR_other _ _ e]; exact h.f i hi hm hW
  · by_cases e : i = j
    · subst e
      rw [turnR_same]
      have := h.bd i hi
      rw [if_neg (by omega)] at this
      rw [if_pos (by omega)]
      omega
    · rw [turnR_other _ _ e]
      have := h.bd i hi
      by_cases h1 : i < j
      · rw [if_pos h1] at this; rw [if_pos (by omega)]; exact this
      · rw [if_neg h1] at this; rw [if_neg (by omega)]; exact this
/-- What is far stays so. -/
theorem RM.far {ps : List PP} {S : List Nat} {l : Nat} {r : Nat → Int} (hw : WF ps) (hl : l ∉ S) (hln : l < ps.length) {j : Nat} (h : RM ps S l j r) (hj : j < ps.length) (hf : nearB (r j) = false) :
    nearB (r j + pushP ps j l * (partAt ps l).more) = false := by
  have h2 := h.step hw hl hln hj
  have hb3 := hw.more l hln
  by_cases hm : (partAt ps j).more = 0
  · rw [h.nb j hj hm] at hf; cases hf
  by_cases hW : inW ps j
  · have e1 := h.w j hj hm hW
    rw [if_neg (by omega)] at e1
    unfold nearB at hf ⊢
    simp only [decide_eq_false_iff_not] at hf ⊢
    by_cases h1 : (j : Int) < (partAt ps j).to
    · have h3 := disp_fwd hw S hj hm h1
      have hp : 0 ≤ pushP ps j l := by
        unfold pushP
        rw [if_neg hm]
        split
        · omega
        · rw [if_neg (by omega)]; omega
      have : 0 ≤ pushP ps j l * (partAt ps l).more := Int.mul_nonneg hp hb3.1
      omega
    · have h3 := disp_bwd hw S hj hm (by omega)
      have hp : pushP ps j l ≤ 0 := by
        unfold pushP
        rw [if_neg hm, if_neg (by omega)]
        split <;> omega
      have : pushP ps j l * (partAt ps l).more ≤ 0 := Int.mul_nonpos_of_nonpos_of_nonneg hp hb3.1
      omega
  · have := h2.f j hj hm hW
    rw [turnR_same] at this
    unfold nearB
    simp only [decide_eq_false_iff_not]
    by_cases h1 : (j : Int) < (partAt ps j).to
    · have := this.1 h1; omega
    · have := this.2 (by omega); omega
end Go.Proofs.YthojmbljlehpbaaGreatDoor.Relax
namespace Go.Proofs.YthojmbljlehpbaaGreatDoor.Relax
open Go.Proofs.YthojmbljlehpbaaGreatDoor.Enc

/-- How many of the first so many lines make words. -/
def partN (l : List PL) : Nat → Nat
  | 0 => 0
  | i + 1 => partN l i + (if (lineAt l i).op = 0 then 0 else 1)
/-- How many parts stand ahead of a label; 0 where it stands nowhere. -/
def toP (l : List PL) (lab : Int) : Int := match standsAt l lab l.length with | none => 0 | some t => partN l t
def partP (l : List PL) (i : Nat) : PP :=
  if (lineAt l i).op = 2 ∨ (lineAt l i).op = 41 ∨ (lineAt l i).op = 43 then ⟨i, 2, 0, 0⟩
  else if (lineAt l i).op = 42 then ⟨i, 2 + (lineAt l i).list.length, 0, 0⟩
  else if (lineAt l i).op = 40 then ⟨i, 1, 1, toP l (lineAt l i).label⟩
  else if branchOp (lineAt l i).op then ⟨i, 1, 2, toP l (lineAt l i).label⟩
  else ⟨i, 1, 0, 0⟩
def partsN (l : List PL) : Nat → List PP
  | 0 => []
  | i + 1 => partsN l i ++ (if (lineAt l i).op = 0 then [] else [partP l i])
def partsP (l : List PL) : List PP := partsN l l.length
theorem parts_len (l : List PL) : ∀ i, (partsN l i).length = partN l i
  | 0 => rfl
  | i + 1 => by
    show (partsN l i ++ _).length = partN l i + _
    rw [List.length_append, parts_len l i]
    split <;> rfl
theorem partN_same {l : List PL} {i : Nat} (ho : (lineAt l i).op = 0) : partN l (i + 1) = partN l i := by
  show partN l i + (if (lineAt l i).op = 0 then 0 else 1) = _
  rw [if_pos ho]; rfl
theorem partN_one {l : List PL} {i : Nat} (ho : (lineAt l i).op ≠ 0) : partN l (i + 1) = partN l i + 1 := by
  show partN l i + (if (lineAt l i).op = 0 then 0 else 1) = _
  rw [if_neg ho]
theorem partN_mono (l : List PL) (i : Nat) : ∀ d, partN l i ≤ partN l (i + d)
  | 0 => Nat.le_refl _
  | d + 1 => Nat.le_trans (partN_mono l i d) (by rw [show i + (d + 1) = (i + d) + 1 by omega]; show _ ≤ partN l (i + d) + _; omega)
theorem partN_le (l : List PL) : ∀ i, partN l i ≤ i
  | 0 => Nat.le_refl _
  | i + 1 => by have := partN_le l i; unfold partN; split <;> omega
theorem partN_up {l : List PL} {i j : Nat} (h : i < j) (ho : (lineAt l i).op ≠ 0) : partN l i < partN l j := by
  obtain ⟨d, rfl⟩ := Nat.exists_eq_add_of_lt h
  have := partN_mono l (i + 1) d
  rw [show i + 1 + d = i + d + 1 by omega] at this
  have h2 := partN_one ho
  omega
theorem parts_at (l : List PL) {i : Nat} (ho : (lineAt l i).op ≠ 0) : ∀ n, i < n → (partsN l n)[partN l i]? = some (partP l i)
  | 0, h => absurd h (by omega)
  | n + 1, h => by
    show (partsN l n ++ _)[partN l i]? = _
    rcases Nat.lt_or_ge i n with h1 | h1
    · have h2 := partN_up h1 ho
      rw [List.getElem?_append_left (by rw [parts_len]; exact h2)]
      exact parts_at l ho n h1
    · obtain rfl : i = n := by omega
      rw [List.getElem?_append_right (by rw [parts_len]; exact Nat.le_refl _), parts_len, if_neg ho]
      simp
theorem part_of (l : List PL) {i : Nat} (hi : i < l.length) (ho : (lineAt l i).op ≠ 0) : partAt (partsP l) (partN l i) = partP l i ∧ partN l i < (partsP l).length := by
  refine ⟨?_, ?_⟩
  · unfold partAt partsP
    rw [List.getD_eq_getElem?_getD, parts_at l ho _ hi]; rfl
  · unfold partsP
    rw [parts_len]
    exact partN_up hi ho
/-- Each part is a line's. -/
theorem part_line (l : List PL) : ∀ n k, k < partN l n → ∃ i, i < n ∧ (lineAt l i).op ≠ 0 ∧ partN l i = k
  | 0, k, h => absurd h (by unfold partN; omega)
  | n + 1, k, h => by
    by_cases ho : (lineAt l n).op = 0
    · have := partN_same ho
      obtain ⟨i, h1, h2, h3⟩ := part_line l n k (by omega)
      exact ⟨i, by omega, h2, h3⟩
    · have := partN_one ho
      rcases Nat.lt_or_ge k (partN l n) with h1 | h1
      · obtain ⟨i, h1, h2, h3⟩ := part_line l n k h1
        exact ⟨i, by omega, h2, h3⟩
      · exact ⟨n, by omega, ho, by omega⟩
theorem stands_below (l : List PL) (lab : Int) : ∀ n t, standsAt l lab n = some t → t < n ∧ (lineAt l t).op = 0 ∧ (lineAt l t).label = lab
  | 0, _, h => by cases h
  | n + 1, t, h => by
    unfold standsAt at h
    split at h
    · rename_i h1
      injection h with h
      subst h
      exact ⟨by omega, h1.1, h1.2⟩
    · have := stands_below l lab n t h
      exact ⟨by omega, this.2⟩
theorem toP_bd (l : List PL) (lab : Int) : 0 ≤ toP l lab ∧ toP l lab ≤ (partsP l).length := by
  unfold toP
  split
  · omega
  · rename_i t h
    have h1 := stands_below l lab _ _ h
    obtain ⟨d, hd⟩ := Nat.exists_eq_add_of_lt h1.1
    have := partN_mono l t (d + 1)
    unfold partsP
    rw [parts_len, hd, Nat.add_assoc]
    omega
theorem branch_op {n : Int} (h : branchOp n = true) : 30 ≤ n ∧ n ≤ 39 := by unfold branchOp at h; simpa using h
theorem parts_wf {l : List PL} (ht : Taken l) (hs : l.length ≤ 60000) : WF (partsP l) := by
  have hk : ∀ k, k < (partsP l).length → ∃ i, i < l.length ∧ (lineAt l i).op ≠ 0 ∧ partAt (partsP l) k = partP l i := fun k h => by
    unfold partsP at h
    rw [parts_len] at h
    obtain ⟨i, h1, h2, h3⟩ := part_line l _ k h
    exact ⟨i, h1, h2, by rw [← h3]; exact (part_of l h1 h2).1⟩
  refine ⟨fun k h => ?_, fun k h => ?_, fun k h => ?_, ?_⟩
  · obtain ⟨i, h1, h2, h3⟩ := hk k h
    rw [h3]
    unfold partP
    split
    · simp
    split
    · rename_i h5
      have := (fields_tab (ht.may h1) h5).2.2.2
      simp only; omega
    (repeat' split) <;> simp
  · obtain ⟨i, h1, h2, h3⟩ := hk k h
    rw [h3]
    unfold partP
    (repeat' split) <;> simp
  · obtain ⟨i, h1, h2, h3⟩ := hk k h
    rw [h3]
    have := toP_bd l (lineAt l i).label
    intro _
    unfold partP
    (repeat' split) <;> simp_all
  · unfold partsP
    rw [parts_len]
    have := partN_le l l.length
    omega
/-- Which lines are long, if these parts are. -/
def flagS (l : List PL) (S : List Nat) : List Bool := (List.range l.length).map fun i => decide ((lineAt l i).op ≠ 0 ∧ partN l i ∈ S)
theorem flag_at (l : List PL) (S : List Nat) (i : Nat) : longAt (flagS l S) i = decide (i < l.length ∧ (lineAt l i).op ≠ 0 ∧ partN l i ∈ S) := by
  unfold flagS longAt
  rw [List.getD_eq_getElem?_getD, List.getElem?_map]
  rcases Nat.lt_or_ge i l.length with h | h
  · rw [List.getElem?_range h]; simp [h]
  · rw [List.getElem?_eq_none (by simp; omega)]; simp; omega
theorem size_part (l : List PL) {i : Nat} (ho : (lineAt l i).op ≠ 0) (b : Bool) : (sizeP (lineAt l i) b : Int) = (partP l i).short + (if b = true then (partP l i).more else 0) := by
  unfold sizeP partP
  rw [if_neg ho]
  cases hb : branchOp (lineAt l i).op with
  | true =>
    have := branch_op hb
    cases b
    · rw [if_neg (by simp), if_neg (by simp; omega), if_neg (by omega), if_neg (by omega), if_neg (by omega), if_neg (by omega), if_pos rfl]; rfl
    · rw [if_pos (by simp), if_neg (by omega), if_neg (by omega), if_neg (by omega), if_pos rfl]; rfl
  | false =>
    rw [if_neg (by simp)]
    by_cases h40 : (lineAt l i).op = 40
    · cases b
      · rw [if_neg (by simp; omega), if_neg (by omega), if_neg (by omega), if_neg (by omega), if_pos h40]; rfl
      · rw [if_pos (by simp [h40]), if_neg (by omega), if_neg (by omega), if_pos h40]; rfl
    · by_cases h2 : (lineAt l i).op = 2 ∨ (lineAt l i).op = 41 ∨ (lineAt l i).op = 43
      · rw [if_pos (by omega), if_pos h2]; cases b <;> rfl
      · rw [if_neg (by omega), if_neg h2]
        split
        · simp
        · rw [if_neg (by simp)]; cases b <;> rfl
/-- Places of lines are places of parts. -/
theorem place_part (l : List PL) (S : List Nat) : ∀ i, i ≤ l.length → (placeP l (flagS l S) i : Int) = stS (partsP l) S (partN l i)
  | 0, _ => rfl
  | i + 1, h => by
    have ih := place_part l S i (by omega)
    show ((placeP l (flagS l S) i + sizeP (lineAt l i) (longAt (flagS l S) i) : Nat) : Int) = _
    rw [Int.natCast_add, ih, flag_at]
    by_cases ho : (lineAt l i).op = 0
    · rw [label_size ho]
      have := partN_same ho
      rw [this]; simp
    · have := partN_one ho
      rw [this, size_part l ho]
      show _ = stS (partsP l) S (partN l i) + wdS (partsP l) S (partN l i)
      unfold wdS
      rw [(part_of l (by omega) ho).1]
      have h1 : i < l.length := by omega
      by_cases hS : partN l i ∈ S <;> simp [h1, ho, hS]
theorem more_br (l : List PL) {i : Nat} (_ho : (lineAt l i).op ≠ 0) : (partP l i).more ≠ 0 ↔ isBr (lineAt l i) = true := by
  unfold partP isBr
  cases hb : branchOp (lineAt l i).op with
  | true =>
    have := branch_op hb
    rw [if_neg (by omega), if_neg (by omega), if_neg (by omega)]; simp
  | false =>
    split
    · simp; omega
    split
    · simp; omega
    split
    · simp; omega
    · simp; omega
theorem to_br (l : List PL) {i : Nat} (hb : isBr (lineAt l i) = true) : (partP l i).to = toP l (lineAt l i).label := by
  unfold isBr at hb
  unfold partP
  simp only [Bool.or_eq_true, beq_iff_eq] at hb
  rcases hb with hb | hb
  · have := branch_op hb
    rw [if_neg (by omega), if_neg (by omega), if_neg (by omega), if_pos hb]
  · rw [if_neg (by omega), if_neg (by omega), if_pos hb]
theorem br_op {x : PL} (hb : isBr x = true) : x.op ≠ 0 := by
  unfold isBr at hb
  simp only [Bool.or_eq_true, beq_iff_eq] at hb
  rcases hb with hb | hb
  · have := branch_op hb; omega
  · omega
theorem at_part {l : List PL} (S : List Nat) {lab : Int} (h : (standsAt l lab l.length).isSome = true) : atP l (flagS l S) lab = stS (partsP l) S (toP l lab).toNat := by
  obtain ⟨t, ht⟩ := Option.isSome_iff_exists.1 h
  have h1 := stands_below l lab _ _ ht
  unfold atP toP
  rw [ht]
  simp only [Int.toNat_natCast]
  exact place_part l S t (by omega)
/-- A short branch's displacement. -/
theorem disp_part {l : List PL} (ht : Taken l) (S : List Nat) {i : Nat} (hi : i < l.length) (hb : isBr (lineAt l i) = true) (hS : partN l i ∉ S) : dispP l (flagS l S) i = dispS (partsP l) S (partN l i) := by
  have ho := br_op hb
  unfold dispP dispS
  rw [at_part S (ht.stand i hi hb), (part_of l hi ho).1, to_br l hb]
  have h2 := place_part l S (i + 1) (by omega)
  have h3 : placeP l (flagS l S) (i + 1) = placeP l (flagS l S) i + sizeP (lineAt l i) (longAt (flagS l S) i) := rfl
  have h4 : longAt (flagS l S) i = false := by rw [flag_at]; simp [hS]
  rw [h4, br_size _ hb] at h3
  have h5 : partN l (i + 1) = partN l i + 1 := by
    show partN l i + (if (lineAt l i).op = 0 then 0 else 1) = _
    rw [if_neg ho]
  rw [h5] at h2
  omega
/-- Those that are long, and those that are made long next: by how far they reach. -/
structure RS (ps : List PP) (S L : List Nat) (r : Nat → Int) : Prop where
  ri : RI ps S r
  nd : (S ++ L).Nodup
  mem : ∀ i, i ∈ S ++ L ↔ i < ps.length ∧ (partAt ps i).more ≠ 0 ∧ nearB (r i) = false
theorem RS.near {ps : List PP} {S L : List Nat} {r : Nat → Int} (hw : WF ps) (h : RS ps S L r) {i : Nat} (hi : i < ps.length) (hm : (partAt ps i).more ≠ 0) : nearB (r i) = nearB (dispS ps S i) := by
  by_cases hW : inW ps i
  · rw [h.ri.w i hi hm hW]
  · rw [not_inW hw S hi hm hW]
    have := h.ri.f i hi hm hW
    unfold nearB
    simp only [decide_eq_false_iff_not]
    by_cases h1 : (i : Int) < (partAt ps i).to
    · have := this.1 h1; omega
    · have := this.2 (by omega); omega
theorem near_val {ps : List PP} {S : List Nat} {r : Nat → Int} (h : RI ps S r) {i : Nat} (hi : i < ps.length) (hm : (partAt ps i).more ≠ 0) (hn : nearB (r i) = true) : r i = dispS ps S i := by
  by_cases hW : inW ps i
  · exact h.w i hi hm hW
  · exfalso
    have := h.f i hi hm hW
    unfold nearB at hn
    simp only [decide_eq_true_eq] at hn
    by_cases h1 : (i : Int) < (partAt ps i).to
    · have := this.1 h1; omega
    · have := this.2 (by omega); omega
/-- One round. -/
theorem round_part {l : List PL} (ht : Taken l) (hs : l.length ≤ 60000) {S L : List Nat} {r : Nat → Int} (h : RS (partsP l) S L r) : roundP l (flagS l S) = flagS l (S ++ L) := by
  have hw := parts_wf ht hs
  refine ext_long (by simp [roundP, flagS]) fun i => ?_
  rw [longAt_round, flag_at, flag_at, Bool.eq_iff_iff]
  simp only [Bool.and_eq_true, Bool.or_eq_true, decide_eq_true_eq, Bool.not_eq_true']
  constructor
  · rintro ⟨h1, h2 | ⟨h2, h3⟩⟩
    · exact ⟨h1, h2.2.1, List.mem_append_left _ h2.2.2⟩
    · have ho := br_op h2
      have hp := part_of l h1 ho
      have hm : (partAt (partsP l) (partN l i)).more ≠ 0 := by rw [hp.1]; exact (more_br l ho).2 h2
      by_cases hS : partN l i ∈ S
      · exact ⟨h1, ho, List.mem_append_left _ hS⟩
      · refine ⟨h1, ho, (h.mem _).2 ⟨hp.2, hm, ?_⟩⟩
        rw [h.near hw hp.2 hm, ← disp_part ht S h1 h2 hS]; exact h3
  · rintro ⟨h1, ho, h2⟩
    refine ⟨h1, ?_⟩
    by_cases hS : partN l i ∈ S
    · exact .inl ⟨h1, ho, hS⟩
    · have hp := part_of l h1 ho
      obtain ⟨_, h3, h4⟩ := (h.mem _).1 h2
      have hb := (more_br l ho).1 (by rw [← hp.1]; exact h3)
      refine .inr ⟨hb, ?_⟩
      rw [disp_part ht S h1 hb hS, ← h.near hw hp.2 h3]; exact h4
/-- So many rounds. -/
def roundsP (l : List PL) : Nat → List Bool
  | 0 => noneLong l
  | t + 1 => roundP l (roundsP l t)
theorem rounds_sub (l : List PL) : ∀ t, Sub l (roundsP l t)
  | 0 => sub_none l
  | t + 1 => sub_round (rounds_sub l t)
theorem settle_at (l : List PL) (g : List Bool) : ∀ (t k : Nat), t < k → (∀ s, s < t → roundP l (roundsP l s) ≠ roundsP l s) → roundP l (roundsP l t) = roundsP l t → ∀ s d, s + d = t → settle l (k - s) (roundsP l s) = (roundsP l t, d + 1)
  | t, k, hk, hne, he, s, 0, hsd => by
    obtain rfl : s = t := by omega
    obtain ⟨m, hm⟩ : ∃ m, k - s = m + 1 := ⟨k - s - 1, by omega⟩
    rw [hm]
    unfold settle
    rw [if_pos he]
  | t, k, hk, hne, he, s, d + 1, hsd => by
    obtain ⟨m, hm⟩ : ∃ m, k - s = m + 1 := ⟨k - s - 1, by omega⟩
    have ih := settle_at l g t k hk hne he (s + 1) d (by omega)
    rw [show k - (s + 1) = m by omega] at ih
    rw [hm]
    unfold settle
    rw [if_neg (hne s (by omega))]
    have e : roundP l (roundsP l s) = roundsP l (s + 1) := rfl
    rw [e, ih]
theorem rounds_cnt (l : List PL) : ∀ t, (∀ s, s < t → roundP l (roundsP l s) ≠ roundsP l s) → t ≤ cntN (roundsP l t) l.length
  | 0, _ => Nat.zero_le _
  | t + 1, h => by
    have ih := rounds_cnt l t (fun s hs => h s (by omega))
    have := round_more (rounds_sub l t) (h t (by omega))
    show t + 1 ≤ cntN (roundP l (roundsP l t)) l.length
    omega
theorem long_is {l : List PL} {t : Nat} (hne : ∀ s, s < t → roundP l (roundsP l s) ≠ roundsP l s) (he : roundP l (roundsP l t) = roundsP l t) : longP l = (roundsP l t, t + 1) := by
  have h1 := rounds_cnt l t hne
  have h2 := cnt_br (rounds_sub l t).br l.length
  rw [brN_all] at h2
  exact settle_at l [] t (branchesP l + 1) (by omega) hne he 0 t (by omega)
theorem flag_none (l : List PL) : flagS l [] = noneLong l := by
  refine ext_long (by simp [flagS, noneLong]) fun i => ?_
  rw [flag_at]
  have : longAt (noneLong l) i = false := by
    cases h : longAt (noneLong l) i with
    | false => rfl
    | true =>
      unfold noneLong longAt at h
      rw [List.getD_eq_getElem?_getD] at h
      rcases Nat.lt_or_ge i l.length with h1 | h1
      · rw [List.getElem?_replicate, if_pos h1] at h; cases h
      · rw [List.getElem?_eq_none (by simpa using h1)] at h; cases h
  rw [this]; simp
/-- Where the program stands after so many rounds. -/
structure RT (l : List PL) (S L : List Nat) (r : Nat → Int) (t : Nat) : Prop where
  rs : RS (partsP l) S L r
  g : flagS l S = roundsP l t
  ne : ∀ s, s < t → roundP l (roundsP l s) ≠ roundsP l s
theorem RT.next {l : List PL} (ht : Taken l) (hs : l.length ≤ 60000) {S L : List Nat} {r : Nat → Int} {t : Nat} (h : RT l S L r t) (hL : L ≠ []) {F : List Nat} {r' : Nat → Int} (h' : RS (partsP l) (S ++ L) F r') : RT l (S ++ L) F r' (t + 1) := by
  have hr := round_part ht hs h.rs
  refine ⟨h', ?_, fun s hst => ?_⟩
  · rw [← hr, h.g]; rfl
  · rcases Nat.lt_or_ge s t with h1 | h1
    · exact h.ne s h1
    · obtain rfl : s = t := by omega
      rw [← h.g, hr]
      intro he
      cases L with
      | nil => exact hL rfl
      | cons k L =>
        obtain ⟨h2, h3, h4⟩ := (h.rs.mem k).1 (by simp)
        unfold partsP at h2
        rw [parts_len] at h2
        obtain ⟨i, h5, h6, h7⟩ := part_line l _ k h2
        have h8 := congrArg (fun g => longAt g i) he
        simp only [flag_at, h7] at h8
        have hk : k ∉ S := fun hk => by
          have := h.rs.nd
          rw [List.nodup_append] at this
          exact this.2.2 k hk k (by simp) rfl
        simp [h5, h6, hk] at h8
theorem RT.done {l : List PL} (ht : Taken l) (hs : l.length ≤ 60000) {S : List Nat} {r : Nat → Int} {t : Nat} (h : RT l S [] r t) : longP l = (flagS l S, t + 1) := by
  have hr := round_part ht hs h.rs
  rw [List.append_nil, h.g] at hr
  rw [h.g]
  exact long_is h.ne hr
end Go.Proofs.YthojmbljlehpbaaGreatDoor.Relax
namespace Go.Proofs.YthojmbljlehpbaaGreatDoor.Relax
open Go.Proofs.YthojmbljlehpbaaGreatDoor.Enc

def brB (op : Int) : Bool := decide (30 ≤ op ∧ op ≤ 40)
def leadB (op : Int) : Bool := brB op || (op == 41 || op == 43)
def operandsB (x : PL) : Bool := if x.op = 0 then x.a == 0 && x.b == 0 && x.imm == 0 else (encP (codeOf x)).2 == 0 && (x.imm == 0 || !brB x.op)
def labelFitsB (x : PL) : Bool := if x.op = 0 ∨ leadB x.op = true then labelB x.label else x.label == 0
def listFitsB (x : PL) : Bool := if x.op = 42 then decide (1 ≤ x.list.length ∧ x.list.length ≤ 400) && x.list.all labelB else x.list.length == 0
def wrongL (x : PL) : Int := if x.op < 0 ∨ 48 < x.op then 170 else if mayL x then 0 else 171
theorem enc_ok (x : PL) (h1 : 1 ≤ x.op) (h2 : x.op ≤ 48) : ((encP (codeOf x)).2 == 0) = mayP (codeOf x) := by
  have : isOp (codeOf x).op = true := by unfold isOp codeOf; simp; omega
  unfold encP
  rw [if_pos this]
  cases mayP (codeOf x) <;> rfl
theorem lead_goes (x : PL) : goesB x = leadB x.op := by
  unfold goesB isBr branchOp leadB brB
  rw [Bool.eq_iff_iff]
  simp
  omega
theorem may_parts (x : PL) (h1 : 0 ≤ x.op) (h2 : x.op ≤ 48) : mayL x = (operandsB x && labelFitsB x && listFitsB x && (x.n == 0 || x.op == 2)) := by
  unfold mayL operandsB labelFitsB listFitsB
  rw [lead_goes]
  by_cases h0 : x.op = 0
  · rw [if_pos h0, if_pos h0, if_pos (.inl h0), if_neg (by omega)]
    have : (x.op == 2) = false := by rw [h0]; rfl
    rw [this, Bool.eq_iff_iff]
    simp
    constructor <;> (intro h; simp_all)
  rw [if_neg h0, if_neg h0, enc_ok x (by omega) h2]
  cases hl : leadB x.op with
  | true =>
    have hop : brB x.op = true ∨ (brB x.op = false ∧ (x.op = 41 ∨ x.op = 43)) := by
      unfold leadB at hl
      cases hb : brB x.op
      · rw [hb] at hl; right; exact ⟨rfl, by simpa using hl⟩
      · exact .inl rfl
    have hn42 : ¬ x.op = 42 ∧ (x.op == 2) = false := by
      rcases hop with h | h
      · unfold brB at h; simp at h ⊢; omega
      · simp; omega
    rw [if_pos rfl, if_pos (.inr rfl), if_neg hn42.1, hn42.2, Bool.or_false]
    have he : (mayP { codeOf x with imm := 0 } && x.imm == 0) = (mayP (codeOf x) && (x.imm == 0 || !brB x.op)) := by
      by_cases hi : x.imm = 0
      · have e1 : ({ codeOf x with imm := 0 } : PC) = codeOf x := by unfold codeOf; rw [hi]
        rw [e1]; simp [hi]
      · have e2 : (x.imm == 0) = false := by simpa using hi
        rw [e2, Bool.and_false, Bool.false_or]
        rcases hop with h | ⟨h, ho⟩
        · rw [h]; simp
        · have : mayP (codeOf x) = false := by
            unfold mayP codeOf zero
            simp only
            rw [if_neg (by omega), if_neg (by omega), if_neg (by omega), if_neg (by omega), if_neg (by omega), if_neg (by omega), if_neg (by omega), if_pos (by omega)]
            simp [hi]
          rw [this]; rfl
    rw [he]
    generalize (mayP (codeOf x) && (x.imm == 0 || !brB x.op)) = p
    cases p <;> cases (x.n == 0) <;> cases (x.list.length == 0) <;> cases labelB x.label <;> rfl
  | false =>
    have hbr : brB x.op = false := by
      unfold leadB at hl
      cases hb : brB x.op
      · rfl
      · rw [hb] at hl; cases hl
    have q1 : ¬ (false = true) := by simp
    have q2 : ¬ (x.op = 0 ∨ false = true) := by simp [h0]
    rw [if_neg q1, if_neg q2, hbr]
    by_cases h42 : x.op = 42
    · have e2 : (x.op == 2) = false := by rw [h42]; rfl
      have e3 : decide (1 ≤ x.list.length ∧ x.list.length ≤ 400) = (decide (1 ≤ x.list.length) && decide (x.list.length ≤ 400)) := by rw [Bool.eq_iff_iff]; simp
      rw [if_pos h42, if_pos h42, e2, e3]
      generalize decide (1 ≤ x.list.length) = a
      generalize decide (x.list.length ≤ 400) = b
      generalize x.list.all labelB = c
      generalize mayP (codeOf x) = d
      cases a <;> cases b <;> cases c <;> cases d <;> cases (x.n == 0) <;> cases (x.label == 0) <;> simp
    · rw [if_neg h42, if_neg h42]
      by_cases h2 : x.op = 2
      · rw [if_pos h2]
        have e2 : (x.op == 2) = true := by rw [h2]; rfl
        rw [e2]
        generalize mayP (codeOf x) = d
        cases d <;> cases (x.list.length == 0) <;> cases (x.label == 0) <;> simp
      · rw [if_neg h2]
        have e2 : (x.op == 2) = false := by simpa using h2
        rw [e2]
        generalize mayP (codeOf x) = d
        cases d <;> cases (x.list.length == 0) <;> cases (x.label == 0) <;> cases (x.n == 0) <;> simp
/-- The words that the program's writer makes of a line; reach: how far a branch leads. -/
def putP (x : PL) (reach : Int) (at_ : Int → Int) : List (Int × Int) :=
  if brB x.op then
    (if nearB reach then [(wordOf x.op x.a x.b reach, 1)]
     else (if x.op = 40 then [] else [(wordOf (otherP x.op) x.a x.b 2, 1)]) ++ [(wordOf 41 0 0 0, 1), (at_ x.label, 2)])
  else (wordOf x.op x.a x.b x.imm, 1) ::
    (if x.op = 2 then [(x.n, 2)] else if x.op = 41 ∨ x.op = 43 then [(at_ x.label, 2)] else if x.op = 42 then ((x.list.length : Int), 3) :: x.list.map (fun k => (at_ k, 3)) else [])
theorem zeros_go {x : PL} (hm : mayL x = true) (ho : x.op = 41 ∨ x.op = 43) : x.a = 0 ∧ x.b = 0 ∧ x.imm = 0 := by
  have hg : goesB x = true := by rw [lead_goes]; unfold leadB; rcases ho with h | h <;> (rw [h]; rfl)
  obtain ⟨_, h1, h2, _⟩ := fields_go hm hg
  unfold mayP zero at h1
  simp only at h1
  rw [if_neg (by omega), if_neg (by omega), if_neg (by omega), if_neg (by omega), if_neg (by omega), if_neg (by omega), if_neg (by omega), if_pos (by omega)] at h1
  simp at h1
  exact ⟨h1.1, h1.2, h2⟩
theorem made_put {x : PL} (hm : mayL x = true) (h0 : x.op ≠ 0) {long : Bool} {place reach : Int} {at_ : Int → Int} (hb : isBr x = true → nearB reach = !long ∧ (long = false → reach = at_ x.label - place - 1)) :
    madeP x long place at_ = putP x reach at_ := by
  unfold madeP putP
  rw [if_neg h0]
  have hbr : brB x.op = isBr x := by unfold brB isBr branchOp; rw [Bool.eq_iff_iff]; simp; omega
  rw [hbr]
  cases hx : isBr x with
  | true =>
    obtain ⟨h1, h2⟩ := hb hx
    rw [if_pos rfl, h1]
    have hop : (branchOp x.op = true ∧ x.op ≠ 40) ∨ (branchOp x.op = false ∧ x.op = 40) := by
      unfold isBr branchOp at hx; unfold branchOp; simp at hx ⊢; omega
    have q1 : ¬ ((!true) = true) := by simp
    have q2 : (!false) = true := by simp
    have q3 : ¬ (false = true) := by simp
    cases long with
    | true =>
      rw [if_neg q1]
      rcases hop with ⟨h, h'⟩ | ⟨h, h'⟩
      · rw [h, if_pos (by rfl : (true && true) = true), if_neg h']; rfl
      · rw [h, if_neg (by simp : ¬ ((false && true) = true)), if_pos (.inl ⟨h', rfl⟩), if_pos h']; rfl
    | false =>
      rw [if_pos q2, h2 rfl]
      have q5 : ¬ ((x.op = 40 ∧ false = true) ∨ x.op = 41) := by
        rcases hop with ⟨h, h'⟩ | ⟨h, h'⟩
        · have := branch_op h; simp; omega
        · simp; omega
      have q6 : branchOp x.op = true ∨ x.op = 40 := by
        rcases hop with ⟨h, h'⟩ | ⟨h, h'⟩
        · exact .inl h
        · exact .inr h'
      have q7 : ¬ ((branchOp x.op && false) = true) := by simp
      rw [if_neg q7, if_neg q5, if_pos q6]
  | false =>
    have hnb : branchOp x.op = false ∧ x.op ≠ 40 := by unfold isBr at hx; simpa using hx
    have q1 : ¬ ((false && long) = true) := by simp
    have q2 : ¬ (false = true) := by simp
    rw [hnb.1, if_neg q1, if_neg q2]
    by_cases h41 : x.op = 41
    · obtain ⟨e1, e2, e3⟩ := zeros_go hm (.inl h41)
      rw [if_pos (.inr h41), if_neg (by omega), if_pos (.inl h41), h41, e1, e2, e3]
    have q3 : ¬ ((x.op = 40 ∧ long = true) ∨ x.op = 41) := by
      rintro (⟨h, _⟩ | h)
      · exact hnb.2 h
      · exact h41 h
    have q4 : ¬ (false = true ∨ x.op = 40) := by
      rintro (h | h)
      · cases h
      · exact hnb.2 h
    rw [if_neg q3, if_neg q4]
    by_cases h43 : x.op = 43
    · obtain ⟨e1, e2, e3⟩ := zeros_go hm (.inr h43)
      rw [if_pos h43, if_neg (by omega), if_pos (.inr h43), h43, e1, e2, e3]
    rw [if_neg h43]
    by_cases h2 : x.op = 2
    · obtain ⟨_, e2, e3⟩ := fields_lit hm h2
      rw [if_pos h2, if_pos h2, h2, e2, e3]
    have q5 : ¬ (x.op = 41 ∨ x.op = 43) := by omega
    rw [if_neg h2, if_neg h2, if_neg q5]
    by_cases h42 : x.op = 42
    · obtain ⟨_, e2, e3, _⟩ := fields_tab hm h42
      rw [if_pos h42, if_pos h42, h42, e2, e3]
    · rw [if_neg h42, if_neg h42]
end Go.Proofs.YthojmbljlehpbaaGreatDoor.Relax
