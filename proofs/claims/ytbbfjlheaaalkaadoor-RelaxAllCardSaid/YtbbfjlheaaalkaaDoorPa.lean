/- The assembler's rounds, plainly: sizes, places, which branches are long; no more rounds than branches and one; the least long set. No condition. -/
import Derived.Test.YtbbfjlheaaalkaaDoorEa
namespace Go.Proofs.YtbbfjlheaaalkaaDoor.Relax
open Go.Proofs.YtbbfjlheaaalkaaDoor.Enc

structure PL where
  op : Int
  a : Int
  b : Int
  imm : Int
  n : Int
  label : Int
  list : List Int
deriving DecidableEq
def isBr (l : PL) : Bool := branchOp l.op || l.op == 40
def goesB (l : PL) : Bool := isBr l || (l.op == 41 || l.op == 43)
/-- How many words a line makes. -/
def sizeP (l : PL) (long : Bool) : Nat :=
  if l.op = 0 then 0
  else if branchOp l.op && long then 3
  else if (l.op = 40 ∧ long = true) ∨ l.op = 41 ∨ l.op = 43 ∨ l.op = 2 then 2
  else if l.op = 42 then 2 + l.list.length
  else 1
def nearB (d : Int) : Bool := decide (-128 ≤ d ∧ d ≤ 127)
def lineAt (l : List PL) (i : Nat) : PL := l.getD i ⟨0, 0, 0, 0, 0, 0, []⟩
def longAt (g : List Bool) (i : Nat) : Bool := g.getD i false
/-- How many words stand ahead of a line. -/
def placeP (l : List PL) (g : List Bool) : Nat → Nat
  | 0 => 0
  | i + 1 => placeP l g i + sizeP (lineAt l i) (longAt g i)
/-- The last line at which a label stands, of so many. -/
def standsAt (l : List PL) (lab : Int) : Nat → Option Nat
  | 0 => none
  | i + 1 => if (lineAt l i).op = 0 ∧ (lineAt l i).label = lab then some i else standsAt l lab i
def atP (l : List PL) (g : List Bool) (lab : Int) : Int := match standsAt l lab l.length with | none => -1 | some t => placeP l g t
def dispP (l : List PL) (g : List Bool) (i : Nat) : Int := atP l g (lineAt l i).label - placeP l g i - 1
def roundP (l : List PL) (g : List Bool) : List Bool := (List.range l.length).map fun i => longAt g i || (isBr (lineAt l i) && !nearB (dispP l g i))
/-- Rounds, until one makes none long: what is long then, and how many there were. -/
def settle (l : List PL) : Nat → List Bool → List Bool × Nat
  | 0, g => (g, 0)
  | k + 1, g => if roundP l g = g then (g, 1) else ((settle l k (roundP l g)).1, (settle l k (roundP l g)).2 + 1)
def noneLong (l : List PL) : List Bool := List.replicate l.length false
def branchesP (l : List PL) : Nat := (l.filter isBr).length
def longP (l : List PL) : List Bool × Nat := settle l (branchesP l + 1) (noneLong l)

/-- What is long here is long there. -/
def Le (g h : List Bool) : Prop := ∀ i, longAt g i = true → longAt h i = true
theorem longAt_round (l : List PL) (g : List Bool) (i : Nat) : longAt (roundP l g) i = (decide (i < l.length) && (longAt g i || (isBr (lineAt l i) && !nearB (dispP l g i)))) := by
  unfold roundP longAt
  rw [List.getD_eq_getElem?_getD, List.getElem?_map]
  rcases Nat.lt_or_ge i l.length with h | h
  · rw [List.getElem?_range h]; simp [h]
  · rw [List.getElem?_eq_none (by simp; omega)]; simp; omega
theorem br_size (x : PL) (h : isBr x = true) : sizeP x false = 1 := by
  unfold isBr branchOp at h
  unfold sizeP
  simp at h
  have h0 : ¬ x.op = 0 := by omega
  rw [if_neg h0, if_neg (by simp), if_neg (by simp; omega), if_neg (by omega)]
theorem size_le (x : PL) (b c : Bool) (h : b = true → c = true) : sizeP x b ≤ sizeP x c := by
  cases b <;> cases c
  · exact Nat.le_refl _
  · unfold sizeP branchOp
    (repeat' split) <;> first | omega | (simp_all; done) | (simp_all; omega)
  · exact absurd (h rfl) (by simp)
  · exact Nat.le_refl _
/-- Between two lines there are no fewer words where more is long. -/
theorem between_le {l : List PL} {g h : List Bool} (hgh : Le g h) : ∀ (i d : Nat), placeP l g (i + d) + placeP l h i ≤ placeP l h (i + d) + placeP l g i
  | i, 0 => by simp only [Nat.add_zero]; omega
  | i, d + 1 => by
    have ih := between_le (l := l) hgh i d
    have hs := size_le (lineAt l (i + d)) (longAt g (i + d)) (longAt h (i + d)) (hgh (i + d))
    rw [show i + (d + 1) = (i + d) + 1 by omega]
    show placeP l g (i + d) + sizeP _ _ + placeP l h i ≤ placeP l h (i + d) + sizeP _ _ + placeP l g i
    omega
theorem place_mono (l : List PL) (g : List Bool) : ∀ (i d : Nat), placeP l g i ≤ placeP l g (i + d)
  | i, 0 => Nat.le_refl _
  | i, d + 1 => by
    have := place_mono l g i d
    rw [show i + (d + 1) = (i + d) + 1 by omega]
    show _ ≤ placeP l g (i + d) + _
    omega
/-- What reaches where more is long reaches where less is. -/
theorem near_less {l : List PL} {g h : List Bool} (hgh : Le g h) {i : Nat} (hb : isBr (lineAt l i) = true) (hi : longAt h i = false) (hs : (standsAt l (lineAt l i).label l.length).isSome = true) (hn : nearB (dispP l h i) = true) : nearB (dispP l g i) = true := by
  have hg : longAt g i = false := by
    cases hx : longAt g i with
    | false => rfl
    | true => rw [hgh i hx] at hi; cases hi
  obtain ⟨t, ht⟩ := Option.isSome_iff_exists.1 hs
  unfold dispP atP nearB at hn ⊢
  rw [ht] at hn ⊢
  simp only [decide_eq_true_eq] at hn ⊢
  rcases Nat.lt_or_ge i t with h1 | h1
  · have e1 : placeP l g (i + 1) = placeP l g i + 1 := by show placeP l g i + sizeP _ _ = _; rw [hg, br_size _ hb]
    have e2 : placeP l h (i + 1) = placeP l h i + 1 := by show placeP l h i + sizeP _ _ = _; rw [hi, br_size _ hb]
    obtain ⟨d, rfl⟩ := Nat.exists_eq_add_of_lt h1
    have k1 := between_le (l := l) hgh (i + 1) d
    have k2 := place_mono l g (i + 1) d
    rw [show i + 1 + d = i + d + 1 by omega] at k1 k2
    omega
  · obtain ⟨d, rfl⟩ := Nat.exists_eq_add_of_le h1
    have k1 := between_le (l := l) hgh t d
    have k2 := place_mono l g t d
    omega
/-- A choice in which all that is short reaches. -/
def Reaches (l : List PL) (h : List Bool) : Prop := ∀ i, i < l.length → isBr (lineAt l i) = true → longAt h i = false → nearB (dispP l h i) = true
/-- Each branch's label stands somewhere. -/
def Stand (l : List PL) : Prop := ∀ i, i < l.length → isBr (lineAt l i) = true → (standsAt l (lineAt l i).label l.length).isSome = true
theorem round_le {l : List PL} {g h : List Bool} (hl : Stand l) (hr : Reaches l h) (hgh : Le g h) : Le (roundP l g) h := fun i hi => by
  rw [longAt_round] at hi
  simp only [Bool.and_eq_true, Bool.or_eq_true, decide_eq_true_eq, Bool.not_eq_true'] at hi
  obtain ⟨h1, h2 | ⟨h2, h3⟩⟩ := hi
  · exact hgh i h2
  · cases hx : longAt h i with
    | true => rfl
    | false => rw [near_less hgh h2 hx (hl i h1 h2) (hr i h1 h2 hx)] at h3; cases h3
theorem settle_le {l : List PL} {h : List Bool} (hl : Stand l) (hr : Reaches l h) : ∀ (k : Nat) (g : List Bool), Le g h → Le (settle l k g).1 h
  | 0, _, hg => hg
  | k + 1, g, hg => by
    unfold settle
    by_cases e : roundP l g = g
    · rw [if_pos e]; exact hg
    · rw [if_neg e]; exact settle_le hl hr k _ (round_le hl hr hg)
/-- The least long set. -/
theorem least {l : List PL} {h : List Bool} (hl : Stand l) (hr : Reaches l h) : Le (longP l).1 h :=
  settle_le hl hr _ _ fun i hi => by
    unfold noneLong longAt at hi
    rw [List.getD_eq_getElem?_getD] at hi
    rcases Nat.lt_or_ge i l.length with h1 | h1
    · rw [List.getElem?_replicate, if_pos h1] at hi; cases hi
    · rw [List.getElem?_eq_none (by simpa using h1)] at hi; cases hi
end Go.Proofs.YtbbfjlheaaalkaaDoor.Relax
