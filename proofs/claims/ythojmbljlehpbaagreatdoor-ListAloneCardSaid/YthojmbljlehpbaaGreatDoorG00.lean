/- The words of the machine, plainly: which instructions may be, their words, and back. No condition. -/
import Derived.Laws.Entries
namespace Go.Proofs.YthojmbljlehpbaaGreatDoor.Enc

structure PC where
  op : Int
  a : Int
  b : Int
  imm : Int
deriving DecidableEq
def reg (n : Int) : Bool := decide (0 ≤ n ∧ n ≤ 11)
def wide (n : Int) : Bool := decide (-32768 ≤ n ∧ n ≤ 32767)
def near (n : Int) : Bool := decide (-128 ≤ n ∧ n ≤ 127)
def zero (n : Int) : Bool := decide (n = 0)
def trapN (n : Int) : Bool := decide (0 ≤ n ∧ n ≤ 255)
def isOp (n : Int) : Bool := decide (1 ≤ n ∧ n ≤ 48)
def branchOp (n : Int) : Bool := decide (30 ≤ n ∧ n ≤ 39)
/-- May an instruction be? -/
def mayP (c : PC) : Bool :=
  if c.op = 1 then reg c.a && zero c.b && wide c.imm
  else if c.op = 2 ∨ c.op = 42 ∨ c.op = 45 ∨ c.op = 46 ∨ c.op = 47 then reg c.a && zero c.b && zero c.imm
  else if c.op = 3 ∨ c.op = 24 ∨ c.op = 25 ∨ c.op = 26 ∨ c.op = 29 then reg c.a && reg c.b && zero c.imm
  else if c.op = 4 ∨ c.op = 27 ∨ c.op = 28 then reg c.a && reg c.b && wide c.imm
  else if 5 ≤ c.op ∧ c.op ≤ 23 then reg c.a && reg c.b && reg c.imm
  else if 30 ≤ c.op ∧ c.op ≤ 39 then reg c.a && reg c.b && near c.imm
  else if c.op = 40 then zero c.a && zero c.b && near c.imm
  else if c.op = 41 ∨ c.op = 43 ∨ c.op = 44 then zero c.a && zero c.b && zero c.imm
  else if c.op = 48 then zero c.a && zero c.b && trapN c.imm
  else false
def up (n : Int) : Int := if n < 0 then n + 65536 else n
def wordP (c : PC) : Int := c.op * 16777216 + c.a * 1048576 + c.b * 65536 + up c.imm
def encP (c : PC) : Int × Int := if isOp c.op then (if mayP c then (wordP c, 0) else (0, 161)) else (0, 160)
def noC : PC := ⟨0, 0, 0, 0⟩
def cutP (w : Int) : PC := ⟨w / 16777216, w / 1048576 % 16, w / 65536 % 16, w % 65536⟩
def decP (w : Int) : PC × Int :=
  let c := cutP w
  if isOp c.op then
    (if mayP c then (c, 0) else if 32768 ≤ c.imm then (let d := { c with imm := c.imm - 65536 }; if mayP d then (d, 0) else (noC, 161)) else (noC, 161))
  else (noC, 160)
def followsP (op : Int) : Int := if op = 2 ∨ op = 41 ∨ op = 43 then 1 else if op = 42 then -1 else 0

theorem ex1 : encP ⟨1, 3, 0, -2⟩ = (0x0130fffe, 0) := by decide
theorem ex2 : decP 0x1e01ff80 = (⟨30, 0, 1, -128⟩, 0) := by decide
theorem ex3 : encP ⟨3, 12, 0, 0⟩ = (0, 161) ∧ encP ⟨0, 0, 0, 0⟩ = (0, 160) ∧ encP ⟨49, 0, 0, 0⟩ = (0, 160) ∧ decP 0x1e010080 = (noC, 161) ∧ decP 1 = (noC, 160) := by decide

/-- What an instruction's fields are at most. -/
structure Within (c : PC) : Prop where
  op : 1 ≤ c.op ∧ c.op ≤ 48
  a : 0 ≤ c.a ∧ c.a ≤ 11
  b : 0 ≤ c.b ∧ c.b ≤ 11
  imm : -32768 ≤ c.imm ∧ c.imm ≤ 32767
theorem within {c : PC} (h : mayP c = true) : Within c := by
  unfold mayP reg zero wide near trapN at h
  constructor <;> (repeat' split at h) <;> simp at h <;> omega
theorem up_range {n : Int} (h : -32768 ≤ n ∧ n ≤ 32767) : 0 ≤ up n ∧ up n ≤ 65535 := by unfold up; split <;> omega
theorem encP_ok {c : PC} {x : Int} (h : encP c = (x, 0)) : mayP c = true ∧ x = wordP c := by
  unfold encP at h
  (repeat' split at h) <;> simp at h
  exact ⟨by assumption, h.symm⟩
theorem wordP_range {c : PC} (h : Within c) : 0 ≤ wordP c ∧ wordP c ≤ 4294967295 := by
  obtain ⟨h1, h2, h3, h4⟩ := h
  have := up_range h4
  unfold wordP; omega
theorem cut_word {c : PC} (h : Within c) : cutP (wordP c) = { c with imm := up c.imm } := by
  obtain ⟨h1, h2, h3, h4⟩ := h
  have := up_range h4
  obtain ⟨op, a, b, i⟩ := c
  unfold cutP wordP
  simp only [PC.mk.injEq] at *
  refine ⟨?_, ?_, ?_, ?_⟩ <;> omega
theorem isOp_of {c : PC} (h : Within c) : isOp c.op = true := by have := h.op; unfold isOp; simpa using this
/-- A number of the greater half may stand nowhere as it is. -/
theorem not_may {c : PC} (h : 32768 ≤ c.imm) : mayP c = false := by
  unfold mayP reg zero wide near trapN
  (repeat' split) <;> simp <;> omega
theorem dec_enc {c : PC} (h : mayP c = true) : decP (wordP c) = (c, 0) := by
  have hw := within h
  unfold decP
  simp only [cut_word hw, isOp_of hw, if_true]
  have h4 := hw.imm
  by_cases hn : c.imm < 0
  · have e : up c.imm = c.imm + 65536 := by unfold up; rw [if_pos hn]
    rw [e, not_may (c := { c with imm := c.imm + 65536 }) (by simp only; omega)]
    have e2 : ({ c with imm := c.imm + 65536 - 65536 } : PC) = c := by
      obtain ⟨op, a, b, i⟩ := c
      simp only [PC.mk.injEq, true_and]; omega
    simp only [Bool.false_eq_true, if_false]
    rw [if_pos (by omega), e2, if_pos h]
  · have e : up c.imm = c.imm := by unfold up; rw [if_neg hn]
    rw [e]
    rw [if_pos h]
theorem back1 {c : PC} {x : Int} (h : encP c = (x, 0)) : decP x = (c, 0) := by
  obtain ⟨h1, rfl⟩ := encP_ok h
  exact dec_enc h1
theorem up_cut {n : Int} (h : 0 ≤ n ∧ n ≤ 32767) : up n = n := by unfold up; rw [if_neg (by omega)]
theorem word_cut {w : Int} (_hw : 0 ≤ w ∧ w ≤ 4294967295) (h : mayP (cutP w) = true) : wordP (cutP w) = w := by
  have h4 := (within h).imm
  unfold cutP at h4
  simp only at h4
  unfold wordP
  have e : up (cutP w).imm = w % 65536 := by unfold cutP; simp only; rw [up_cut (by omega)]
  rw [e]
  unfold cutP
  simp only
  omega
theorem back2 {w : Int} (hw : 0 ≤ w ∧ w ≤ 4294967295) {d : PC} (h : decP w = (d, 0)) : encP d = (w, 0) := by
  unfold decP at h
  simp only at h
  split at h
  case isFalse => simp at h
  case isTrue ho =>
  split at h
  · have hm : mayP (cutP w) = true := by assumption
    simp at h
    subst h
    unfold encP
    rw [if_pos ho, if_pos hm, word_cut hw hm]
  · split at h
    · split at h
      · rename_i h1 h2 h3
        simp at h
        subst h
        unfold encP
        simp only
        rw [if_pos ho, if_pos h3]
        simp only [Prod.mk.injEq, and_true]
        unfold wordP
        simp only
        have e : up ((cutP w).imm - 65536) = (cutP w).imm := by
          unfold up
          rw [if_pos (by unfold cutP; simp only; omega)]; omega
        rw [e]
        unfold cutP
        simp only
        omega
      · simp at h
    · simp at h
theorem apart {c d : PC} {x : Int} (h : encP c = (x, 0)) (k : encP d = (x, 0)) : c = d := by
  have h1 := back1 h
  rw [back1 k] at h1
  simp at h1
  exact h1.symm
end Go.Proofs.YthojmbljlehpbaaGreatDoor.Enc
namespace Go.Proofs.YthojmbljlehpbaaGreatDoor.Relax
open Go.Proofs.YthojmbljlehpbaaGreatDoor.Enc

structure PL where
  op : Int
  a : Int
  b : Int
  imm : Int
  n : Int
  label : Int
  list : List Int
deriving DecidableEq
def isBr (l : PL) : Bool := branchOp l.op || l.op == 40
def goesB (l : PL) : Bool := isBr l || (l.op == 41 || l.op == 43)
/-- How many words a line makes. -/
def sizeP (l : PL) (long : Bool) : Nat :=
  if l.op = 0 then 0
  else if branchOp l.op && long then 3
  else if (l.op = 40 ∧ long = true) ∨ l.op = 41 ∨ l.op = 43 ∨ l.op = 2 then 2
  else if l.op = 42 then 2 + l.list.length
  else 1
def nearB (d : Int) : Bool := decide (-128 ≤ d ∧ d ≤ 127)
def lineAt (l : List PL) (i : Nat) : PL := l.getD i ⟨0, 0, 0, 0, 0, 0, []⟩
def longAt (g : List Bool) (i : Nat) : Bool := g.getD i false
/-- How many words stand ahead of a line. -/
def placeP (l : List PL) (g : List Bool) : Nat → Nat
  | 0 => 0
  | i + 1 => placeP l g i + sizeP (lineAt l i) (longAt g i)
/-- The last line at which a label stands, of so many. -/
def standsAt (l : List PL) (lab : Int) : Nat → Option Nat
  | 0 => none
  | i + 1 => if (lineAt l i).op = 0 ∧ (lineAt l i).label = lab then some i else standsAt l lab i
def atP (l : List PL) (g : List Bool) (lab : Int) : Int := match standsAt l lab l.length with | none => -1 | some t => placeP l g t
def dispP (l : List PL) (g : List Bool) (i : Nat) : Int := atP l g (lineAt l i).label - placeP l g i - 1
def roundP (l : List PL) (g : List Bool) : List Bool := (List.range l.length).map fun i => longAt g i || (isBr (lineAt l i) && !nearB (dispP l g i))
/-- Rounds, until one makes none long: what is long then, and how many there were. -/
def settle (l : List PL) : Nat → List Bool → List Bool × Nat
  | 0, g => (g, 0)
  | k + 1, g => if roundP l g = g then (g, 1) else ((settle l k (roundP l g)).1, (settle l k (roundP l g)).2 + 1)
def noneLong (l : List PL) : List Bool := List.replicate l.length false
def branchesP (l : List PL) : Nat := (l.filter isBr).length
def longP (l : List PL) : List Bool × Nat := settle l (branchesP l + 1) (noneLong l)

/-- What is long here is long there. -/
def Le (g h : List Bool) : Prop := ∀ i, longAt g i = true → longAt h i = true
theorem longAt_round (l : List PL) (g : List Bool) (i : Nat) : longAt (roundP l g) i = (decide (i < l.length) && (longAt g i || (isBr (lineAt l i) && !nearB (dispP l g i)))) := by
  unfold roundP longAt
  rw [List.getD_eq_getElem?_getD, List.getElem?_map]
  rcases Nat.lt_or_ge i l.length with h | h
  · rw [List.getElem?_range h]; simp [h]
  · rw [List.getElem?_eq_none (by simp; omega)]; simp; omega
theorem br_size (x : PL) (h : isBr x = true) : sizeP x false = 1 := by
  unfold isBr branchOp at h
  unfold sizeP
  simp at h
  have h0 : ¬ x.op = 0 := by omega
  rw [if_neg h0, if_neg (by simp), if_neg (by simp; omega), if_neg (by omega)]
theorem size_le (x : PL) (b c : Bool) (h : b = true → c = true) : sizeP x b ≤ sizeP x c := by
  cases b <;> cases c
  · exact Nat.le_refl _
  · unfold sizeP branchOp
    (repeat' split) <;> first | omega | (simp_all; done) | (simp_all; omega)
  · exact absurd (h rfl) (by simp)
  · exact Nat.le_refl _
/-- Between two lines there are no fewer words where more is long. -/
theorem between_le {l : List PL} {g h : List Bool} (hgh : Le g h) : ∀ (i d : Nat), placeP l g (i + d) + placeP l h i ≤ placeP l h (i + d) + placeP l g i
  | i, 0 => by simp only [Nat.add_zero]; omega
  | i, d + 1 => by
    have ih := between_le (l := l) hgh i d
    have hs := size_le (lineAt l (i + d)) (longAt g (i + d)) (longAt h (i + d)) (hgh (i + d))
    rw [show i + (d + 1) = (i + d) + 1 by omega]
    show placeP l g (i + d) + sizeP _ _ + placeP l h i ≤ placeP l h (i + d) + sizeP _ _ + placeP l g i
    omega
theorem place_mono (l : List PL) (g : List Bool) : ∀ (i d : Nat), placeP l g i ≤ placeP l g (i + d)
  | i, 0 => Nat.le_refl _
  | i, d + 1 => by
    have := place_mono l g i d
    rw [show i + (d + 1) = (i + d) + 1 by omega]
    show _ ≤ placeP l g (i + d) + _
    omega
/-- What reaches where more is long reaches where less is. -/
theorem near_less {l : List PL} {g h : List Bool} (hgh : Le g h) {i : Nat} (hb : isBr (lineAt l i) = true) (hi : longAt h i = false) (hs : (standsAt l (lineAt l i).label l.length).isSome = true) (hn : nearB (dispP l h i) = true) : nearB (dispP l g i) = true := by
  have hg : longAt g i = false := by
    cases hx : longAt g i with
    | false => rfl
    | true => rw [hgh i hx] at hi; cases hi
  obtain ⟨t, ht⟩ := Option.isSome_iff_exists.1 hs
  unfold dispP atP nearB at hn ⊢
  rw [ht] at hn ⊢
  simp only [decide_eq_true_eq] at hn ⊢
  rcases Nat.lt_or_ge i t with h1 | h1
  · have e1 : placeP l g (i + 1) = placeP l g i + 1 := by show placeP l g i + sizeP _ _ = _; rw [hg, br_size _ hb]
    have e2 : placeP l h (i + 1) = placeP l h i + 1 := by show placeP l h i + sizeP _ _ = _; rw [hi, br_size _ hb]
    obtain ⟨d, rfl⟩ := Nat.exists_eq_add_of_lt h1
    have k1 := between_le (l := l) hgh (i + 1) d
    have k2 := place_mono l g (i + 1) d
    rw [show i + 1 + d = i + d + 1 by omega] at k1 k2
    omega
  · obtain ⟨d, rfl⟩ := Nat.exists_eq_add_of_le h1
    have k1 := between_le (l := l) hgh t d
    have k2 := place_mono l g t d
    omega
/-- A choice in which all that is short reaches. -/
def Reaches (l : List PL) (h : List Bool) : Prop := ∀ i, i < l.length → isBr (lineAt l i) = true → longAt h i = false → nearB (dispP l h i) = true
/-- Each branch's label stands somewhere. -/
def Stand (l : List PL) : Prop := ∀ i, i < l.length → isBr (lineAt l i) = true → (standsAt l (lineAt l i).label l.length).isSome = true
theorem round_le {l : List PL} {g h : List Bool} (hl : Stand l) (hr : Reaches l h) (hgh : Le g h) : Le (roundP l g) h := fun i hi => by
  rw [longAt_round] at hi
  simp only [Bool.and_eq_true, Bool.or_eq_true, decide_eq_true_eq, Bool.not_eq_true'] at hi
  obtain ⟨h1, h2 | ⟨h2, h3⟩⟩ := hi
  · exact hgh i h2
  · cases hx : longAt h i with
    | true => rfl
    | false => rw [near_less hgh h2 hx (hl i h1 h2) (hr i h1 h2 hx)] at h3; cases h3
theorem settle_le {l : List PL} {h : List Bool} (hl : Stand l) (hr : Reaches l h) : ∀ (k : Nat) (g : List Bool), Le g h → Le (settle l k g).1 h
  | 0, _, hg => hg
  | k + 1, g, hg => by
    unfold settle
    by_cases e : roundP l g = g
    · rw [if_pos e]; exact hg
    · rw [if_neg e]; exact settle_le hl hr k _ (round_le hl hr hg)
/-- The least long set. -/
theorem least {l : List PL} {h : List Bool} (hl : Stand l) (hr : Reaches l h) : Le (longP l).1 h :=
  settle_le hl hr _ _ fun i hi => by
    unfold noneLong longAt at hi
    rw [List.getD_eq_getElem?_getD] at hi
    rcases Nat.lt_or_ge i l.length with h1 | h1
    · rw [List.getElem?_replicate, if_pos h1] at hi; cases hi
    · rw [List.getElem?_eq_none (by simpa using h1)] at hi; cases hi
end Go.Proofs.YthojmbljlehpbaaGreatDoor.Relax
namespace Go.Proofs.YthojmbljlehpbaaGreatDoor.Relax
open Go.Proofs.YthojmbljlehpbaaGreatDoor.Enc

def cntN (g : List Bool) : Nat → Nat
  | 0 => 0
  | i + 1 => cntN g i + (if longAt g i then 1 else 0)
def brN (l : List PL) : Nat → Nat
  | 0 => 0
  | i + 1 => brN l i + (if isBr (lineAt l i) then 1 else 0)
theorem brN_snoc (l : List PL) (x : PL) : ∀ i, i ≤ l.length → brN (l ++ [x]) i = brN l i
  | 0, _ => rfl
  | i + 1, h => by
    have e : lineAt (l ++ [x]) i = lineAt l i := by
      unfold lineAt
      rw [List.getD_eq_getElem?_getD, List.getD_eq_getElem?_getD, List.getElem?_append_left (by omega)]
    unfold brN
    rw [brN_snoc l x i (by omega), e]
theorem brN_all (l : List PL) : brN l l.length = branchesP l := by
  unfold branchesP
  suffices h : ∀ (r : List PL), brN r.reverse r.length = (r.reverse.filter isBr).length by
    have := h l.reverse
    simpa using this
  intro r
  induction r with
  | nil => rfl
  | cons x r ih =>
    have hl : r.reverse.length = r.length := List.length_reverse
    rw [List.reverse_cons, List.length_cons]
    unfold brN
    rw [brN_snoc _ _ _ (by omega), ih, List.filter_append, List.length_append]
    have e : lineAt (r.reverse ++ [x]) r.length = x := by
      unfold lineAt
      rw [List.getD_eq_getElem?_getD, List.getElem?_append_right (by omega), hl]; simp
    rw [e]
    cases h : isBr x <;> simp [h]
theorem cnt_le {g h : List Bool} (hgh : Le g h) : ∀ n, cntN g n ≤ cntN h n
  | 0 => Nat.le_refl _
  | n + 1 => by
    have ih := cnt_le hgh n
    have hn := hgh n
    unfold cntN
    cases hg : longAt g n <;> cases hh : longAt h n <;> simp_all <;> omega
theorem cnt_lt {g h : List Bool} (hgh : Le g h) {i : Nat} (h1 : longAt g i = false) (h2 : longAt h i = true) : ∀ n, i < n → cntN g n < cntN h n
  | 0, hi => absurd hi (by omega)
  | n + 1, hi => by
    unfold cntN
    rcases Nat.lt_or_ge i n with h3 | h3
    · have ih := cnt_lt hgh h1 h2 n h3
      have hn := hgh n
      cases hg : longAt g n <;> cases hh : longAt h n <;> simp_all <;> omega
    · have e : i = n := by omega
      subst e
      have := cnt_le hgh i
      simp [h1, h2]; omega
theorem cnt_br {l : List PL} {g : List Bool} (h : ∀ i, longAt g i = true → isBr (lineAt l i) = true) : ∀ n, cntN g n ≤ brN l n
  | 0 => Nat.le_refl _
  | n + 1 => by
    have ih := cnt_br h n
    have hn := h n
    unfold cntN brN
    cases hg : longAt g n
    · cases hb : isBr (lineAt l n) <;> simp <;> omega
    · rw [hn hg]; simp; exact ih
/-- Only branches are long, and only lines of the list. -/
structure Sub (l : List PL) (g : List Bool) : Prop where
  len : g.length = l.length
  br : ∀ i, longAt g i = true → isBr (lineAt l i) = true
theorem sub_none (l : List PL) : Sub l (noneLong l) := by
  refine ⟨by simp [noneLong], fun i hi => ?_⟩
  unfold noneLong longAt at hi
  rw [List.getD_eq_getElem?_getD] at hi
  rcases Nat.lt_or_ge i l.length with h1 | h1
  · rw [List.getElem?_replicate, if_pos h1] at hi; cases hi
  · rw [List.getElem?_eq_none (by simpa using h1)] at hi; cases hi
theorem sub_round {l : List PL} {g : List Bool} (h : Sub l g) : Sub l (roundP l g) := by
  refine ⟨by simp [roundP], fun i hi => ?_⟩
  rw [longAt_round] at hi
  simp only [Bool.and_eq_true, Bool.or_eq_true, decide_eq_true_eq] at hi
  rcases hi.2 with h2 | h2
  · exact h.br i h2
  · exact h2.1
theorem le_round {l : List PL} {g : List Bool} (h : Sub l g) : Le g (roundP l g) := fun i hi => by
  rw [longAt_round, hi]
  have : i < l.length := by
    rcases Nat.lt_or_ge i l.length with h1 | h1
    · exact h1
    · unfold longAt at hi
      rw [List.getD_eq_getElem?_getD, List.getElem?_eq_none (by rw [h.len]; exact h1)] at hi
      cases hi
  simp [this]
theorem ext_long {g h : List Bool} (hl : g.length = h.length) (he : ∀ i, longAt g i = longAt h i) : g = h := by
  apply List.ext_getElem? 
  intro i
  rcases Nat.lt_or_ge i g.length with h1 | h1
  · have h2 := he i
    unfold longAt at h2
    rw [List.getD_eq_getElem?_getD, List.getD_eq_getElem?_getD, List.getElem?_eq_getElem h1, List.getElem?_eq_getElem (by omega)] at h2
    rw [List.getElem?_eq_getElem h1, List.getElem?_eq_getElem (by omega)]
    simpa using h2
  · rw [List.getElem?_eq_none h1, List.getElem?_eq_none (by omega)]
/-- A round that changes something makes one more long. -/
theorem round_more {l : List PL} {g : List Bool} (h : Sub l g) (hne : roundP l g ≠ g) : cntN g l.length < cntN (roundP l g) l.length := by
  have hle := le_round h
  have hex : ∃ i, longAt g i = false ∧ longAt (roundP l g) i = true := by
    rcases Classical.em (∃ i, longAt g i = false ∧ longAt (roundP l g) i = true) with h1 | h1
    · exact h1
    · exfalso
      refine hne (ext_long (by rw [(sub_round h).len, h.len]) fun i => ?_)
      cases hg : longAt g i with
      | true => exact hle i hg
      | false =>
        cases hh : longAt (roundP l g) i with
        | false => rfl
        | true => exact absurd ⟨i, hg, hh⟩ h1
  obtain ⟨i, h1, h2⟩ := hex
  have hi : i < l.length := by
    rw [longAt_round] at h2
    simp only [Bool.and_eq_true, decide_eq_true_eq] at h2
    exact h2.1
  exact cnt_lt hle h1 h2 _ hi
theorem settle_ends {l : List PL} : ∀ (k : Nat) (g : List Bool), Sub l g → branchesP l + 1 ≤ k + cntN g l.length → 1 ≤ k →
    roundP l (settle l k g).1 = (settle l k g).1 ∧ 1 ≤ (settle l k g).2 ∧ (settle l k g).2 ≤ k ∧ Sub l (settle l k g).1 ∧ Le g (settle l k g).1
  | 0, _, _, _, hk => absurd hk (by omega)
  | k + 1, g, hs, hc, _ => by
    unfold settle
    by_cases e : roundP l g = g
    · rw [if_pos e]; exact ⟨e, Nat.le_refl _, by simp only; omega, hs, fun _ h => h⟩
    · rw [if_neg e]
      have h1 := round_more hs e
      have h2 := cnt_br (sub_round hs).br l.length
      rw [brN_all] at h2
      have hk : 1 ≤ k := by omega
      obtain ⟨a, b, c, d, f⟩ := settle_ends k (roundP l g) (sub_round hs) (by omega) hk
      exact ⟨a, by simp only; omega, by simp only; omega, d, fun i hi => f i (le_round hs i hi)⟩
/-- The rounds end; how many there are. -/
theorem long_facts (l : List PL) : roundP l (longP l).1 = (longP l).1 ∧ 1 ≤ (longP l).2 ∧ (longP l).2 ≤ branchesP l + 1 ∧ Sub l (longP l).1 := by
  obtain ⟨a, b, c, d, _⟩ := settle_ends (branchesP l + 1) (noneLong l) (sub_none l) (by omega) (by omega)
  exact ⟨a, b, c, d⟩
/-- All that is short at the end reaches. -/
theorem long_reaches (l : List PL) : Reaches l (longP l).1 := fun i hi hb hs => by
  have h := (long_facts l).1
  have h1 := congrArg (fun g => longAt g i) h
  simp only [longAt_round, hs, hb, hi, decide_true, Bool.true_and, Bool.false_or] at h1
  simpa using h1
end Go.Proofs.YthojmbljlehpbaaGreatDoor.Relax
namespace Go.Proofs.YthojmbljlehpbaaGreatDoor.Relax
open Go.Proofs.YthojmbljlehpbaaGreatDoor.Enc

/-- Where a line of the shorter list stood. -/
def was (p k : Nat) : Nat := if k < p then k else k + 1
/-- l without its line p. -/
structure Cut (l m : List PL) (p : Nat) : Prop where
  at_ : p < l.length
  len : m.length + 1 = l.length
  line : ∀ k, lineAt m k = lineAt l (was p k)
theorem cut_erase (l : List PL) (p : Nat) (h : p < l.length) : Cut l (l.take p ++ l.drop (p + 1)) p := by
  refine ⟨h, by rw [List.length_append, List.length_take, List.length_drop]; omega, fun k => ?_⟩
  unfold lineAt was
  rw [List.getD_eq_getElem?_getD, List.getD_eq_getElem?_getD]
  congr 1
  by_cases hk : k < p
  · rw [if_pos hk, List.getElem?_append_left (by rw [List.length_take]; omega), List.getElem?_take_of_lt hk]
  · rw [if_neg hk, List.getElem?_append_right (by rw [List.length_take]; omega), List.getElem?_drop, List.length_take]
    congr 1
    omega
/-- The long set of the list, seen from the shorter one. -/
def seen (m : List PL) (p : Nat) (g : List Bool) : List Bool := (List.range m.length).map fun k => longAt g (was p k)
theorem longAt_seen (m : List PL) (p : Nat) (g : List Bool) (k : Nat) : longAt (seen m p g) k = (decide (k < m.length) && longAt g (was p k)) := by
  unfold seen
  rw [show longAt (List.map (fun k => longAt g (was p k)) (List.range m.length)) k = ((List.map (fun k => longAt g (was p k)) (List.range m.length))[k]?).getD false from List.getD_eq_getElem?_getD]
  rw [List.getElem?_map]
  rcases Nat.lt_or_ge k m.length with h | h
  · rw [List.getElem?_range h]; simp [h]
  · rw [List.getElem?_eq_none (by simp; omega)]; simp; omega
section
variable {l m : List PL} {p z : Nat}
/-- How places go together: z is how many words the line p makes. -/
theorem place_cut (hc : Cut l m p) (g : List Bool) (hz : ∀ b, sizeP (lineAt l p) b = z) : ∀ k, k ≤ m.length → placeP m (seen m p g) k + (if k ≤ p then 0 else z) = placeP l g (if k ≤ p then k else k + 1)
  | 0, _ => by simp [placeP]
  | k + 1, hk => by
    have ih := place_cut hc g hz k (by omega)
    show placeP m (seen m p g) k + sizeP (lineAt m k) (longAt (seen m p g) k) + _ = _
    rw [hc.line k, longAt_seen]
    have hd : decide (k < m.length) = true := decide_eq_true (by omega)
    rw [hd, Bool.true_and]
    unfold was
    by_cases h1 : k + 1 ≤ p
    · rw [if_pos h1, if_pos h1, if_pos (by omega)]
      rw [if_pos (by omega), if_pos (by omega)] at ih
      show _ = placeP l g k + _
      omega
    · rw [if_neg h1, if_neg h1, if_neg (by omega)]
      by_cases h2 : k ≤ p
      · have e : k = p := by omega
        subst e
        rw [if_pos (Nat.le_refl _), if_pos (Nat.le_refl _)] at ih
        show _ = placeP l g k + sizeP (lineAt l k) (longAt g k) + sizeP (lineAt l (k + 1)) (longAt g (k + 1))
        rw [hz]; omega
      · rw [if_neg h2, if_neg h2] at ih
        show _ = placeP l g (k + 1) + sizeP (lineAt l (k + 1)) (longAt g (k + 1))
        omega
/-- Where labels stand. -/
theorem stands_cut (hc : Cut l m p) (lab : Int) (hp : ¬((lineAt l p).op = 0 ∧ (lineAt l p).label = lab)) : ∀ k, k ≤ m.length → (standsAt m lab k).map (was p) = standsAt l lab (if k ≤ p then k else k + 1)
  | 0, _ => by simp [standsAt]
  | k + 1, hk => by
    have ih := stands_cut hc lab hp k (by omega)
    show (if (lineAt m k).op = 0 ∧ (lineAt m k).label = lab then some k else standsAt m lab k).map (was p) = _
    rw [hc.line k]
    by_cases h1 : k + 1 ≤ p
    · rw [if_pos h1]
      rw [if_pos (by omega)] at ih
      have e : was p k = k := by unfold was; rw [if_pos (by omega)]
      show _ = if (lineAt l k).op = 0 ∧ (lineAt l k).label = lab then some k else standsAt l lab k
      rw [e]
      split
      · simp [e]
      · exact ih
    · rw [if_neg h1]
      have e : was p k = k + 1 := by unfold was; rw [if_neg (by omega)]
      show _ = if (lineAt l (k + 1)).op = 0 ∧ (lineAt l (k + 1)).label = lab then some (k + 1) else standsAt l lab (k + 1)
      rw [e]
      split
      · simp [e]
      · by_cases h2 : k ≤ p
        · have e2 : k = p := by omega
          subst e2
          rw [if_pos (Nat.le_refl _)] at ih
          show _ = if (lineAt l k).op = 0 ∧ (lineAt l k).label = lab then some k else standsAt l lab k
          rw [if_neg hp]; exact ih
        · rw [if_neg h2] at ih; exact ih
theorem was_lt (hc : Cut l m p) {k : Nat} (hk : k < m.length) : was p k < l.length := by
  have := hc.len
  unfold was; split <;> omega
theorem was_ne (p k : Nat) : was p k ≠ p := by unfold was; split <;> omega
/-- Where a label stands, and its place, in both. -/
theorem at_cut (hc : Cut l m p) (g : List Bool) (hz : ∀ b, sizeP (lineAt l p) b = z) {lab : Int} (hp : ¬((lineAt l p).op = 0 ∧ (lineAt l p).label = lab)) {t : Nat} (ht : standsAt l lab l.length = some t) :
    ∃ s, standsAt m lab m.length = some s ∧ was p s = t ∧ s < m.length ∧ (placeP m (seen m p g) s : Int) = placeP l g t - (if p < t then (z : Int) else 0) := by
  have h := stands_cut hc lab hp m.length (Nat.le_refl _)
  have e : standsAt l lab (if m.length ≤ p then m.length else m.length + 1) = standsAt l lab l.length := by
    have k1 := hc.at_
    have k2 := hc.len
    by_cases k3 : m.length ≤ p
    · have k4 : p = m.length := by omega
      rw [if_pos k3, ← k2, ← k4]
      show _ = if (lineAt l p).op = 0 ∧ (lineAt l p).label = lab then some p else standsAt l lab p
      rw [if_neg hp]
    · rw [if_neg k3, k2]
  rw [e, ht] at h
  cases hs : standsAt m lab m.length with
  | none => rw [hs] at h; cases h
  | some s =>
    rw [hs] at h
    simp only [Option.map_some, Option.some.injEq] at h
    have hlt : s < m.length := by
      have key : ∀ n s, standsAt m lab n = some s → s < n := by
        intro n
        induction n with
        | zero => intro s h; cases h
        | succ n ih =>
          intro s h
          unfold standsAt at h
          split at h
          · injection h with h; omega
          · have := ih s h; omega
      exact key _ _ hs
    refine ⟨s, rfl, h, hlt, ?_⟩
    have hpl := place_cut hc g hz s (by omega)
    unfold was at h
    by_cases h1 : s < p
    · rw [if_pos h1] at h
      rw [if_pos (by omega), if_pos (by omega)] at hpl
      rw [if_neg (by omega)]
      subst h; omega
    · rw [if_neg h1] at h
      by_cases h2 : s = p
      · subst h2
        rw [if_pos (Nat.le_refl _), if_pos (Nat.le_refl _)] at hpl
        subst h
        rw [if_pos (by omega)]
        have e3 : placeP l g (s + 1) = placeP l g s + z := by show placeP l g s + sizeP _ _ = _; rw [hz]
        omega
      · rw [if_neg (by omega), if_neg (by omega)] at hpl
        rw [if_pos (by omega)]
        subst h; omega
theorem place_was (hc : Cut l m p) (g : List Bool) (hz : ∀ b, sizeP (lineAt l p) b = z) {k : Nat} (hk : k < m.length) : (placeP m (seen m p g) k : Int) = placeP l g (was p k) - (if p < was p k then (z : Int) else 0) := by
  have hpl := place_cut hc g hz k (by omega)
  unfold was
  by_cases h1 : k < p
  · rw [if_pos h1, if_neg (by omega)]
    rw [if_pos (by omega), if_pos (by omega)] at hpl
    omega
  · rw [if_neg h1, if_pos (by omega)]
    by_cases h2 : k = p
    · subst h2
      rw [if_pos (Nat.le_refl _), if_pos (Nat.le_refl _)] at hpl
      have e3 : placeP l g (k + 1) = placeP l g k + z := by show placeP l g k + sizeP _ _ = _; rw [hz]
      omega
    · rw [if_neg (by omega), if_neg (by omega)] at hpl
      omega
/-- How displacements go together. -/
theorem disp_cut (hc : Cut l m p) (g : List Bool) (hz : ∀ b, sizeP (lineAt l p) b = z) {k : Nat} (hk : k < m.length) (hp : ¬((lineAt l p).op = 0 ∧ (lineAt l p).label = (lineAt l (was p k)).label))
    {t : Nat} (ht : standsAt l (lineAt l (was p k)).label l.length = some t) :
    dispP m (seen m p g) k = dispP l g (was p k) - (if p < t then (z : Int) else 0) + (if p < was p k then (z : Int) else 0) := by
  obtain ⟨s, h1, _, _, h4⟩ := at_cut hc g hz hp ht
  have h5 := place_was hc g hz hk
  unfold dispP atP
  rw [hc.line k, h1, ht]
  simp only
  omega
/-- Without a line of one word that is no branch and no label, no branch becomes long. -/
theorem shrinks (hc : Cut l m p) (hz : ∀ b, sizeP (lineAt l p) b = 1) (_hnb : isBr (lineAt l p) = false) (ho : (lineAt l p).op ≠ 0) (hl : Stand l) {k : Nat} (h : longAt (longP m).1 k = true) : longAt (longP l).1 (was p k) = true := by
  have hm : Stand m := fun i hi hb => by
    rw [hc.line i] at hb ⊢
    have := hl (was p i) (was_lt hc hi) hb
    obtain ⟨t, ht⟩ := Option.isSome_iff_exists.1 this
    obtain ⟨s, h1, _⟩ := at_cut hc (noneLong l) hz (fun e => ho e.1) ht
    rw [h1]; rfl
  have hr : Reaches m (seen m p (longP l).1) := fun i hi hb hs => by
    rw [hc.line i] at hb
    rw [longAt_seen, decide_eq_true hi, Bool.true_and] at hs
    have hn := long_reaches l (was p i) (was_lt hc hi) hb hs
    obtain ⟨t, ht⟩ := Option.isSome_iff_exists.1 (hl (was p i) (was_lt hc hi) hb)
    have hd := disp_cut hc (longP l).1 hz hi (fun e => ho e.1) ht
    have hw : placeP l (longP l).1 (was p i + 1) = placeP l (longP l).1 (was p i) + 1 := by show placeP l _ (was p i) + sizeP _ _ = _; rw [hs, br_size _ hb]
    have hpp : placeP l (longP l).1 (p + 1) = placeP l (longP l).1 p + 1 := by show placeP l _ p + sizeP _ _ = _; rw [hz]
    have hdl : dispP l (longP l).1 (was p i) = (placeP l (longP l).1 t : Int) - placeP l (longP l).1 (was p i) - 1 := by unfold dispP atP; rw [ht]
    have hne := was_ne p i
    have hmono : ∀ a b, a ≤ b → placeP l (longP l).1 a ≤ placeP l (longP l).1 b := fun a b hab => by
      obtain ⟨d, rfl⟩ := Nat.exists_eq_add_of_le hab
      exact place_mono l _ a d
    have ht0 : t ≠ p := fun e => by
      have key : ∀ n s, standsAt l (lineAt l (was p i)).label n = some s → (lineAt l s).op = 0 := by
        intro n
        induction n with
        | zero => intro s h; cases h
        | succ n ih =>
          intro s h
          unfold standsAt at h
          split at h
          · rename_i hh; injection h with h; subst h; exact hh.1
          · exact ih s h
      have := key _ _ ht
      rw [e] at this
      exact ho this
    unfold nearB at hn ⊢
    simp only [decide_eq_true_eq] at hn ⊢
    rw [hd]
    by_cases c1 : p < t
    · by_cases c2 : p < was p i
      · rw [if_pos c1, if_pos c2]; omega
      · rw [if_pos c1, if_neg c2]
        have m1 := hmono (was p i + 1) p (by omega)
        have m2 := hmono (p + 1) t (by omega)
        omega
    · by_cases c2 : p < was p i
      · rw [if_neg c1, if_pos c2]
        have m1 := hmono t p (by omega)
        have m2 := hmono (p + 1) (was p i) (by omega)
        omega
      · rw [if_neg c1, if_neg c2]; omega
  have h2 := least hm hr k h
  rw [longAt_seen] at h2
  simp only [Bool.and_eq_true] at h2
  exact h2.2
end
end Go.Proofs.YthojmbljlehpbaaGreatDoor.Relax
namespace Go.Proofs.YthojmbljlehpbaaGreatDoor.Relax
open Go.Proofs.YthojmbljlehpbaaGreatDoor.Enc
section
variable {l m : List PL} {p : Nat}
/-- The line p of l is a label to which no branch of m goes. -/
structure Idle (l m : List PL) (p : Nat) : Prop where
  cut : Cut l m p
  op : (lineAt l p).op = 0
  un : ∀ i, i < m.length → isBr (lineAt m i) = true → (lineAt m i).label ≠ (lineAt l p).label
theorem label_size {x : PL} (h : x.op = 0) (b : Bool) : sizeP x b = 0 := by unfold sizeP; rw [if_pos h]
theorem label_br {x : PL} (h : x.op = 0) : isBr x = false := by unfold isBr branchOp; rw [h]; decide
/-- Labels stand in the longer list where they stand in the shorter one. -/
theorem stands_up (hc : Cut l m p) {lab : Int} (hp : ¬((lineAt l p).op = 0 ∧ (lineAt l p).label = lab)) : (standsAt l lab l.length).isSome = (standsAt m lab m.length).isSome := by
  have h := stands_cut hc lab hp m.length (Nat.le_refl _)
  have k1 := hc.at_
  have k2 := hc.len
  have e : standsAt l lab (if m.length ≤ p then m.length else m.length + 1) = standsAt l lab l.length := by
    by_cases k3 : m.length ≤ p
    · have k4 : p = m.length := by omega
      rw [if_pos k3, ← k2, ← k4]
      show _ = if (lineAt l p).op = 0 ∧ (lineAt l p).label = lab then some p else standsAt l lab p
      rw [if_neg hp]
    · rw [if_neg k3, k2]
  rw [← e, ← h, Option.isSome_map]
theorem round_idle (hi : Idle l m p) (hm : Stand m) {g : List Bool} : roundP m (seen m p g) = seen m p (roundP l g) := by
  refine ext_long (by simp [roundP, seen]) fun k => ?_
  rw [longAt_round, longAt_seen, longAt_seen, longAt_round, hi.cut.line k]
  rcases Nat.lt_or_ge k m.length with hk | hk
  · rw [decide_eq_true hk, decide_eq_true (was_lt hi.cut hk)]
    simp only [Bool.true_and]
    cases hb : isBr (lineAt l (was p k)) with
    | false => simp
    | true =>
      have hbm : isBr (lineAt m k) = true := by rw [hi.cut.line k]; exact hb
      have hun := hi.un k hk hbm
      rw [hi.cut.line k] at hun
      have hp : ¬((lineAt l p).op = 0 ∧ (lineAt l p).label = (lineAt l (was p k)).label) := fun e => hun e.2.symm
      have hs := hm k hk hbm
      rw [hi.cut.line k, ← stands_up hi.cut hp] at hs
      obtain ⟨t, ht⟩ := Option.isSome_iff_exists.1 hs
      have hd := disp_cut (z := 0) hi.cut g (fun b => label_size hi.op b) hk hp ht
      rw [hd]
      simp
  · rw [decide_eq_false (by omega)]; simp
theorem long_p {g : List Bool} (hi : Idle l m p) (hs : Sub l g) : longAt g p = false := by
  cases h : longAt g p with
  | false => rfl
  | true => have := hs.br p h; rw [label_br hi.op] at this; cases this
/-- Two long sets of the longer list that the shorter one sees alike are one. -/
theorem seen_inj {g h : List Bool} (hi : Idle l m p) (hg : Sub l g) (hh : Sub l h) (e : seen m p g = seen m p h) : g = h := by
  refine ext_long (by rw [hg.len, hh.len]) fun i => ?_
  by_cases hip : i = p
  · subst hip; rw [long_p hi hg, long_p hi hh]
  · rcases Nat.lt_or_ge i l.length with h1 | h1
    · have hl := hi.cut.len
      obtain ⟨k, hk, hk2⟩ : ∃ k, was p k = i ∧ k < m.length := by
        by_cases h2 : i < p
        · exact ⟨i, by unfold was; rw [if_pos h2], by have := hi.cut.at_; omega⟩
        · exact ⟨i - 1, by unfold was; rw [if_neg (by omega)]; omega, by omega⟩
      have h3 := congrArg (fun x => longAt x k) e
      simp only [longAt_seen, decide_eq_true hk2, Bool.true_and, hk] at h3
      exact h3
    · unfold longAt
      rw [List.getD_eq_getElem?_getD, List.getD_eq_getElem?_getD, List.getElem?_eq_none (by rw [hg.len]; exact h1), List.getElem?_eq_none (by rw [hh.len]; exact h1)]
theorem settle_idle (hi : Idle l m p) (hm : Stand m) : ∀ (k : Nat) (g : List Bool), Sub l g → settle m k (seen m p g) = (seen m p (settle l k g).1, (settle l k g).2)
  | 0, _, _ => rfl
  | k + 1, g, hs => by
    unfold settle
    rw [round_idle hi hm]
    by_cases e : roundP l g = g
    · rw [if_pos e, if_pos (by rw [e])]
    · rw [if_neg e, if_neg (fun e2 => e (seen_inj hi (sub_round hs) hs e2)), settle_idle hi hm k _ (sub_round hs)]
theorem seen_none (_hc : Cut l m p) : seen m p (noneLong l) = noneLong m := by
  refine ext_long (by simp [seen, noneLong]) fun k => ?_
  have h0 : ∀ (x : List PL) i, longAt (noneLong x) i = false := fun x i => by
    cases h : longAt (noneLong x) i with
    | false => rfl
    | true =>
      unfold noneLong longAt at h
      rw [List.getD_eq_getElem?_getD] at h
      rcases Nat.lt_or_ge i x.length with h1 | h1
      · rw [List.getElem?_replicate, if_pos h1] at h; cases h
      · rw [List.getElem?_eq_none (by simpa using h1)] at h; cases h
  rw [longAt_seen, h0, h0]; simp
theorem br_cut (hc : Cut l m p) (hb : isBr (lineAt l p) = false) : ∀ k, k ≤ m.length → brN m k = brN l (if k ≤ p then k else k + 1)
  | 0, _ => by simp [brN]
  | k + 1, hk => by
    have ih := br_cut hc hb k (by omega)
    show brN m k + (if isBr (lineAt m k) then 1 else 0) = _
    rw [hc.line k]
    by_cases h1 : k + 1 ≤ p
    · have e : was p k = k := by unfold was; rw [if_pos (by omega)]
      rw [if_pos h1, e]
      rw [if_pos (by omega)] at ih
      rw [ih]; rfl
    · have e : was p k = k + 1 := by unfold was; rw [if_neg (by omega)]
      rw [if_neg h1, e]
      by_cases h2 : k ≤ p
      · have e2 : k = p := by omega
        subst e2
        rw [if_pos (Nat.le_refl _)] at ih
        show _ = brN l k + (if isBr (lineAt l k) then 1 else 0) + (if isBr (lineAt l (k + 1)) then 1 else 0)
        rw [hb, ih]; rfl
      · rw [if_neg h2] at ih
        rw [ih]; rfl
theorem branches_cut (hc : Cut l m p) (hb : isBr (lineAt l p) = false) : branchesP m = branchesP l := by
  rw [← brN_all, ← brN_all, br_cut hc hb m.length (Nat.le_refl _)]
  have k1 := hc.at_
  have k2 := hc.len
  by_cases k3 : m.length ≤ p
  · have k4 : p = m.length := by omega
    rw [if_pos k3, ← k2, ← k4]
    show _ = brN l p + (if isBr (lineAt l p) then 1 else 0)
    rw [hb]; simp
  · rw [if_neg k3, k2]
/-- A label more that nobody goes to: the same rounds, the same long branches. -/
theorem idle_long (hi : Idle l m p) (hm : Stand m) : longP m = (seen m p (longP l).1, (longP l).2) := by
  unfold longP
  rw [← seen_none hi.cut, branches_cut hi.cut (label_br hi.op)]
  exact settle_idle hi hm _ _ (sub_none l)
/-- The places of lines, and of labels, are the same. -/
theorem idle_place (hi : Idle l m p) (hm : Stand m) {k : Nat} (hk : k < m.length) : placeP m (longP m).1 k = placeP l (longP l).1 (was p k) := by
  rw [idle_long hi hm]
  have := place_was (z := 0) hi.cut (longP l).1 (fun b => label_size hi.op b) hk
  simp at this
  exact_mod_cast this
theorem idle_at (hi : Idle l m p) (hm : Stand m) {lab : Int} (hp : (lineAt l p).label ≠ lab) (hs : (standsAt m lab m.length).isSome = true) : atP m (longP m).1 lab = atP l (longP l).1 lab := by
  rw [idle_long hi hm]
  have hp2 : ¬((lineAt l p).op = 0 ∧ (lineAt l p).label = lab) := fun e => hp e.2
  rw [← stands_up hi.cut hp2] at hs
  obtain ⟨t, ht⟩ := Option.isSome_iff_exists.1 hs
  obtain ⟨s, h1, _, _, h4⟩ := at_cut (z := 0) hi.cut (longP l).1 (fun b => label_size hi.op b) hp2 ht
  unfold atP
  rw [h1, ht]
  simp only
  rw [h4]; simp
end
end Go.Proofs.YthojmbljlehpbaaGreatDoor.Relax
namespace Go.Proofs.YthojmbljlehpbaaGreatDoor.Relax
open Go.Proofs.YthojmbljlehpbaaGreatDoor.Enc

def labelB (n : Int) : Bool := decide (0 ≤ n ∧ n ≤ 100000)
def codeOf (x : PL) : PC := ⟨x.op, x.a, x.b, x.imm⟩
/-- May a line be? Its Op is 0 to 48. -/
def mayL (x : PL) : Bool :=
  if x.op = 0 then x.a == 0 && x.b == 0 && x.imm == 0 && x.n == 0 && x.list.length == 0 && labelB x.label
  else if goesB x then mayP { codeOf x with imm := 0 } && x.imm == 0 && x.n == 0 && x.list.length == 0 && labelB x.label
  else if x.op = 42 then x.list.all labelB && mayP (codeOf x) && x.n == 0 && x.label == 0 && decide (1 ≤ x.list.length) && decide (x.list.length ≤ 400)
  else if x.op = 2 then mayP (codeOf x) && x.label == 0 && x.list.length == 0
  else mayP (codeOf x) && x.n == 0 && x.label == 0 && x.list.length == 0
/-- What is wrong with a line, if those ahead of it are right. -/
def lineErr (l : List PL) (i : Nat) : Int :=
  if (lineAt l i).op < 0 ∨ 48 < (lineAt l i).op then 170
  else if mayL (lineAt l i) then (if (lineAt l i).op = 0 ∧ (standsAt l (lineAt l i).label i).isSome then 172 else 0)
  else 171
/-- Does a label stand somewhere? -/
def standsB (l : List PL) (lab : Int) : Bool := (standsAt l lab l.length).isSome
def labErr (l : List PL) (i : Nat) : Int :=
  if (goesB (lineAt l i) && !standsB l (lineAt l i).label) || (lineAt l i).list.any (fun k => !standsB l k) then 173 else 0
/-- The first line of so many in which something is wrong, and what. -/
def firstErr (f : Nat → Int) : Nat → Nat → Option (Nat × Int)
  | _, 0 => none
  | i, k + 1 => if f i = 0 then firstErr f (i + 1) k else some (i, f i)
def refusedP (l : List PL) : Int × Int :=
  if 60000 < l.length then (0, 2)
  else match firstErr (lineErr l) 0 l.length with
    | some (i, e) => (i, e)
    | none => match firstErr (labErr l) 0 l.length with
      | some (i, e) => (i, e)
      | none => (0, 0)
/-- The other branch. -/
def otherP (op : Int) : Int :=
  if op = 30 then 31 else if op = 31 then 30 else if op = 32 then 33 else if op = 33 then 32 else if op = 34 then 35 else if op = 35 then 34
  else if op = 36 then 37 else if op = 37 then 36 else if op = 38 then 39 else 38
def wordOf (op a b imm : Int) : Int := (encP ⟨op, a, b, imm⟩).1
/-- The words of a line, and their kinds; `at` tells of each label where it stands. -/
def madeP (x : PL) (long : Bool) (place : Int) (at_ : Int → Int) : List (Int × Int) :=
  if x.op = 0 then []
  else if branchOp x.op && long then [(wordOf (otherP x.op) x.a x.b 2, 1), (wordOf 41 0 0 0, 1), (at_ x.label, 2)]
  else if (x.op = 40 ∧ long = true) ∨ x.op = 41 then [(wordOf 41 0 0 0, 1), (at_ x.label, 2)]
  else if branchOp x.op = true ∨ x.op = 40 then [(wordOf x.op x.a x.b (at_ x.label - place - 1), 1)]
  else if x.op = 43 then [(wordOf 43 0 0 0, 1), (at_ x.label, 2)]
  else if x.op = 2 then [(wordOf 2 x.a 0 0, 1), (x.n, 2)]
  else if x.op = 42 then (wordOf 42 x.a 0 0, 1) :: ((x.list.length : Int), 3) :: x.list.map fun k => (at_ k, 3)
  else [(wordOf x.op x.a x.b x.imm, 1)]
/-- The words of the first so many lines. -/
def wordsN (l : List PL) (g : List Bool) : Nat → List (Int × Int)
  | 0 => []
  | i + 1 => wordsN l g i ++ madeP (lineAt l i) (longAt g i) (placeP l g i) (atP l g)
structure Asm where
  words : List Int
  kinds : List Int
  places : List Int
  rounds : Int
deriving DecidableEq
def noAsm : Asm := ⟨[], [], [], 0⟩
def asmP (l : List PL) : Asm × Int × Int :=
  if (refusedP l).2 = 0 then
    (if 65536 < placeP l (longP l).1 l.length then (noAsm, 0, 174)
     else (⟨(wordsN l (longP l).1 l.length).map (·.1), (wordsN l (longP l).1 l.length).map (·.2), (List.range l.length).map fun i => (placeP l (longP l).1 i : Int), (longP l).2⟩, 0, 0))
  else (noAsm, refusedP l)
theorem exA : asmP [⟨0, 0, 0, 0, 0, 7, []⟩, ⟨44, 0, 0, 0, 0, 0, []⟩, ⟨40, 0, 0, 0, 0, 7, []⟩] = (⟨[0x2c000000, 0x2800fffe], [1, 1], [0, 0, 1], 1⟩, 0, 0) := by decide
theorem exB : asmP [⟨0, 0, 0, 0, 0, 5, []⟩, ⟨0, 0, 0, 0, 0, 5, []⟩] = (noAsm, 1, 172) ∧ asmP [⟨42, 0, 0, 0, 0, 0, []⟩] = (noAsm, 0, 171) ∧ asmP [⟨3, 0, 0, 0, 0, 1, []⟩] = (noAsm, 0, 171) ∧ asmP [] = (⟨[], [], [], 1⟩, 0, 0) := by decide
/-- A long branch over 128 words: the chapter's second example. -/
theorem exC : (longP ([⟨30, 0, 1, 0, 0, 5, []⟩] ++ List.replicate 128 ⟨44, 0, 0, 0, 0, 0, []⟩ ++ [⟨0, 0, 0, 0, 0, 5, []⟩])).2 = 2 ∧
    (longP ([⟨30, 0, 1, 0, 0, 5, []⟩] ++ List.replicate 127 ⟨44, 0, 0, 0, 0, 0, []⟩ ++ [⟨0, 0, 0, 0, 0, 5, []⟩])).2 = 1 := by decide +kernel
theorem made_len (x : PL) (long : Bool) (place : Int) (at_ : Int → Int) : (madeP x long place at_).length = sizeP x long := by
  unfold madeP sizeP branchOp
  cases long <;> (repeat' split) <;> first | rfl | (simp; done) | (simp only [Bool.and_true, Bool.and_false, Bool.false_eq_true, decide_eq_true_eq, and_true, and_false, false_or, not_false_eq_true] at *; omega) | (simp_all; done) | (simp_all; omega)
theorem words_len (l : List PL) (g : List Bool) : ∀ k, (wordsN l g k).length = placeP l g k
  | 0 => rfl
  | k + 1 => by
    show (wordsN l g k ++ _).length = placeP l g k + _
    rw [List.length_append, words_len l g k, made_len]
end Go.Proofs.YthojmbljlehpbaaGreatDoor.Relax
