/- The words of the machine, plainly: which instructions may be, their words, and back. No condition. -/
import Derived.Laws.Entries
namespace Go.Proofs.YtmnhafncdblklaaDoor.Enc

structure PC where
  op : Int
  a : Int
  b : Int
  imm : Int
deriving DecidableEq
def reg (n : Int) : Bool := decide (0 ≤ n ∧ n ≤ 11)
def wide (n : Int) : Bool := decide (-32768 ≤ n ∧ n ≤ 32767)
def near (n : Int) : Bool := decide (-128 ≤ n ∧ n ≤ 127)
def zero (n : Int) : Bool := decide (n = 0)
def trapN (n : Int) : Bool := decide (0 ≤ n ∧ n ≤ 255)
def isOp (n : Int) : Bool := decide (1 ≤ n ∧ n ≤ 48)
def branchOp (n : Int) : Bool := decide (30 ≤ n ∧ n ≤ 39)
/-- May an instruction be? -/
def mayP (c : PC) : Bool :=
  if c.op = 1 then reg c.a && zero c.b && wide c.imm
  else if c.op = 2 ∨ c.op = 42 ∨ c.op = 45 ∨ c.op = 46 ∨ c.op = 47 then reg c.a && zero c.b && zero c.imm
  else if c.op = 3 ∨ c.op = 24 ∨ c.op = 25 ∨ c.op = 26 ∨ c.op = 29 then reg c.a && reg c.b && zero c.imm
  else if c.op = 4 ∨ c.op = 27 ∨ c.op = 28 then reg c.a && reg c.b && wide c.imm
  else if 5 ≤ c.op ∧ c.op ≤ 23 then reg c.a && reg c.b && reg c.imm
  else if 30 ≤ c.op ∧ c.op ≤ 39 then reg c.a && reg c.b && near c.imm
  else if c.op = 40 then zero c.a && zero c.b && near c.imm
  else if c.op = 41 ∨ c.op = 43 ∨ c.op = 44 then zero c.a && zero c.b && zero c.imm
  else if c.op = 48 then zero c.a && zero c.b && trapN c.imm
  else false
def up (n : Int) : Int := if n < 0 then n + 65536 else n
def wordP (c : PC) : Int := c.op * 16777216 + c.a * 1048576 + c.b * 65536 + up c.imm
def encP (c : PC) : Int × Int := if isOp c.op then (if mayP c then (wordP c, 0) else (0, 161)) else (0, 160)
def noC : PC := ⟨0, 0, 0, 0⟩
def cutP (w : Int) : PC := ⟨w / 16777216, w / 1048576 % 16, w / 65536 % 16, w % 65536⟩
def decP (w : Int) : PC × Int :=
  let c := cutP w
  if isOp c.op then
    (if mayP c then (c, 0) else if 32768 ≤ c.imm then (let d := { c with imm := c.imm - 65536 }; if mayP d then (d, 0) else (noC, 161)) else (noC, 161))
  else (noC, 160)
def followsP (op : Int) : Int := if op = 2 ∨ op = 41 ∨ op = 43 then 1 else if op = 42 then -1 else 0

theorem ex1 : encP ⟨1, 3, 0, -2⟩ = (0x0130fffe, 0) := by decide
theorem ex2 : decP 0x1e01ff80 = (⟨30, 0, 1, -128⟩, 0) := by decide
theorem ex3 : encP ⟨3, 12, 0, 0⟩ = (0, 161) ∧ encP ⟨0, 0, 0, 0⟩ = (0, 160) ∧ encP ⟨49, 0, 0, 0⟩ = (0, 160) ∧ decP 0x1e010080 = (noC, 161) ∧ decP 1 = (noC, 160) := by decide

/-- What an instruction's fields are at most. -/
structure Within (c : PC) : Prop where
  op : 1 ≤ c.op ∧ c.op ≤ 48
  a : 0 ≤ c.a ∧ c.a ≤ 11
  b : 0 ≤ c.b ∧ c.b ≤ 11
  imm : -32768 ≤ c.imm ∧ c.imm ≤ 32767
theorem within {c : PC} (h : mayP c = true) : Within c := by
  unfold mayP reg zero wide near trapN at h
  constructor <;> (repeat' split at h) <;> simp at h <;> omega
theorem up_range {n : Int} (h : -32768 ≤ n ∧ n ≤ 32767) : 0 ≤ up n ∧ up n ≤ 65535 := by unfold up; split <;> omega
theorem encP_ok {c : PC} {x : Int} (h : encP c = (x, 0)) : mayP c = true ∧ x = wordP c := by
  unfold encP at h
  (repeat' split at h) <;> simp at h
  exact ⟨by assumption, h.symm⟩
theorem wordP_range {c : PC} (h : Within c) : 0 ≤ wordP c ∧ wordP c ≤ 4294967295 := by
  obtain ⟨h1, h2, h3, h4⟩ := h
  have := up_range h4
  unfold wordP; omega
theorem cut_word {c : PC} (h : Within c) : cutP (wordP c) = { c with imm := up c.imm } := by
  obtain ⟨h1, h2, h3, h4⟩ := h
  have := up_range h4
  obtain ⟨op, a, b, i⟩ := c
  unfold cutP wordP
  simp only [PC.mk.injEq] at *
  refine ⟨?_, ?_, ?_, ?_⟩ <;> omega
theorem isOp_of {c : PC} (h : Within c) : isOp c.op = true := by have := h.op; unfold isOp; simpa using this
/-- A number of the greater half may stand nowhere as it is. -/
theorem not_may {c : PC} (h : 32768 ≤ c.imm) : mayP c = false := by
  unfold mayP reg zero wide near trapN
  (repeat' split) <;> simp <;> omega
theorem dec_enc {c : PC} (h : mayP c = true) : decP (wordP c) = (c, 0) := by
  have hw := within h
  unfold decP
  simp only [cut_word hw, isOp_of hw, if_true]
  have h4 := hw.imm
  by_cases hn : c.imm < 0
  · have e : up c.imm = c.imm + 65536 := by unfold up; rw [if_pos hn]
    rw [e, not_may (c := { c with imm := c.imm + 65536 }) (by simp only; omega)]
    have e2 : ({ c with imm := c.imm + 65536 - 65536 } : PC) = c := by
      obtain ⟨op, a, b, i⟩ := c
      simp only [PC.mk.injEq, true_and]; omega
    simp only [Bool.false_eq_true, if_false]
    rw [if_pos (by omega), e2, if_pos h]
  · have e : up c.imm = c.imm := by unfold up; rw [if_neg hn]
    rw [e]
    rw [if_pos h]
theorem back1 {c : PC} {x : Int} (h : encP c = (x, 0)) : decP x = (c, 0) := by
  obtain ⟨h1, rfl⟩ := encP_ok h
  exact dec_enc h1
theorem up_cut {n : Int} (h : 0 ≤ n ∧ n ≤ 32767) : up n = n := by unfold up; rw [if_neg (by omega)]
theorem word_cut {w : Int} (_hw : 0 ≤ w ∧ w ≤ 4294967295) (h : mayP (cutP w) = true) : wordP (cutP w) = w := by
  have h4 := (within h).imm
  unfold cutP at h4
  simp only at h4
  unfold wordP
  have e : up (cutP w).imm = w % 65536 := by unfold cutP; simp only; rw [up_cut (by omega)]
  rw [e]
  unfold cutP
  simp only
  omega
theorem back2 {w : Int} (hw : 0 ≤ w ∧ w ≤ 4294967295) {d : PC} (h : decP w = (d, 0)) : encP d = (w, 0) := by
  unfold decP at h
  simp only at h
  split at h
  case isFalse => simp at h
  case isTrue ho =>
  split at h
  · have hm : mayP (cutP w) = true := by assumption
    simp at h
    subst h
    unfold encP
    rw [if_pos ho, if_pos hm, word_cut hw hm]
  · split at h
    · split at h
      · rename_i h1 h2 h3
        simp at h
        subst h
        unfold encP
        simp only
        rw [if_pos ho, if_pos h3]
        simp only [Prod.mk.injEq, and_true]
        unfold wordP
        simp only
        have e : up ((cutP w).imm - 65536) = (cutP w).imm := by
          unfold up
          rw [if_pos (by unfold cutP; simp only; omega)]; omega
        rw [e]
        unfold cutP
        simp only
        omega
      · simp at h
    · simp at h
theorem apart {c d : PC} {x : Int} (h : encP c = (x, 0)) (k : encP d = (x, 0)) : c = d := by
  have h1 := back1 h
  rw [back1 k] at h1
  simp at h1
  exact h1.symm
end Go.Proofs.YtmnhafncdblklaaDoor.Enc
namespace Go.Proofs.YtmnhafncdblklaaDoor.Relax
open Go.Proofs.YtmnhafncdblklaaDoor.Enc

structure PL where
  op : Int
  a : Int
  b : Int
  imm : Int
  n : Int
  label : Int
  list : List Int
deriving DecidableEq
def isBr (l : PL) : Bool := branchOp l.op || l.op == 40
def goesB (l : PL) : Bool := isBr l || (l.op == 41 || l.op == 43)
/-- How many words a line makes. -/
def sizeP (l : PL) (long : Bool) : Nat :=
  if l.op = 0 then 0
  else if branchOp l.op && long then 3
  else if (l.op = 40 ∧ long = true) ∨ l.op = 41 ∨ l.op = 43 ∨ l.op = 2 then 2
  else if l.op = 42 then 2 + l.list.length
  else 1
def nearB (d : Int) : Bool := decide (-128 ≤ d ∧ d ≤ 127)
def lineAt (l : List PL) (i : Nat) : PL := l.getD i ⟨0, 0, 0, 0, 0, 0, []⟩
def longAt (g : List Bool) (i : Nat) : Bool := g.getD i false
/-- How many words stand ahead of a line. -/
def placeP (l : List PL) (g : List Bool) : Nat → Nat
  | 0 => 0
  | i + 1 => placeP l g i + sizeP (lineAt l i) (longAt g i)
/-- The last line at which a label stands, of so many. -/
def standsAt (l : List PL) (lab : Int) : Nat → Option Nat
  | 0 => none
  | i + 1 => if (lineAt l i).op = 0 ∧ (lineAt l i).label = lab then some i else standsAt l lab i
def atP (l : List PL) (g : List Bool) (lab : Int) : Int := match standsAt l lab l.length with | none => -1 | some t => placeP l g t
def dispP (l : List PL) (g : List Bool) (i : Nat) : Int := atP l g (lineAt l i).label - placeP l g i - 1
def roundP (l : List PL) (g : List Bool) : List Bool := (List.range l.length).map fun i => longAt g i || (isBr (lineAt l i) && !nearB (dispP l g i))
/-- Rounds, until one makes none long: what is long then, and how many there were. -/
def settle (l : List PL) : Nat → List Bool → List Bool × Nat
  | 0, g => (g, 0)
  | k + 1, g => if roundP l g = g then (g, 1) else ((settle l k (roundP l g)).1, (settle l k (roundP l g)).2 + 1)
def noneLong (l : List PL) : List Bool := List.replicate l.length false
def branchesP (l : List PL) : Nat := (l.filter isBr).length
def longP (l : List PL) : List Bool × Nat := settle l (branchesP l + 1) (noneLong l)

/-- What is long here is long there. -/
def Le (g h : List Bool) : Prop := ∀ i, longAt g i = true → longAt h i = true
theorem longAt_round (l : List PL) (g : List Bool) (i : Nat) : longAt (roundP l g) i = (decide (i < l.length) && (longAt g i || (isBr (lineAt l i) && !nearB (dispP l g i)))) := by
  unfold roundP longAt
  rw [List.getD_eq_getElem?_getD, List.getElem?_map]
  rcases Nat.lt_or_ge i l.length with h | h
  · rw [List.getElem?_range h]; simp [h]
  · rw [List.getElem?_eq_none (by simp; omega)]; simp; omega
theorem br_size (x : PL) (h : isBr x = true) : sizeP x false = 1 := by
  unfold isBr branchOp at h
  unfold sizeP
  simp at h
  have h0 : ¬ x.op = 0 := by omega
  rw [if_neg h0, if_neg (by simp), if_neg (by simp; omega), if_neg (by omega)]
theorem size_le (x : PL) (b c : Bool) (h : b = true → c = true) : sizeP x b ≤ sizeP x c := by
  cases b <;> cases c
  · exact Nat.le_refl _
  · unfold sizeP branchOp
    (repeat' split) <;> first | omega | (simp_all; done) | (simp_all; omega)
  · exact absurd (h rfl) (by simp)
  · exact Nat.le_refl _
/-- Between two lines there are no fewer words where more is long. -/
theorem between_le {l : List PL} {g h : List Bool} (hgh : Le g h) : ∀ (i d : Nat), placeP l g (i + d) + placeP l h i ≤ placeP l h (i + d) + placeP l g i
  | i, 0 => by simp only [Nat.add_zero]; omega
  | i, d + 1 => by
    have ih := between_le (l := l) hgh i d
    have hs := size_le (lineAt l (i + d)) (longAt g (i + d)) (longAt h (i + d)) (hgh (i + d))
    rw [show i + (d + 1) = (i + d) + 1 by omega]
    show placeP l g (i + d) + sizeP _ _ + placeP l h i ≤ placeP l h (i + d) + sizeP _ _ + placeP l g i
    omega
theorem place_mono (l : List PL) (g : List Bool) : ∀ (i d : Nat), placeP l g i ≤ placeP l g (i + d)
  | i, 0 => Nat.le_refl _
  | i, d + 1 => by
    have := place_mono l g i d
    rw [show i + (d + 1) = (i + d) + 1 by omega]
    show _ ≤ placeP l g (i + d) + _
    omega
/-- What reaches where more is long reaches where less is. -/
theorem near_less {l : List PL} {g h : List Bool} (hgh : Le g h) {i : Nat} (hb : isBr (lineAt l i) = true) (hi : longAt h i = false) (hs : (standsAt l (lineAt l i).label l.length).isSome = true) (hn : nearB (dispP l h i) = true) : nearB (dispP l g i) = true := by
  have hg : longAt g i = false := by
    cases hx : longAt g i with
    | false => rfl
    | true => rw [hgh i hx] at hi; cases hi
  obtain ⟨t, ht⟩ := Option.isSome_iff_exists.1 hs
  unfold dispP atP nearB at hn ⊢
  rw [ht] at hn ⊢
  simp only [decide_eq_true_eq] at hn ⊢
  rcases Nat.lt_or_ge i t with h1 | h1
  · have e1 : placeP l g (i + 1) = placeP l g i + 1 := by show placeP l g i + sizeP _ _ = _; rw [hg, br_size _ hb]
    have e2 : placeP l h (i + 1) = placeP l h i + 1 := by show placeP l h i + sizeP _ _ = _; rw [hi, br_size _ hb]
    obtain ⟨d, rfl⟩ := Nat.exists_eq_add_of_lt h1
    have k1 := between_le (l := l) hgh (i + 1) d
    have k2 := place_mono l g (i + 1) d
    rw [show i + 1 + d = i + d + 1 by omega] at k1 k2
    omega
  · obtain ⟨d, rfl⟩ := Nat.exists_eq_add_of_le h1
    have k1 := between_le (l := l) hgh t d
    have k2 := place_mono l g t d
    omega
/-- A choice in which all that is short reaches. -/
def Reaches (l : List PL) (h : List Bool) : Prop := ∀ i, i < l.length → isBr (lineAt l i) = true → longAt h i = false → nearB (dispP l h i) = true
/-- Each branch's label stands somewhere. -/
def Stand (l : List PL) : Prop := ∀ i, i < l.length → isBr (lineAt l i) = true → (standsAt l (lineAt l i).label l.length).isSome = true
theorem round_le {l : List PL} {g h : List Bool} (hl : Stand l) (hr : Reaches l h) (hgh : Le g h) : Le (roundP l g) h := fun i hi => by
  rw [longAt_round] at hi
  simp only [Bool.and_eq_true, Bool.or_eq_true, decide_eq_true_eq, Bool.not_eq_true'] at hi
  obtain ⟨h1, h2 | ⟨h2, h3⟩⟩ := hi
  · exact hgh i h2
  · cases hx : longAt h i with
    | true => rfl
    | false => rw [near_less hgh h2 hx (hl i h1 h2) (hr i h1 h2 hx)] at h3; cases h3
theorem settle_le {l : List PL} {h : List Bool} (hl : Stand l) (hr : Reaches l h) : ∀ (k : Nat) (g : List Bool), Le g h → Le (settle l k g).1 h
  | 0, _, hg => hg
  | k + 1, g, hg => by
    unfold settle
    by_cases e : roundP l g = g
    · rw [if_pos e]; exact hg
    · rw [if_neg e]; exact settle_le hl hr k _ (round_le hl hr hg)
/-- The least long set. -/
theorem least {l : List PL} {h : List Bool} (hl : Stand l) (hr : Reaches l h) : Le (longP l).1 h :=
  settle_le hl hr _ _ fun i hi => by
    unfold noneLong longAt at hi
    rw [List.getD_eq_getElem?_getD] at hi
    rcases Nat.lt_or_ge i l.length with h1 | h1
    · rw [List.getElem?_replicate, if_pos h1] at hi; cases hi
    · rw [List.getElem?_eq_none (by simpa using h1)] at hi; cases hi
end Go.Proofs.YtmnhafncdblklaaDoor.Relax
namespace Go.Proofs.YtmnhafncdblklaaDoor.Relax
open Go.Proofs.YtmnhafncdblklaaDoor.Enc

def cntN (g : List Bool) : Nat → Nat
  | 0 => 0
  | i + 1 => cntN g i + (if longAt g i then 1 else 0)
def brN (l : List PL) : Nat → Nat
  | 0 => 0
  | i + 1 => brN l i + (if isBr (lineAt l i) then 1 else 0)
theorem brN_snoc (l : List PL) (x : PL) : ∀ i, i ≤ l.length → brN (l ++ [x]) i = brN l i
  | 0, _ => rfl
  | i + 1, h => by
    have e : lineAt (l ++ [x]) i = lineAt l i := by
      unfold lineAt
      rw [List.getD_eq_getElem?_getD, List.getD_eq_getElem?_getD, List.getElem?_append_left (by omega)]
    unfold brN
    rw [brN_snoc l x i (by omega), e]
theorem brN_all (l : List PL) : brN l l.length = branchesP l := by
  unfold branchesP
  suffices h : ∀ (r : List PL), brN r.reverse r.length = (r.reverse.filter isBr).length by
    have := h l.reverse
    simpa using this
  intro r
  induction r with
  | nil => rfl
  | cons x r ih =>
    have hl : r.reverse.length = r.length := List.length_reverse
    rw [List.reverse_cons, List.length_cons]
    unfold brN
    rw [brN_snoc _ _ _ (by omega), ih, List.filter_append, List.length_append]
    have e : lineAt (r.reverse ++ [x]) r.length = x := by
      unfold lineAt
      rw [List.getD_eq_getElem?_getD, List.getElem?_append_right (by omega), hl]; simp
    rw [e]
    cases h : isBr x <;> simp [h]
theorem cnt_le {g h : List Bool} (hgh : Le g h) : ∀ n, cntN g n ≤ cntN h n
  | 0 => Nat.le_refl _
  | n + 1 => by
    have ih := cnt_le hgh n
    have hn := hgh n
    unfold cntN
    cases hg : longAt g n <;> cases hh : longAt h n <;> simp_all <;> omega
theorem cnt_lt {g h : List Bool} (hgh : Le g h) {i : Nat} (h1 : longAt g i = false) (h2 : longAt h i = true) : ∀ n, i < n → cntN g n < cntN h n
  | 0, hi => absurd hi (by omega)
  | n + 1, hi => by
    unfold cntN
    rcases Nat.lt_or_ge i n with h3 | h3
    · have ih := cnt_lt hgh h1 h2 n h3
      have hn := hgh n
      cases hg : longAt g n <;> cases hh : longAt h n <;> simp_all <;> omega
    · have e : i = n := by omega
      subst e
      have := cnt_le hgh i
      simp [h1, h2]; omega
theorem cnt_br {l : List PL} {g : List Bool} (h : ∀ i, longAt g i = true → isBr (lineAt l i) = true) : ∀ n, cntN g n ≤ brN l n
  | 0 => Nat.le_refl _
  | n + 1 => by
    have ih := cnt_br h n
    have hn := h n
    unfold cntN brN
    cases hg : longAt g n
    · cases hb : isBr (lineAt l n) <;> simp <;> omega
    · rw [hn hg]; simp; exact ih
/-- Only branches are long, and only lines of the list. -/
structure Sub (l : List PL) (g : List Bool) : Prop where
  len : g.length = l.length
  br : ∀ i, longAt g i = true → isBr (lineAt l i) = true
theorem sub_none (l : List PL) : Sub l (noneLong l) := by
  refine ⟨by simp [noneLong], fun i hi => ?_⟩
  unfold noneLong longAt at hi
  rw [List.getD_eq_getElem?_getD] at hi
  rcases Nat.lt_or_ge i l.length with h1 | h1
  · rw [List.getElem?_replicate, if_pos h1] at hi; cases hi
  · rw [List.getElem?_eq_none (by simpa using h1)] at hi; cases hi
theorem sub_round {l : List PL} {g : List Bool} (h : Sub l g) : Sub l (roundP l g) := by
  refine ⟨by simp [roundP], fun i hi => ?_⟩
  rw [longAt_round] at hi
  simp only [Bool.and_eq_true, Bool.or_eq_true, decide_eq_true_eq] at hi
  rcases hi.2 with h2 | h2
  · exact h.br i h2
  · exact h2.1
theorem le_round {l : List PL} {g : List Bool} (h : Sub l g) : Le g (roundP l g) := fun i hi => by
  rw [longAt_round, hi]
  have : i < l.length := by
    rcases Nat.lt_or_ge i l.length with h1 | h1
    · exact h1
    · unfold longAt at hi
      rw [List.getD_eq_getElem?_getD, List.getElem?_eq_none (by rw [h.len]; exact h1)] at hi
      cases hi
  simp [this]
theorem ext_long {g h : List Bool} (hl : g.length = h.length) (he : ∀ i, longAt g i = longAt h i) : g = h := by
  apply List.ext_getElem? 
  intro i
  rcases Nat.lt_or_ge i g.length with h1 | h1
  · have h2 := he i
    unfold longAt at h2
    rw [List.getD_eq_getElem?_getD, List.getD_eq_getElem?_getD, List.getElem?_eq_getElem h1, List.getElem?_eq_getElem (by omega)] at h2
    rw [List.getElem?_eq_getElem h1, List.getElem?_eq_getElem (by omega)]
    simpa using h2
  · rw [List.getElem?_eq_none h1, List.getElem?_eq_none (by omega)]
/-- A round that changes something makes one more long. -/
theorem round_more {l : List PL} {g : List Bool} (h : Sub l g) (hne : roundP l g ≠ g) : cntN g l.length < cntN (roundP l g) l.length := by
  have hle := le_round h
  have hex : ∃ i, longAt g i = false ∧ longAt (roundP l g) i = true := by
    rcases Classical.em (∃ i, longAt g i = false ∧ longAt (roundP l g) i = true) with h1 | h1
    · exact h1
    · exfalso
      refine hne (ext_long (by rw [(sub_round h).len, h.len]) fun i => ?_)
      cases hg : longAt g i with
      | true => exact hle i hg
      | false =>
        cases hh : longAt (roundP l g) i with
        | false => rfl
        | true => exact absurd ⟨i, hg, hh⟩ h1
  obtain ⟨i, h1, h2⟩ := hex
  have hi : i < l.length := by
    rw [longAt_round] at h2
    simp only [Bool.and_eq_true, decide_eq_true_eq] at h2
    exact h2.1
  exact cnt_lt hle h1 h2 _ hi
theorem settle_ends {l : List PL} : ∀ (k : Nat) (g : List Bool), Sub l g → branchesP l + 1 ≤ k + cntN g l.length → 1 ≤ k →
    roundP l (settle l k g).1 = (settle l k g).1 ∧ 1 ≤ (settle l k g).2 ∧ (settle l k g).2 ≤ k ∧ Sub l (settle l k g).1 ∧ Le g (settle l k g).1
  | 0, _, _, _, hk => absurd hk (by omega)
  | k + 1, g, hs, hc, _ => by
    unfold settle
    by_cases e : roundP l g = g
    · rw [if_pos e]; exact ⟨e, Nat.le_refl _, by simp only; omega, hs, fun _ h => h⟩
    · rw [if_neg e]
      have h1 := round_more hs e
      have h2 := cnt_br (sub_round hs).br l.length
      rw [brN_all] at h2
      have hk : 1 ≤ k := by omega
      obtain ⟨a, b, c, d, f⟩ := settle_ends k (roundP l g) (sub_round hs) (by omega) hk
      exact ⟨a, by simp only; omega, by simp only; omega, d, fun i hi => f i (le_round hs i hi)⟩
/-- The rounds end; how many there are. -/
theorem long_facts (l : List PL) : roundP l (longP l).1 = (longP l).1 ∧ 1 ≤ (longP l).2 ∧ (longP l).2 ≤ branchesP l + 1 ∧ Sub l (longP l).1 := by
  obtain ⟨a, b, c, d, _⟩ := settle_ends (branchesP l + 1) (noneLong l) (sub_none l) (by omega) (by omega)
  exact ⟨a, b, c, d⟩
/-- All that is short at the end reaches. -/
theorem long_reaches (l : List PL) : Reaches l (longP l).1 := fun i hi hb hs => by
  have h := (long_facts l).1
  have h1 := congrArg (fun g => longAt g i) h
  simp only [longAt_round, hs, hb, hi, decide_true, Bool.true_and, Bool.false_or] at h1
  simpa using h1
end Go.Proofs.YtmnhafncdblklaaDoor.Relax
namespace Go.Proofs.YtmnhafncdblklaaDoor.Relax
open Go.Proofs.YtmnhafncdblklaaDoor.Enc

/-- Where a line of the shorter list stood. -/
def was (p k : Nat) : Nat := if k < p then k else k + 1
/-- l without its line p. -/
structure Cut (l m : List PL) (p : Nat) : Prop where
  at_ : p < l.length
  len : m.length + 1 = l.length
  line : ∀ k, lineAt m k = lineAt l (was p k)
theorem cut_erase (l : List PL) (p : Nat) (h : p < l.length) : Cut l (l.take p ++ l.drop (p + 1)) p := by
  refine ⟨h, by rw [List.length_append, List.length_take, List.length_drop]; omega, fun k => ?_⟩
  unfold lineAt was
  rw [List.getD_eq_getElem?_getD, List.getD_eq_getElem?_getD]
  congr 1
  by_cases hk : k < p
  · rw [if_pos hk, List.getElem?_append_left (by rw [List.length_take]; omega), List.getElem?_take_of_lt hk]
  · rw [if_neg hk, List.getElem?_append_right (by rw [List.length_take]; omega), List.getElem?_drop, List.length_take]
    congr 1
    omega
/-- The long set of the list, seen from the shorter one. -/
def seen (m : List PL) (p : Nat) (g : List Bool) : List Bool := (List.range m.length).map fun k => longAt g (was p k)
theorem longAt_seen (m : List PL) (p : Nat) (g : List Bool) (k : Nat) : longAt (seen m p g) k = (decide (k < m.length) && longAt g (was p k)) := by
  unfold seen
  rw [show longAt (List.map (fun k => longAt g (was p k)) (List.range m.length)) k = ((List.map (fun k => longAt g (was p k)) (List.range m.length))[k]?).getD false from List.getD_eq_getElem?_getD]
  rw [List.getElem?_map]
  rcases Nat.lt_or_ge k m.length with h | h
  · rw [List.getElem?_range h]; simp [h]
  · rw [List.getElem?_eq_none (by simp; omega)]; simp; omega
section
variable {l m : List PL} {p z : Nat}
/-- How places go together: z is how many words the line p makes. -/
theorem place_cut (hc : Cut l m p) (g : List Bool) (hz : ∀ b, sizeP (lineAt l p) b = z) : ∀ k, k ≤ m.length → placeP m (seen m p g) k + (if k ≤ p then 0 else z) = placeP l g (if k ≤ p then k else k + 1)
  | 0, _ => by simp [placeP]
  | k + 1, hk => by
    have ih := place_cut hc g hz k (by omega)
    show placeP m (seen m p g) k + sizeP (lineAt m k) (longAt (seen m p g) k) + _ = _
    rw [hc.line k, longAt_seen]
    have hd : decide (k < m.length) = true := decide_eq_true (by omega)
    rw [hd, Bool.true_and]
    unfold was
    by_cases h1 : k + 1 ≤ p
    · rw [if_pos h1, if_pos h1, if_pos (by omega)]
      rw [if_pos (by omega), if_pos (by omega)] at ih
      show _ = placeP l g k + _
      omega
    · rw [if_neg h1, if_neg h1, if_neg (by omega)]
      by_cases h2 : k ≤ p
      · have e : k = p := by omega
        subst e
        rw [if_pos (Nat.le_refl _), if_pos (Nat.le_refl _)] at ih
        show _ = placeP l g k + sizeP (lineAt l k) (longAt g k) + sizeP (lineAt l (k + 1)) (longAt g (k + 1))
        rw [hz]; omega
      · rw [if_neg h2, if_neg h2] at ih
        show _ = placeP l g (k + 1) + sizeP (lineAt l (k + 1)) (longAt g (k + 1))
        omega
/-- Where labels stand. -/
theorem stands_cut (hc : Cut l m p) (lab : Int) (hp : ¬((lineAt l p).op = 0 ∧ (lineAt l p).label = lab)) : ∀ k, k ≤ m.length → (standsAt m lab k).map (was p) = standsAt l lab (if k ≤ p then k else k + 1)
  | 0, _ => by simp [standsAt]
  | k + 1, hk => by
    have ih := stands_cut hc lab hp k (by omega)
    show (if (lineAt m k).op = 0 ∧ (lineAt m k).label = lab then some k else standsAt m lab k).map (was p) = _
    rw [hc.line k]
    by_cases h1 : k + 1 ≤ p
    · rw [if_pos h1]
      rw [if_pos (by omega)] at ih
      have e : was p k = k := by unfold was; rw [if_pos (by omega)]
      show _ = if (lineAt l k).op = 0 ∧ (lineAt l k).label = lab then some k else standsAt l lab k
      rw [e]
      split
      · simp [e]
      · exact ih
    · rw [if_neg h1]
      have e : was p k = k + 1 := by unfold was; rw [if_neg (by omega)]
      show _ = if (lineAt l (k + 1)).op = 0 ∧ (lineAt l (k + 1)).label = lab then some (k + 1) else standsAt l lab (k + 1)
      rw [e]
      split
      · simp [e]
      · by_cases h2 : k ≤ p
        · have e2 : k = p := by omega
          subst e2
          rw [if_pos (Nat.le_refl _)] at ih
          show _ = if (lineAt l k).op = 0 ∧ (lineAt l k).label = lab then some k else standsAt l lab k
          rw [if_neg hp]; exact ih
        · rw [if_neg h2] at ih; exact ih
theorem was_lt (hc : Cut l m p) {k : Nat} (hk : k < m.length) : was p k < l.length := by
  have := hc.len
  unfold was; split <;> omega
theorem was_ne (p k : Nat) : was p k ≠ p := by unfold was; split <;> omega
/-- Where a label stands, and its place, in both. -/
theorem at_cut (hc : Cut l m p) (g : List Bool) (hz : ∀ b, sizeP (lineAt l p) b = z) {lab : Int} (hp : ¬((lineAt l p).op = 0 ∧ (lineAt l p).label = lab)) {t : Nat} (ht : standsAt l lab l.length = some t) :
    ∃ s, standsAt m lab m.length = some s ∧ was p s = t ∧ s < m.length ∧ (placeP m (seen m p g) s : Int) = placeP l g t - (if p < t then (z : Int) else 0) := by
  have h := stands_cut hc lab hp m.length (Nat.le_refl _)
  have e : standsAt l lab (if m.length ≤ p then m.length else m.length + 1) = standsAt l lab l.length := by
    have k1 := hc.at_
    have k2 := hc.len
    by_cases k3 : m.length ≤ p
    · have k4 : p = m.length := by omega
      rw [if_pos k3, ← k2, ← k4]
      show _ = if (lineAt l p).op = 0 ∧ (lineAt l p).label = lab then some p else standsAt l lab p
      rw [if_neg hp]
    · rw [if_neg k3, k2]
  rw [e, ht] at h
  cases hs : standsAt m lab m.length with
  | none => rw [hs] at h; cases h
  | some s =>
    rw [hs] at h
    simp only [Option.map_some, Option.some.injEq] at h
    have hlt : s < m.length := by
      have key : ∀ n s, standsAt m lab n = some s → s < n := by
        intro n
        induction n with
        | zero => intro s h; cases h
        | succ n ih =>
          intro s h
          unfold standsAt at h
          split at h
          · injection h with h; omega
          · have := ih s h; omega
      exact key _ _ hs
    refine ⟨s, rfl, h, hlt, ?_⟩
    have hpl := place_cut hc g hz s (by omega)
    unfold was at h
    by_cases h1 : s < p
    · rw [if_pos h1] at h
      rw [if_pos (by omega), if_pos (by omega)] at hpl
      rw [if_neg (by omega)]
      subst h; omega
    · rw [if_neg h1] at h
      by_cases h2 : s = p
      · subst h2
        rw [if_pos (Nat.le_refl _), if_pos (Nat.le_refl _)] at hpl
        subst h
        rw [if_pos (by omega)]
        have e3 : placeP l g (s + 1) = placeP l g s + z := by show placeP l g s + sizeP _ _ = _; rw [hz]
        omega
      · rw [if_neg (by omega), if_neg (by omega)] at hpl
        rw [if_pos (by omega)]
        subst h; omega
theorem place_was (hc : Cut l m p) (g : List Bool) (hz : ∀ b, sizeP (lineAt l p) b = z) {k : Nat} (hk : k < m.length) : (placeP m (seen m p g) k : Int) = placeP l g (was p k) - (if p < was p k then (z : Int) else 0) := by
  have hpl := place_cut hc g hz k (by omega)
  unfold was
  by_cases h1 : k < p
  · rw [if_pos h1, if_neg (by omega)]
    rw [if_pos (by omega), if_pos (by omega)] at hpl
    omega
  · rw [if_neg h1, if_pos (by omega)]
    by_cases h2 : k = p
    · subst h2
      rw [if_pos (Nat.le_refl _), if_pos (Nat.le_refl _)] at hpl
      have e3 : placeP l g (k + 1) = placeP l g k + z := by show placeP l g k + sizeP _ _ = _; rw [hz]
      omega
    · rw [if_neg (by omega), if_neg (by omega)] at hpl
      omega
/-- How displacements go together. -/
theorem disp_cut (hc : Cut l m p) (g : List Bool) (hz : ∀ b, sizeP (lineAt l p) b = z) {k : Nat} (hk : k < m.length) (hp : ¬((lineAt l p).op = 0 ∧ (lineAt l p).label = (lineAt l (was p k)).label))
    {t : Nat} (ht : standsAt l (lineAt l (was p k)).label l.length = some t) :
    dispP m (seen m p g) k = dispP l g (was p k) - (if p < t then (z : Int) else 0) + (if p < was p k then (z : Int) else 0) := by
  obtain ⟨s, h1, _, _, h4⟩ := at_cut hc g hz hp ht
  have h5 := place_was hc g hz hk
  unfold dispP atP
  rw [hc.line k, h1, ht]
  simp only
  omega
/-- Without a line of one word that is no branch and no label, no branch becomes long. -/
theorem shrinks (hc : Cut l m p) (hz : ∀ b, sizeP (lineAt l p) b = 1) (_hnb : isBr (lineAt l p) = false) (ho : (lineAt l p).op ≠ 0) (hl : Stand l) {k : Nat} (h : longAt (longP m).1 k = true) : longAt (longP l).1 (was p k) = true := by
  have hm : Stand m := fun i hi hb => by
    rw [hc.line i] at hb ⊢
    have := hl (was p i) (was_lt hc hi) hb
    obtain ⟨t, ht⟩ := Option.isSome_iff_exists.1 this
    obtain ⟨s, h1, _⟩ := at_cut hc (noneLong l) hz (fun e => ho e.1) ht
    rw [h1]; rfl
  have hr : Reaches m (seen m p (longP l).1) := fun i hi hb hs => by
    rw [hc.line i] at hb
    rw [longAt_seen, decide_eq_true hi, Bool.true_and] at hs
    have hn := long_reaches l (was p i) (was_lt hc hi) hb hs
    obtain ⟨t, ht⟩ := Option.isSome_iff_exists.1 (hl (was p i) (was_lt hc hi) hb)
    have hd := disp_cut hc (longP l).1 hz hi (fun e => ho e.1) ht
    have hw : placeP l (longP l).1 (was p i + 1) = placeP l (longP l).1 (was p i) + 1 := by show placeP l _ (was p i) + sizeP _ _ = _; rw [hs, br_size _ hb]
    have hpp : placeP l (longP l).1 (p + 1) = placeP l (longP l).1 p + 1 := by show placeP l _ p + sizeP _ _ = _; rw [hz]
    have hdl : dispP l (longP l).1 (was p i) = (placeP l (longP l).1 t : Int) - placeP l (longP l).1 (was p i) - 1 := by unfold dispP atP; rw [ht]
    have hne := was_ne p i
    have hmono : ∀ a b, a ≤ b → placeP l (longP l).1 a ≤ placeP l (longP l).1 b := fun a b hab => by
      obtain ⟨d, rfl⟩ := Nat.exists_eq_add_of_le hab
      exact place_mono l _ a d
    have ht0 : t ≠ p := fun e => by
      have key : ∀ n s, standsAt l (lineAt l (was p i)).label n = some s → (lineAt l s).op = 0 := by
        intro n
        induction n with
        | zero => intro s h; cases h
        | succ n ih =>
          intro s h
          unfold standsAt at h
          split at h
          · rename_i hh; injection h with h; subst h; exact hh.1
          · exact ih s h
      have := key _ _ ht
      rw [e] at this
      exact ho this
    unfold nearB at hn ⊢
    simp only [decide_eq_true_eq] at hn ⊢
    rw [hd]
    by_cases c1 : p < t
    · by_cases c2 : p < was p i
      · rw [if_pos c1, if_pos c2]; omega
      · rw [if_pos c1, if_neg c2]
        have m1 := hmono (was p i + 1) p (by omega)
        have m2 := hmono (p + 1) t (by omega)
        omega
    · by_cases c2 : p < was p i
      · rw [if_neg c1, if_pos c2]
        have m1 := hmono t p (by omega)
        have m2 := hmono (p + 1) (was p i) (by omega)
        omega
      · rw [if_neg c1, if_neg c2]; omega
  have h2 := least hm hr k h
  rw [longAt_seen] at h2
  simp only [Bool.and_eq_true] at h2
  exact h2.2
end
end Go.Proofs.YtmnhafncdblklaaDoor.Relax
namespace Go.Proofs.YtmnhafncdblklaaDoor.Relax
open Go.Proofs.YtmnhafncdblklaaDoor.Enc
section
variable {l m : List PL} {p : Nat}
/-- The line p of l is a label to which no branch of m goes. -/
structure Idle (l m : List PL) (p : Nat) : Prop where
  cut : Cut l m p
  op : (lineAt l p).op = 0
  un : ∀ i, i < m.length → isBr (lineAt m i) = true → (lineAt m i).label ≠ (lineAt l p).label
theorem label_size {x : PL} (h : x.op = 0) (b : Bool) : sizeP x b = 0 := by unfold sizeP; rw [if_pos h]
theorem label_br {x : PL} (h : x.op = 0) : isBr x = false := by unfold isBr branchOp; rw [h]; decide
/-- Labels stand in the longer list where they stand in the shorter one. -/
theorem stands_up (hc : Cut l m p) {lab : Int} (hp : ¬((lineAt l p).op = 0 ∧ (lineAt l p).label = lab)) : (standsAt l lab l.length).isSome = (standsAt m lab m.length).isSome := by
  have h := stands_cut hc lab hp m.length (Nat.le_refl _)
  have k1 := hc.at_
  have k2 := hc.len
  have e : standsAt l lab (if m.length ≤ p then m.length else m.length + 1) = standsAt l lab l.length := by
    by_cases k3 : m.length ≤ p
    · have k4 : p = m.length := by omega
      rw [if_pos k3, ← k2, ← k4]
      show _ = if (lineAt l p).op = 0 ∧ (lineAt l p).label = lab then some p else standsAt l lab p
      rw [if_neg hp]
    · rw [if_neg k3, k2]
  rw [← e, ← h, Option.isSome_map]
theorem round_idle (hi : Idle l m p) (hm : Stand m) {g : List Bool} : roundP m (seen m p g) = seen m p (roundP l g) := by
  refine ext_long (by simp [roundP, seen]) fun k => ?_
  rw [longAt_round, longAt_seen, longAt_seen, longAt_round, hi.cut.line k]
  rcases Nat.lt_or_ge k m.length with hk | hk
  · rw [decide_eq_true hk, decide_eq_true (was_lt hi.cut hk)]
    simp only [Bool.true_and]
    cases hb : isBr (lineAt l (was p k)) with
    | false => simp
    | true =>
      have hbm : isBr (lineAt m k) = true := by rw [hi.cut.line k]; exact hb
      have hun := hi.un k hk hbm
      rw [hi.cut.line k] at hun
      have hp : ¬((lineAt l p).op = 0 ∧ (lineAt l p).label = (lineAt l (was p k)).label) := fun e => hun e.2.symm
      have hs := hm k hk hbm
      rw [hi.cut.line k, ← stands_up hi.cut hp] at hs
      obtain ⟨t, ht⟩ := Option.isSome_iff_exists.1 hs
      have hd := disp_cut (z := 0) hi.cut g (fun b => label_size hi.op b) hk hp ht
      rw [hd]
      simp
  · rw [decide_eq_false (by omega)]; simp
theorem long_p {g : List Bool} (hi : Idle l m p) (hs : Sub l g) : longAt g p = false := by
  cases h : longAt g p with
  | false => rfl
  | true => have := hs.br p h; rw [label_br hi.op] at this; cases this
/-- Two long sets of the longer list that the shorter one sees alike are one. -/
theorem seen_inj {g h : List Bool} (hi : Idle l m p) (hg : Sub l g) (hh : Sub l h) (e : seen m p g = seen m p h) : g = h := by
  refine ext_long (by rw [hg.len, hh.len]) fun i => ?_
  by_cases hip : i = p
  · subst hip; rw [long_p hi hg, long_p hi hh]
  · rcases Nat.lt_or_ge i l.length with h1 | h1
    · have hl := hi.cut.len
      obtain ⟨k, hk, hk2⟩ : ∃ k, was p k = i ∧ k < m.length := by
        by_cases h2 : i < p
        · exact ⟨i, by unfold was; rw [if_pos h2], by have := hi.cut.at_; omega⟩
        · exact ⟨i - 1, by unfold was; rw [if_neg (by omega)]; omega, by omega⟩
      have h3 := congrArg (fun x => longAt x k) e
      simp only [longAt_seen, decide_eq_true hk2, Bool.true_and, hk] at h3
      exact h3
    · unfold longAt
      rw [List.getD_eq_getElem?_getD, List.getD_eq_getElem?_getD, List.getElem?_eq_none (by rw [hg.len]; exact h1), List.getElem?_eq_none (by rw [hh.len]; exact h1)]
theorem settle_idle (hi : Idle l m p) (hm : Stand m) : ∀ (k : Nat) (g : List Bool), Sub l g → settle m k (seen m p g) = (seen m p (settle l k g).1, (settle l k g).2)
  | 0, _, _ => rfl
  | k + 1, g, hs => by
    unfold settle
    rw [round_idle hi hm]
    by_cases e : roundP l g = g
    · rw [if_pos e, if_pos (by rw [e])]
    · rw [if_neg e, if_neg (fun e2 => e (seen_inj hi (sub_round hs) hs e2)), settle_idle hi hm k _ (sub_round hs)]
theorem seen_none (_hc : Cut l m p) : seen m p (noneLong l) = noneLong m := by
  refine ext_long (by simp [seen, noneLong]) fun k => ?_
  have h0 : ∀ (x : List PL) i, longAt (noneLong x) i = false := fun x i => by
    cases h : longAt (noneLong x) i with
    | false => rfl
    | true =>
      unfold noneLong longAt at h
      rw [List.getD_eq_getElem?_getD] at h
      rcases Nat.lt_or_ge i x.length with h1 | h1
      · rw [List.getElem?_replicate, if_pos h1] at h; cases h
      · rw [List.getElem?_eq_none (by simpa using h1)] at h; cases h
  rw [longAt_seen, h0, h0]; simp
theorem br_cut (hc : Cut l m p) (hb : isBr (lineAt l p) = false) : ∀ k, k ≤ m.length → brN m k = brN l (if k ≤ p then k else k + 1)
  | 0, _ => by simp [brN]
  | k + 1, hk => by
    have ih := br_cut hc hb k (by omega)
    show brN m k + (if isBr (lineAt m k) then 1 else 0) = _
    rw [hc.line k]
    by_cases h1 : k + 1 ≤ p
    · have e : was p k = k := by unfold was; rw [if_pos (by omega)]
      rw [if_pos h1, e]
      rw [if_pos (by omega)] at ih
      rw [ih]; rfl
    · have e : was p k = k + 1 := by unfold was; rw [if_neg (by omega)]
      rw [if_neg h1, e]
      by_cases h2 : k ≤ p
      · have e2 : k = p := by omega
        subst e2
        rw [if_pos (Nat.le_refl _)] at ih
        show _ = brN l k + (if isBr (lineAt l k) then 1 else 0) + (if isBr (lineAt l (k + 1)) then 1 else 0)
        rw [hb, ih]; rfl
      · rw [if_neg h2] at ih
        rw [ih]; rfl
theorem branches_cut (hc : Cut l m p) (hb : isBr (lineAt l p) = false) : branchesP m = branchesP l := by
  rw [← brN_all, ← brN_all, br_cut hc hb m.length (Nat.le_refl _)]
  have k1 := hc.at_
  have k2 := hc.len
  by_cases k3 : m.length ≤ p
  · have k4 : p = m.length := by omega
    rw [if_pos k3, ← k2, ← k4]
    show _ = brN l p + (if isBr (lineAt l p) then 1 else 0)
    rw [hb]; simp
  · rw [if_neg k3, k2]
/-- A label more that nobody goes to: the same rounds, the same long branches. -/
theorem idle_long (hi : Idle l m p) (hm : Stand m) : longP m = (seen m p (longP l).1, (longP l).2) := by
  unfold longP
  rw [← seen_none hi.cut, branches_cut hi.cut (label_br hi.op)]
  exact settle_idle hi hm _ _ (sub_none l)
/-- The places of lines, and of labels, are the same. -/
theorem idle_place (hi : Idle l m p) (hm : Stand m) {k : Nat} (hk : k < m.length) : placeP m (longP m).1 k = placeP l (longP l).1 (was p k) := by
  rw [idle_long hi hm]
  have := place_was (z := 0) hi.cut (longP l).1 (fun b => label_size hi.op b) hk
  simp at this
  exact_mod_cast this
theorem idle_at (hi : Idle l m p) (hm : Stand m) {lab : Int} (hp : (lineAt l p).label ≠ lab) (hs : (standsAt m lab m.length).isSome = true) : atP m (longP m).1 lab = atP l (longP l).1 lab := by
  rw [idle_long hi hm]
  have hp2 : ¬((lineAt l p).op = 0 ∧ (lineAt l p).label = lab) := fun e => hp e.2
  rw [← stands_up hi.cut hp2] at hs
  obtain ⟨t, ht⟩ := Option.isSome_iff_exists.1 hs
  obtain ⟨s, h1, _, _, h4⟩ := at_cut (z := 0) hi.cut (longP l).1 (fun b => label_size hi.op b) hp2 ht
  unfold atP
  rw [h1, ht]
  simp only
  rw [h4]; simp
end
end Go.Proofs.YtmnhafncdblklaaDoor.Relax
namespace Go.Proofs.YtmnhafncdblklaaDoor.Relax
open Go.Proofs.YtmnhafncdblklaaDoor.Enc

def labelB (n : Int) : Bool := decide (0 ≤ n ∧ n ≤ 100000)
def codeOf (x : PL) : PC := ⟨x.op, x.a, x.b, x.imm⟩
/-- May a line be? Its Op is 0 to 48. -/
def mayL (x : PL) : Bool :=
  if x.op = 0 then x.a == 0 && x.b == 0 && x.imm == 0 && x.n == 0 && x.list.length == 0 && labelB x.label
  else if goesB x then mayP { codeOf x with imm := 0 } && x.imm == 0 && x.n == 0 && x.list.length == 0 && labelB x.label
  else if x.op = 42 then x.list.all labelB && mayP (codeOf x) && x.n == 0 && x.label == 0 && decide (1 ≤ x.list.length) && decide (x.list.length ≤ 400)
  else if x.op = 2 then mayP (codeOf x) && x.label == 0 && x.list.length == 0
  else mayP (codeOf x) && x.n == 0 && x.label == 0 && x.list.length == 0
/-- What is wrong with a line, if those ahead of it are right. -/
def lineErr (l : List PL) (i : Nat) : Int :=
  if (lineAt l i).op < 0 ∨ 48 < (lineAt l i).op then 170
  else if mayL (lineAt l i) then (if (lineAt l i).op = 0 ∧ (standsAt l (lineAt l i).label i).isSome then 172 else 0)
  else 171
/-- Does a label stand somewhere? -/
def standsB (l : List PL) (lab : Int) : Bool := (standsAt l lab l.length).isSome
def labErr (l : List PL) (i : Nat) : Int :=
  if (goesB (lineAt l i) && !standsB l (lineAt l i).label) || (lineAt l i).list.any (fun k => !standsB l k) then 173 else 0
/-- The first line of so many in which something is wrong, and what. -/
def firstErr (f : Nat → Int) : Nat → Nat → Option (Nat × Int)
  | _, 0 => none
  | i, k + 1 => if f i = 0 then firstErr f (i + 1) k else some (i, f i)
def refusedP (l : List PL) : Int × Int :=
  if 60000 < l.length then (0, 2)
  else match firstErr (lineErr l) 0 l.length with
    | some (i, e) => (i, e)
    | none => match firstErr (labErr l) 0 l.length with
      | some (i, e) => (i, e)
      | none => (0, 0)
/-- The other branch. -/
def otherP (op : Int) : Int :=
  if op = 30 then 31 else if op = 31 then 30 else if op = 32 then 33 else if op = 33 then 32 else if op = 34 then 35 else if op = 35 then 34
  else if op = 36 then 37 else if op = 37 then 36 else if op = 38 then 39 else 38
def wordOf (op a b imm : Int) : Int := (encP ⟨op, a, b, imm⟩).1
/-- The words of a line, and their kinds; `at` tells of each label where it stands. -/
def madeP (x : PL) (long : Bool) (place : Int) (at_ : Int → Int) : List (Int × Int) :=
  if x.op = 0 then []
  else if branchOp x.op && long then [(wordOf (otherP x.op) x.a x.b 2, 1), (wordOf 41 0 0 0, 1), (at_ x.label, 2)]
  else if (x.op = 40 ∧ long = true) ∨ x.op = 41 then [(wordOf 41 0 0 0, 1), (at_ x.label, 2)]
  else if branchOp x.op = true ∨ x.op = 40 then [(wordOf x.op x.a x.b (at_ x.label - place - 1), 1)]
  else if x.op = 43 then [(wordOf 43 0 0 0, 1), (at_ x.label, 2)]
  else if x.op = 2 then [(wordOf 2 x.a 0 0, 1), (x.n, 2)]
  else if x.op = 42 then (wordOf 42 x.a 0 0, 1) :: ((x.list.length : Int), 3) :: x.list.map fun k => (at_ k, 3)
  else [(wordOf x.op x.a x.b x.imm, 1)]
/-- The words of the first so many lines. -/
def wordsN (l : List PL) (g : List Bool) : Nat → List (Int × Int)
  | 0 => []
  | i + 1 => wordsN l g i ++ madeP (lineAt l i) (longAt g i) (placeP l g i) (atP l g)
structure Asm where
  words : List Int
  kinds : List Int
  places : List Int
  rounds : Int
deriving DecidableEq
def noAsm : Asm := ⟨[], [], [], 0⟩
def asmP (l : List PL) : Asm × Int × Int :=
  if (refusedP l).2 = 0 then
    (if 65536 < placeP l (longP l).1 l.length then (noAsm, 0, 174)
     else (⟨(wordsN l (longP l).1 l.length).map (·.1), (wordsN l (longP l).1 l.length).map (·.2), (List.range l.length).map fun i => (placeP l (longP l).1 i : Int), (longP l).2⟩, 0, 0))
  else (noAsm, refusedP l)
theorem exA : asmP [⟨0, 0, 0, 0, 0, 7, []⟩, ⟨44, 0, 0, 0, 0, 0, []⟩, ⟨40, 0, 0, 0, 0, 7, []⟩] = (⟨[0x2c000000, 0x2800fffe], [1, 1], [0, 0, 1], 1⟩, 0, 0) := by decide
theorem exB : asmP [⟨0, 0, 0, 0, 0, 5, []⟩, ⟨0, 0, 0, 0, 0, 5, []⟩] = (noAsm, 1, 172) ∧ asmP [⟨42, 0, 0, 0, 0, 0, []⟩] = (noAsm, 0, 171) ∧ asmP [⟨3, 0, 0, 0, 0, 1, []⟩] = (noAsm, 0, 171) ∧ asmP [] = (⟨[], [], [], 1⟩, 0, 0) := by decide
/-- A long branch over 128 words: the chapter's second example. -/
theorem exC : (longP ([⟨30, 0, 1, 0, 0, 5, []⟩] ++ List.replicate 128 ⟨44, 0, 0, 0, 0, 0, []⟩ ++ [⟨0, 0, 0, 0, 0, 5, []⟩])).2 = 2 ∧
    (longP ([⟨30, 0, 1, 0, 0, 5, []⟩] ++ List.replicate 127 ⟨44, 0, 0, 0, 0, 0, []⟩ ++ [⟨0, 0, 0, 0, 0, 5, []⟩])).2 = 1 := by decide +kernel
theorem made_len (x : PL) (long : Bool) (place : Int) (at_ : Int → Int) : (madeP x long place at_).length = sizeP x long := by
  unfold madeP sizeP branchOp
  cases long <;> (repeat' split) <;> first | rfl | (simp; done) | (simp only [Bool.and_true, Bool.and_false, Bool.false_eq_true, decide_eq_true_eq, and_true, and_false, false_or, not_false_eq_true] at *; omega) | (simp_all; done) | (simp_all; omega)
theorem words_len (l : List PL) (g : List Bool) : ∀ k, (wordsN l g k).length = placeP l g k
  | 0 => rfl
  | k + 1 => by
    show (wordsN l g k ++ _).length = placeP l g k + _
    rw [List.length_append, words_len l g k, made_len]
end Go.Proofs.YtmnhafncdblklaaDoor.Relax
namespace Go.Proofs.YtmnhafncdblklaaDoor.Relax
open Go.Proofs.YtmnhafncdblklaaDoor.Enc

theorem firstErr_none {f : Nat → Int} : ∀ {i k : Nat}, firstErr f i k = none → ∀ j, i ≤ j → j < i + k → f j = 0
  | i, 0, _, j, h1, h2 => absurd h2 (by omega)
  | i, k + 1, h, j, h1, h2 => by
    unfold firstErr at h
    by_cases h0 : f i = 0
    · rw [if_pos h0] at h
      rcases Nat.lt_or_ge i j with h3 | h3
      · exact firstErr_none h j (by omega) (by omega)
      · have e : j = i := by omega
        subst e; exact h0
    · rw [if_neg h0] at h; cases h
theorem firstErr_some {f : Nat → Int} : ∀ {i k j : Nat} {e : Int}, firstErr f i k = some (j, e) → i ≤ j ∧ j < i + k ∧ e = f j ∧ f j ≠ 0
  | i, 0, j, e, h => by cases h
  | i, k + 1, j, e, h => by
    unfold firstErr at h
    by_cases h0 : f i = 0
    · rw [if_pos h0] at h
      obtain ⟨a, b, c, d⟩ := firstErr_some h
      exact ⟨by omega, by omega, c, d⟩
    · rw [if_neg h0] at h
      simp only [Option.some.injEq, Prod.mk.injEq] at h
      obtain ⟨rfl, rfl⟩ := h
      exact ⟨Nat.le_refl _, by omega, rfl, h0⟩
/-- What is known of a list that is taken. -/
structure Taken (l : List PL) : Prop where
  len : l.length ≤ 60000
  line : ∀ i, i < l.length → lineErr l i = 0
  lab : ∀ i, i < l.length → labErr l i = 0
theorem taken_of {l : List PL} (h : (refusedP l).2 = 0) : Taken l := by
  unfold refusedP at h
  by_cases h1 : 60000 < l.length
  · rw [if_pos h1] at h; cases h
  rw [if_neg h1] at h
  cases h2 : firstErr (lineErr l) 0 l.length with
  | some p =>
    obtain ⟨i, e⟩ := p
    rw [h2] at h
    have := firstErr_some h2
    simp only at h
    exact absurd (this.2.2.1 ▸ h) this.2.2.2
  | none =>
    rw [h2] at h
    simp only at h
    cases h3 : firstErr (labErr l) 0 l.length with
    | some p =>
      obtain ⟨i, e⟩ := p
      rw [h3] at h
      have := firstErr_some h3
      simp only at h
      exact absurd (this.2.2.1 ▸ h) this.2.2.2
    | none => exact ⟨by omega, fun i hi => firstErr_none h2 i (by omega) (by omega), fun i hi => firstErr_none h3 i (by omega) (by omega)⟩
theorem Taken.op {l : List PL} (h : Taken l) {i : Nat} (hi : i < l.length) : 0 ≤ (lineAt l i).op ∧ (lineAt l i).op ≤ 48 := by
  have := h.line i hi
  unfold lineErr at this
  by_cases h1 : (lineAt l i).op < 0 ∨ 48 < (lineAt l i).op
  · rw [if_pos h1] at this; cases this
  · omega
theorem Taken.may {l : List PL} (h : Taken l) {i : Nat} (hi : i < l.length) : mayL (lineAt l i) = true := by
  have := h.line i hi
  unfold lineErr at this
  rw [if_neg (by have := h.op hi; omega)] at this
  cases h1 : mayL (lineAt l i) with
  | true => rfl
  | false => rw [h1] at this; cases this
/-- No label stands twice. -/
theorem Taken.once {l : List PL} (h : Taken l) {i : Nat} (hi : i < l.length) (h0 : (lineAt l i).op = 0) : standsAt l (lineAt l i).label i = none := by
  have := h.line i hi
  unfold lineErr at this
  rw [if_neg (by have := h.op hi; omega), h.may hi] at this
  cases h1 : standsAt l (lineAt l i).label i with
  | none => rfl
  | some t => rw [h1] at this; rw [if_pos rfl, if_pos ⟨h0, rfl⟩] at this; cases this
theorem Taken.goes {l : List PL} (h : Taken l) {i : Nat} (hi : i < l.length) (hg : goesB (lineAt l i) = true) : (standsAt l (lineAt l i).label l.length).isSome = true := by
  have := h.lab i hi
  unfold labErr standsB at this
  cases h1 : (standsAt l (lineAt l i).label l.length).isSome with
  | true => rfl
  | false => rw [hg, h1] at this; simp at this
theorem Taken.list {l : List PL} (h : Taken l) {i : Nat} (hi : i < l.length) {k : Int} (hk : k ∈ (lineAt l i).list) : (standsAt l k l.length).isSome = true := by
  have := h.lab i hi
  unfold labErr standsB at this
  cases h1 : (standsAt l k l.length).isSome with
  | true => rfl
  | false =>
    rw [if_pos (by rw [Bool.or_eq_true]; right; rw [List.any_eq_true]; exact ⟨k, hk, by rw [h1]; rfl⟩)] at this
    cases this
theorem Taken.stand {l : List PL} (h : Taken l) : Stand l := fun i hi hb => h.goes hi (by unfold goesB; rw [hb]; rfl)
/-- The words at a line's place are its own. -/
theorem word_at (l : List PL) (g : List Bool) : ∀ (n i j : Nat), i < n → j < sizeP (lineAt l i) (longAt g i) → (wordsN l g n)[placeP l g i + j]? = (madeP (lineAt l i) (longAt g i) (placeP l g i) (atP l g))[j]?
  | 0, _, _, h, _ => absurd h (by omega)
  | n + 1, i, j, h, hj => by
    show (wordsN l g n ++ madeP _ _ _ _)[_]? = _
    rcases Nat.lt_or_ge i n with h1 | h1
    · have hm : placeP l g i + sizeP (lineAt l i) (longAt g i) ≤ placeP l g n := by
        have := place_mono l g (i + 1) (n - (i + 1))
        rw [show i + 1 + (n - (i + 1)) = n by omega] at this
        exact this
      rw [List.getElem?_append_left (by rw [words_len]; omega)]
      exact word_at l g n i j h1 hj
    · have e : i = n := by omega
      subst e
      rw [List.getElem?_append_right (by rw [words_len]; omega), words_len, Nat.add_sub_cancel_left]
theorem reg_near {x : PL} (hb : isBr x = true) (hm : mayL x = true) {d : Int} (hd : nearB d = true) : mayP ⟨x.op, x.a, x.b, d⟩ = true := by
  have hop : (30 ≤ x.op ∧ x.op ≤ 39) ∨ x.op = 40 := by unfold isBr branchOp at hb; simpa using hb
  have hg : goesB x = true := by unfold goesB; rw [hb]; rfl
  unfold mayL at hm
  rw [if_neg (by omega), if_pos hg] at hm
  simp only [Bool.and_eq_true] at hm
  have h1 := hm.1.1.1.1
  unfold codeOf mayP at h1
  unfold mayP
  have hn : near d = true := hd
  simp only at h1 ⊢
  rcases hop with h | h
  · rw [if_neg (by omega), if_neg (by omega), if_neg (by omega), if_neg (by omega), if_neg (by omega), if_pos (by omega)] at h1 ⊢
    rw [hn]
    simp only [Bool.and_eq_true] at h1 ⊢
    exact ⟨h1.1, trivial⟩
  · rw [if_neg (by omega), if_neg (by omega), if_neg (by omega), if_neg (by omega), if_neg (by omega), if_neg (by omega), if_pos (by omega)] at h1 ⊢
    rw [hn]
    simp only [Bool.and_eq_true] at h1 ⊢
    exact ⟨h1.1, trivial⟩
/-- A short branch's word, read back. -/
theorem short_word {l : List PL} (h : Taken l) {i : Nat} (hi : i < l.length) (hb : isBr (lineAt l i) = true) (hs : longAt (longP l).1 i = false) :
    (wordsN l (longP l).1 l.length)[placeP l (longP l).1 i]? = some (wordP ⟨(lineAt l i).op, (lineAt l i).a, (lineAt l i).b, dispP l (longP l).1 i⟩, 1) ∧
    decP (wordP ⟨(lineAt l i).op, (lineAt l i).a, (lineAt l i).b, dispP l (longP l).1 i⟩) = (⟨(lineAt l i).op, (lineAt l i).a, (lineAt l i).b, dispP l (longP l).1 i⟩, 0) := by
  have hop : (30 ≤ (lineAt l i).op ∧ (lineAt l i).op ≤ 39) ∨ (lineAt l i).op = 40 := by unfold isBr branchOp at hb; simpa using hb
  have hm := reg_near hb (h.may hi) (long_reaches l i hi hb hs)
  refine ⟨?_, dec_enc hm⟩
  have h1 := word_at l (longP l).1 l.length i 0 hi (by rw [hs, br_size _ hb]; omega)
  rw [Nat.add_zero] at h1
  rw [h1, hs]
  unfold madeP
  rw [if_neg (by omega), if_neg (by simp), if_neg (by simp; omega), if_pos (by unfold branchOp; simp; omega)]
  show some (wordOf _ _ _ _, (1 : Int)) = _
  unfold wordOf
  have he : encP ⟨(lineAt l i).op, (lineAt l i).a, (lineAt l i).b, dispP l (longP l).1 i⟩ = (wordP ⟨(lineAt l i).op, (lineAt l i).a, (lineAt l i).b, dispP l (longP l).1 i⟩, 0) := by
    unfold encP; rw [if_pos (isOp_of (within hm)), if_pos hm]
  unfold dispP at he ⊢
  rw [he]
end Go.Proofs.YtmnhafncdblklaaDoor.Relax
namespace Go.Proofs.YtmnhafncdblklaaDoor.Relax
open Go.Proofs.YtmnhafncdblklaaDoor.Enc

theorem wordOf_may {op a b i : Int} (h : mayP ⟨op, a, b, i⟩ = true) : decP (wordOf op a b i) = (⟨op, a, b, i⟩, 0) ∧ 0 ≤ wordOf op a b i ∧ wordOf op a b i ≤ 4294967295 := by
  have he : encP ⟨op, a, b, i⟩ = (wordP ⟨op, a, b, i⟩, 0) := by unfold encP; rw [if_pos (isOp_of (within h)), if_pos h]
  unfold wordOf
  rw [he]
  exact ⟨dec_enc h, wordP_range (within h)⟩
theorem may41 : mayP ⟨41, 0, 0, 0⟩ = true := by decide
theorem may43 : mayP ⟨43, 0, 0, 0⟩ = true := by decide
/-- What a line's fields are, by its sort. -/
theorem fields_go {x : PL} (hm : mayL x = true) (hg : goesB x = true) : x.op ≠ 0 ∧ mayP ⟨x.op, x.a, x.b, 0⟩ = true ∧ x.imm = 0 ∧ x.n = 0 ∧ x.list = [] := by
  have hop : (30 ≤ x.op ∧ x.op ≤ 39) ∨ x.op = 40 ∨ x.op = 41 ∨ x.op = 43 := by
    unfold goesB isBr branchOp at hg; simp at hg; omega
  unfold mayL at hm
  rw [if_neg (by omega), if_pos hg] at hm
  simp only [Bool.and_eq_true, beq_iff_eq] at hm
  refine ⟨by omega, ?_, hm.1.1.1.2, hm.1.1.2, List.length_eq_zero_iff.1 hm.1.2⟩
  exact hm.1.1.1.1
theorem fields_lit {x : PL} (hm : mayL x = true) (ho : x.op = 2) : mayP ⟨2, x.a, 0, 0⟩ = true ∧ x.b = 0 ∧ x.imm = 0 := by
  have hg : goesB x = false := by unfold goesB isBr branchOp; rw [ho]; decide
  unfold mayL at hm
  rw [if_neg (by omega), if_neg (by rw [hg]; simp), if_neg (by omega), if_pos ho] at hm
  simp only [Bool.and_eq_true] at hm
  have h1 := hm.1.1
  unfold codeOf at h1
  rw [ho] at h1
  have h2 : (reg x.a && zero x.b && zero x.imm) = true := h1
  unfold zero at h2
  simp only [Bool.and_eq_true, decide_eq_true_eq] at h2
  refine ⟨?_, h2.1.2, h2.2⟩
  show (reg x.a && zero 0 && zero 0) = true
  rw [h2.1.1]; rfl
theorem fields_tab {x : PL} (hm : mayL x = true) (ho : x.op = 42) : mayP ⟨42, x.a, 0, 0⟩ = true ∧ x.b = 0 ∧ x.imm = 0 ∧ 1 ≤ x.list.length ∧ x.list.length ≤ 400 := by
  have hg : goesB x = false := by unfold goesB isBr branchOp; rw [ho]; decide
  unfold mayL at hm
  rw [if_neg (by omega), if_neg (by rw [hg]; simp), if_pos ho] at hm
  simp only [Bool.and_eq_true, decide_eq_true_eq] at hm
  have h1 := hm.1.1.1.1.2
  unfold codeOf at h1
  rw [ho] at h1
  have h2 : (reg x.a && zero x.b && zero x.imm) = true := h1
  unfold zero at h2
  simp only [Bool.and_eq_true, decide_eq_true_eq] at h2
  refine ⟨?_, h2.1.2, h2.2, hm.1.2, hm.2⟩
  show (reg x.a && zero 0 && zero 0) = true
  rw [h2.1.1]; rfl
theorem fields_plain {x : PL} (hm : mayL x = true) (h0 : x.op ≠ 0) (hg : goesB x = false) (h42 : x.op ≠ 42) (h2 : x.op ≠ 2) : mayP ⟨x.op, x.a, x.b, x.imm⟩ = true ∧ x.list = [] := by
  unfold mayL at hm
  rw [if_neg h0, if_neg (by rw [hg]; simp), if_neg h42, if_neg h2] at hm
  simp only [Bool.and_eq_true, beq_iff_eq] at hm
  exact ⟨hm.1.1.1, List.length_eq_zero_iff.1 hm.2⟩
/-- The other branch may be, with the displacement 2. -/
theorem may_other {op a b : Int} (ho : 30 ≤ op ∧ op ≤ 39) (h : mayP ⟨op, a, b, 0⟩ = true) : mayP ⟨otherP op, a, b, 2⟩ = true := by
  have hx : 30 ≤ otherP op ∧ otherP op ≤ 39 := by unfold otherP; (repeat' split) <;> omega
  have h1 : reg a = true ∧ reg b = true := by
    unfold mayP at h
    simp only at h
    rw [if_neg (by omega), if_neg (by omega), if_neg (by omega), if_neg (by omega), if_neg (by omega), if_pos (by omega)] at h
    simp only [Bool.and_eq_true] at h
    exact h.1
  unfold mayP
  simp only
  rw [if_neg (by omega), if_neg (by omega), if_neg (by omega), if_neg (by omega), if_neg (by omega), if_pos (by omega), h1.1, h1.2]
  rfl
/-- Places of labels are below how many words there are, and one. -/
theorem at_range {l : List PL} (g : List Bool) {lab : Int} (h : (standsAt l lab l.length).isSome = true) : 0 ≤ atP l g lab ∧ atP l g lab ≤ placeP l g l.length := by
  obtain ⟨t, ht⟩ := Option.isSome_iff_exists.1 h
  have key : ∀ n s, standsAt l lab n = some s → s < n := by
    intro n
    induction n with
    | zero => intro s h; cases h
    | succ n ih =>
      intro s h
      unfold standsAt at h
      split at h
      · injection h with h; omega
      · have := ih s h; omega
  have hlt := key _ _ ht
  unfold atP
  rw [ht]
  simp only
  have := place_mono l g t (l.length - t)
  rw [show t + (l.length - t) = l.length by omega] at this
  omega
/-- A line's place, and its words, are within all words. -/
theorem place_end (l : List PL) (g : List Bool) {i : Nat} (hi : i < l.length) : placeP l g i + sizeP (lineAt l i) (longAt g i) ≤ placeP l g l.length := by
  have := place_mono l g (i + 1) (l.length - (i + 1))
  rw [show i + 1 + (l.length - (i + 1)) = l.length by omega] at this
  exact this
end Go.Proofs.YtmnhafncdblklaaDoor.Relax
namespace Go.Proofs.YtmnhafncdblklaaDoor.Relax
open Go.Proofs.YtmnhafncdblklaaDoor.Enc

/-- The place of a label by the first so many lines; -1: none of them is the label. -/
def labAt (l : List PL) (g : List Bool) (lab : Int) (i : Nat) : Int := match standsAt l lab i with | none => -1 | some t => placeP l g t
theorem labAt_all (l : List PL) (g : List Bool) (lab : Int) : labAt l g lab l.length = atP l g lab := rfl
theorem labAt_zero (l : List PL) (g : List Bool) (lab : Int) : labAt l g lab 0 = -1 := rfl
theorem stands_succ (l : List PL) (lab : Int) (i : Nat) : standsAt l lab (i + 1) = if (lineAt l i).op = 0 ∧ (lineAt l i).label = lab then some i else standsAt l lab i := rfl
theorem labAt_label {l : List PL} {g : List Bool} {i : Nat} (h : (lineAt l i).op = 0) (k : Int) : labAt l g k (i + 1) = if k = (lineAt l i).label then (placeP l g i : Int) else labAt l g k i := by
  unfold labAt
  rw [stands_succ]
  by_cases hk : k = (lineAt l i).label
  · rw [if_pos ⟨h, hk.symm⟩, if_pos hk]
  · rw [if_neg (fun h2 => hk h2.2.symm), if_neg hk]
theorem labAt_other {l : List PL} {g : List Bool} {i : Nat} (h : (lineAt l i).op ≠ 0) (k : Int) : labAt l g k (i + 1) = labAt l g k i := by
  unfold labAt
  rw [stands_succ, if_neg (fun h2 => h h2.1)]
theorem size_bound {l : List PL} (h : Taken l) {i : Nat} (hi : i < l.length) (b : Bool) : sizeP (lineAt l i) b ≤ 402 := by
  have hm := h.may hi
  unfold sizeP
  (repeat' split) <;> try omega
  rename_i h42
  have := fields_tab hm h42
  omega
theorem list_bound {l : List PL} (h : Taken l) {i : Nat} (hi : i < l.length) : (lineAt l i).list.length ≤ 400 := by
  have hm := h.may hi
  unfold mayL at hm
  (repeat' split at hm) <;> simp at hm <;> first | omega | (have := hm; simp_all; done) | (simp_all; omega)
theorem place_bound {l : List PL} (h : Taken l) (g : List Bool) : ∀ i, i ≤ l.length → placeP l g i ≤ 402 * i
  | 0, _ => Nat.le_refl _
  | i + 1, hi => by
    have h1 := place_bound h g i (by omega)
    have h2 := size_bound h (show i < l.length by omega) (longAt g i)
    show placeP l g i + sizeP _ _ ≤ _
    omega
theorem label_range {l : List PL} (h : Taken l) {i : Nat} (hi : i < l.length) (h0 : (lineAt l i).op = 0) : 0 ≤ (lineAt l i).label ∧ (lineAt l i).label ≤ 100000 := by
  have hm := h.may hi
  unfold mayL at hm
  rw [if_pos h0] at hm
  simp [labelB] at hm
  omega
theorem branch_label {l : List PL} (h : Taken l) {i : Nat} (hi : i < l.length) (hb : isBr (lineAt l i) = true) : 0 ≤ (lineAt l i).label ∧ (lineAt l i).label ≤ 100000 := by
  have hm := h.may hi
  have h0 : (lineAt l i).op ≠ 0 := by unfold isBr branchOp at hb; simp at hb; omega
  have hg : goesB (lineAt l i) = true := by unfold goesB; rw [hb]; rfl
  unfold mayL at hm
  rw [if_neg h0, if_pos hg] at hm
  simp [labelB] at hm
  omega
theorem taken_len {l : List PL} (h : (refusedP l).2 = 0) : l.length ≤ 60000 := by
  unfold refusedP at h
  split at h
  · simp at h
  · omega
theorem asm_no {l : List PL} {a : Asm} {line er : Int} (h : asmP l = (a, line, er)) (he : er ≠ 0) : a = noAsm := by
  unfold asmP at h
  by_cases h1 : (refusedP l).2 = 0
  · rw [if_pos h1] at h
    by_cases h2 : 65536 < placeP l (longP l).1 l.length
    · rw [if_pos h2] at h
      simp only [Prod.mk.injEq] at h
      exact h.1.symm
    · rw [if_neg h2] at h
      simp only [Prod.mk.injEq] at h
      exact absurd h.2.2.symm he
  · rw [if_neg h1] at h
    simp only [Prod.mk.injEq] at h
    exact h.1.symm
theorem asm_yes {l : List PL} {a : Asm} {line : Int} (h : asmP l = (a, line, 0)) : Taken l ∧ placeP l (longP l).1 l.length ≤ 65536 ∧ line = 0 ∧
    a = ⟨(wordsN l (longP l).1 l.length).map (·.1), (wordsN l (longP l).1 l.length).map (·.2), (List.range l.length).map fun i => (placeP l (longP l).1 i : Int), (longP l).2⟩ := by
  unfold asmP at h
  by_cases h1 : (refusedP l).2 = 0
  · rw [if_pos h1] at h
    by_cases h2 : 65536 < placeP l (longP l).1 l.length
    · rw [if_pos h2] at h
      simp only [Prod.mk.injEq] at h
      exact absurd h.2.2 (by decide)
    · rw [if_neg h2] at h
      simp only [Prod.mk.injEq] at h
      exact ⟨taken_of h1, by omega, h.2.1.symm, h.1.symm⟩
  · rw [if_neg h1] at h
    simp only [Prod.mk.injEq] at h
    rw [h.2] at h1
    exact absurd rfl h1
theorem asm_ref {l : List PL} {a : Asm} {line : Int} (h : asmP l = (a, line, 0)) : (refusedP l).2 = 0 := by
  unfold asmP at h
  by_cases h1 : (refusedP l).2 = 0
  · exact h1
  · rw [if_neg h1] at h
    simp only [Prod.mk.injEq] at h
    rw [h.2]
theorem asm_places {l : List PL} {a : Asm} {line : Int} (h : asmP l = (a, line, 0)) : a.places.length = l.length ∧ ∀ i, i < l.length → a.places[i]? = some (placeP l (longP l).1 i : Int) := by
  obtain ⟨_, _, _, rfl⟩ := asm_yes h
  refine ⟨by simp, fun i hi => ?_⟩
  simp [hi]
/-- A short branch, read back at its place. -/
theorem short_code {l : List PL} {a : Asm} {line : Int} (h : asmP l = (a, line, 0)) {i : Nat} (hi : i < l.length) (hb : isBr (lineAt l i) = true) (hs : longAt (longP l).1 i = false) :
    ∃ y imm, a.words[placeP l (longP l).1 i]? = some y ∧ a.kinds[placeP l (longP l).1 i]? = some 1 ∧ (0 ≤ y ∧ y ≤ 4294967295) ∧ decP y = (⟨(lineAt l i).op, (lineAt l i).a, (lineAt l i).b, imm⟩, 0) := by
  obtain ⟨ht, _, _, rfl⟩ := asm_yes h
  obtain ⟨h1, h2⟩ := short_word ht hi hb hs
  refine ⟨_, _, ?_, ?_, ?_, h2⟩
  · simp only [List.getElem?_map, h1]; rfl
  · simp only [List.getElem?_map, h1]; rfl
  · have hm := reg_near hb (ht.may hi) (long_reaches l i hi hb hs)
    exact wordP_range (within hm)
/-- The first word of a long branch, read back at its place: it is of another Op. -/
theorem long_code {l : List PL} {a : Asm} {line : Int} (h : asmP l = (a, line, 0)) {i : Nat} (hi : i < l.length) (hb : isBr (lineAt l i) = true) (hs : longAt (longP l).1 i = true) :
    ∃ y c, a.words[placeP l (longP l).1 i]? = some y ∧ a.kinds[placeP l (longP l).1 i]? = some 1 ∧ (0 ≤ y ∧ y ≤ 4294967295) ∧ decP y = (c, 0) ∧ c.op ≠ (lineAt l i).op := by
  obtain ⟨ht, _, _, rfl⟩ := asm_yes h
  have hop : (30 ≤ (lineAt l i).op ∧ (lineAt l i).op ≤ 39) ∨ (lineAt l i).op = 40 := by unfold isBr branchOp at hb; simpa using hb
  have hg : goesB (lineAt l i) = true := by unfold goesB; rw [hb]; rfl
  have hf := fields_go (ht.may hi) hg
  have hsz : 0 < sizeP (lineAt l i) (longAt (longP l).1 i) := by rw [hs]; unfold sizeP branchOp; (repeat' split) <;> simp_all
  have h1 := word_at l (longP l).1 l.length i 0 hi hsz
  rw [Nat.add_zero, hs] at h1
  by_cases h40 : (lineAt l i).op = 40
  · have hm : (madeP (lineAt l i) true (placeP l (longP l).1 i) (atP l (longP l).1))[0]? = some (wordOf 41 0 0 0, 1) := by
      unfold madeP
      rw [if_neg hf.1, if_neg (by unfold branchOp; simp; omega), if_pos (Or.inl ⟨h40, rfl⟩)]; rfl
    rw [hm] at h1
    obtain ⟨k1, k2⟩ := wordOf_may may41
    exact ⟨_, _, by simp only [List.getElem?_map, h1]; rfl, by simp only [List.getElem?_map, h1]; rfl, k2, k1, by simp only; omega⟩
  · have ho : 30 ≤ (lineAt l i).op ∧ (lineAt l i).op ≤ 39 := by omega
    have hm : (madeP (lineAt l i) true (placeP l (longP l).1 i) (atP l (longP l).1))[0]? = some (wordOf (otherP (lineAt l i).op) (lineAt l i).a (lineAt l i).b 2, 1) := by
      unfold madeP
      rw [if_neg hf.1, if_pos (by unfold branchOp; simp; omega)]; rfl
    rw [hm] at h1
    obtain ⟨k1, k2⟩ := wordOf_may (may_other ho hf.2.1)
    refine ⟨_, _, by simp only [List.getElem?_map, h1]; rfl, by simp only [List.getElem?_map, h1]; rfl, k2, k1, ?_⟩
    simp only
    unfold otherP
    (repeat' split) <;> omega
end Go.Proofs.YtmnhafncdblklaaDoor.Relax
namespace Go.Proofs.YtmnhafncdblklaaDoor.Relax
open Go.Proofs.YtmnhafncdblklaaDoor.Enc

theorem stands_lt {l : List PL} {lab : Int} : ∀ {n s : Nat}, standsAt l lab n = some s → s < n ∧ (lineAt l s).op = 0 ∧ (lineAt l s).label = lab
  | 0, s, h => by cases h
  | n + 1, s, h => by
    rw [stands_succ] at h
    split at h
    · rename_i h2
      injection h with h
      subst h
      exact ⟨by omega, h2⟩
    · obtain ⟨h1, h2⟩ := stands_lt h
      exact ⟨by omega, h2⟩
/-- The words of a line, in the answer. -/
theorem asm_word {l : List PL} {a : Asm} {line : Int} (h : asmP l = (a, line, 0)) {i : Nat} (hi : i < l.length) {j : Nat} {y k : Int}
    (hm : (madeP (lineAt l i) (longAt (longP l).1 i) (placeP l (longP l).1 i) (atP l (longP l).1))[j]? = some (y, k)) :
    a.words[placeP l (longP l).1 i + j]? = some y ∧ a.kinds[placeP l (longP l).1 i + j]? = some k := by
  obtain ⟨_, _, _, rfl⟩ := asm_yes h
  have hj : j < sizeP (lineAt l i) (longAt (longP l).1 i) := by
    rw [← made_len _ _ (placeP l (longP l).1 i : Int) (atP l (longP l).1)]
    exact (List.getElem?_eq_some_iff.1 hm).1
  have h1 := word_at l (longP l).1 l.length i j hi hj
  rw [hm] at h1
  simp only [List.getElem?_map, h1]
  exact ⟨rfl, rfl⟩
/-- Where a label that stands is found, by the answer. -/
theorem asm_label {l : List PL} {a : Asm} {line : Int} (h : asmP l = (a, line, 0)) {lab : Int} (hs : (standsAt l lab l.length).isSome = true) :
    ∃ s : Nat, standsAt l lab l.length = some s ∧ standsAt l lab s = none ∧ a.places[s]? = some (atP l (longP l).1 lab) ∧ 0 ≤ atP l (longP l).1 lab ∧ atP l (longP l).1 lab ≤ 65536 := by
  obtain ⟨s, h1⟩ := Option.isSome_iff_exists.1 hs
  obtain ⟨h2, h3, h4⟩ := stands_lt h1
  obtain ⟨ht, hsz, _, _⟩ := asm_yes h
  have h5 := ht.once h2 h3
  rw [h4] at h5
  have h6 := at_range (longP l).1 hs
  have h7 := (asm_places h).2 s h2
  refine ⟨s, h1, h5, ?_, h6.1, by omega⟩
  rw [h7]
  unfold atP
  rw [h1]
theorem asm_end {l : List PL} {a : Asm} {line : Int} (h : asmP l = (a, line, 0)) {i : Nat} (hi : i < l.length) : placeP l (longP l).1 i + sizeP (lineAt l i) (longAt (longP l).1 i) ≤ 65536 := by
  have h1 := place_end l (longP l).1 hi
  obtain ⟨_, h2, _, _⟩ := asm_yes h
  omega
theorem asm_len {l : List PL} {a : Asm} {line : Int} (h : asmP l = (a, line, 0)) : a.words.length = placeP l (longP l).1 l.length ∧ a.kinds.length = placeP l (longP l).1 l.length ∧ a.places.length = l.length := by
  have h1 := (asm_places h).1
  obtain ⟨_, _, _, rfl⟩ := asm_yes h
  exact ⟨by simp [words_len], by simp [words_len], h1⟩
end Go.Proofs.YtmnhafncdblklaaDoor.Relax
namespace Go.Proofs.YtmnhafncdblklaaDoor.Relax
open Go.Proofs.YtmnhafncdblklaaDoor.Enc

theorem firstErr_zero {f : Nat → Int} : ∀ {i k : Nat}, (∀ j, i ≤ j → j < i + k → f j = 0) → firstErr f i k = none
  | i, 0, _ => rfl
  | i, k + 1, h => by
    unfold firstErr
    rw [if_pos (h i (Nat.le_refl _) (by omega))]
    exact firstErr_zero fun j h1 h2 => h j (by omega) (by omega)
theorem refused_taken {l : List PL} (h : Taken l) : refusedP l = (0, 0) := by
  unfold refusedP
  rw [if_neg (by have := h.len; omega), firstErr_zero (fun j _ h2 => h.line j (by omega))]
  simp only
  rw [firstErr_zero (fun j _ h2 => h.lab j (by omega))]
theorem asm_taken {l : List PL} (h : Taken l) (hs : placeP l (longP l).1 l.length ≤ 65536) :
    asmP l = (⟨(wordsN l (longP l).1 l.length).map (·.1), (wordsN l (longP l).1 l.length).map (·.2), (List.range l.length).map fun i => (placeP l (longP l).1 i : Int), (longP l).2⟩, 0, 0) := by
  unfold asmP
  rw [refused_taken h, if_pos rfl, if_neg (by omega)]
theorem stands_none {l : List PL} {lab : Int} : ∀ {n : Nat}, (∀ k, k < n → ¬((lineAt l k).op = 0 ∧ (lineAt l k).label = lab)) → standsAt l lab n = none
  | 0, _ => rfl
  | n + 1, h => by rw [stands_succ, if_neg (h n (by omega))]; exact stands_none fun k hk => h k (by omega)
theorem stands_no {l : List PL} {lab : Int} : ∀ {n : Nat}, standsAt l lab n = none → ∀ k, k < n → ¬((lineAt l k).op = 0 ∧ (lineAt l k).label = lab)
  | 0, _, k, hk => absurd hk (Nat.not_lt_zero _)
  | n + 1, h, k, hk => by
    rw [stands_succ] at h
    split at h
    · cases h
    · rename_i h2
      rcases Nat.lt_or_ge k n with h3 | h3
      · exact stands_no h k h3
      · have e : k = n := by omega
        rw [e]; exact h2
theorem made_at {x : PL} {b : Bool} {q : Int} {f g : Int → Int} (h1 : goesB x = true → f x.label = g x.label) (h2 : ∀ k ∈ x.list, f k = g k) : madeP x b q f = madeP x b q g := by
  have e : x.list.map (fun k => (f k, (3 : Int))) = x.list.map (fun k => (g k, (3 : Int))) := List.map_congr_left fun k hk => by rw [h2 k hk]
  cases hg : goesB x with
  | true =>
    unfold madeP
    rw [h1 hg, e]
  | false =>
    have h3 : ¬(x.op = 40) ∧ ¬(x.op = 41) ∧ ¬(x.op = 43) ∧ branchOp x.op = false := by
      unfold goesB isBr at hg
      simp only [Bool.or_eq_false_iff, beq_eq_false_iff_ne] at hg
      exact ⟨hg.1.2, hg.2.1, hg.2.2, hg.1.1⟩
    unfold madeP
    rw [e, h3.2.2.2]
    simp only [h3.1, h3.2.1, h3.2.2.1, Bool.false_and, false_and, or_false, Bool.false_eq_true, ↓reduceIte]
variable {l m : List PL} {p : Nat}
theorem stands_was (hc : Cut l m p) {lab : Int} (hp : ¬((lineAt l p).op = 0 ∧ (lineAt l p).label = lab)) {k : Nat} (hk : k < m.length) : (standsAt l lab (was p k)).isSome = (standsAt m lab k).isSome := by
  have h := stands_cut hc lab hp k (by omega)
  have e : standsAt l lab (was p k) = standsAt l lab (if k ≤ p then k else k + 1) := by
    unfold was
    by_cases h1 : k < p
    · rw [if_pos h1, if_pos (by omega)]
    · rw [if_neg h1]
      by_cases h2 : k ≤ p
      · have e2 : k = p := by omega
        rw [if_pos h2, e2, stands_succ, if_neg hp]
      · rw [if_neg h2]
  rw [e, ← h, Option.isSome_map]
theorem line_cut (hc : Cut l m p) {k : Nat} (hk : k < m.length) (hp : ¬((lineAt l p).op = 0 ∧ (lineAt l p).label = (lineAt m k).label)) : lineErr m k = lineErr l (was p k) := by
  unfold lineErr
  rw [hc.line k] at hp
  rw [hc.line k, stands_was hc hp hk]
theorem lab_cut (hc : Cut l m p) {k : Nat} (hp : ∀ lab, (goesB (lineAt m k) = true ∧ (lineAt m k).label = lab) ∨ lab ∈ (lineAt m k).list → ¬((lineAt l p).op = 0 ∧ (lineAt l p).label = lab)) : labErr m k = labErr l (was p k) := by
  unfold labErr standsB
  rw [hc.line k] at hp
  rw [hc.line k]
  generalize lineAt l (was p k) = x at hp
  have e1 : (goesB x && !(standsAt m x.label m.length).isSome) = (goesB x && !(standsAt l x.label l.length).isSome) := by
    cases hg : goesB x with
    | false => rfl
    | true => rw [stands_up hc (hp _ (.inl ⟨hg, rfl⟩))]
  have e2 : (x.list.any fun k => !(standsAt m k m.length).isSome) = (x.list.any fun k => !(standsAt l k l.length).isSome) := by
    rw [Bool.eq_iff_iff, List.any_eq_true, List.any_eq_true]
    constructor
    · rintro ⟨y, h1, h2⟩; exact ⟨y, h1, by rw [stands_up hc (hp _ (.inr h1))]; exact h2⟩
    · rintro ⟨y, h1, h2⟩; exact ⟨y, h1, by rw [stands_up hc (hp _ (.inr h1))] at h2; exact h2⟩
  rw [e1, e2]
/-- Without a line that is no label. -/
theorem taken_cut (hc : Cut l m p) (h : Taken l) (h0 : (lineAt l p).op ≠ 0) : Taken m := by
  refine ⟨by have := h.len; have := hc.len; omega, fun i hi => ?_, fun i hi => ?_⟩
  · rw [line_cut hc hi (fun h2 => h0 h2.1)]; exact h.line _ (was_lt hc hi)
  · rw [lab_cut hc (fun _ _ h2 => h0 h2.1)]; exact h.lab _ (was_lt hc hi)
theorem place_le {g h : List Bool} (hgh : Le g h) (i : Nat) : placeP l g i ≤ placeP l h i := by
  have := between_le (l := l) hgh 0 i
  simp only [Nat.zero_add, placeP] at this
  omega
/-- A line of one word less: taken, fewer words, and nothing long that was short. -/
theorem asm_cut (hc : Cut l m p) {a : Asm} {line : Int} (h : asmP l = (a, line, 0)) (hz : ∀ b, sizeP (lineAt l p) b = 1) (hnb : isBr (lineAt l p) = false) (h0 : (lineAt l p).op ≠ 0) :
    ∃ b, asmP m = (b, 0, 0) ∧ b.words.length < a.words.length ∧ ∀ k, longAt (longP m).1 k = true → longAt (longP l).1 (was p k) = true := by
  obtain ⟨ht, hsz, _, _⟩ := asm_yes h
  have hm := taken_cut hc ht h0
  have hsh : ∀ k, longAt (longP m).1 k = true → longAt (longP l).1 (was p k) = true := fun k hk => shrinks hc hz hnb h0 ht.stand hk
  have hle : Le (longP m).1 (seen m p (longP l).1) := by
    intro k hk
    rw [longAt_seen, hsh k hk, Bool.and_true]
    have hs := (long_facts m).2.2.2.len
    rcases Nat.lt_or_ge k m.length with h1 | h1
    · exact decide_eq_true h1
    · unfold longAt at hk
      rw [List.getD_eq_getElem?_getD, List.getElem?_eq_none (by omega)] at hk
      cases hk
  have h1 := place_le (l := m) hle m.length
  have h2 := place_cut hc (longP l).1 hz m.length (Nat.le_refl _)
  have h3 : placeP l (longP l).1 l.length = placeP m (seen m p (longP l).1) m.length + 1 := by
    have k1 := hc.at_
    have k2 := hc.len
    by_cases h4 : m.length ≤ p
    · have k4 : p = m.length := by omega
      rw [if_pos h4, if_pos h4] at h2
      rw [← k2]
      show placeP l _ m.length + sizeP (lineAt l m.length) _ = _
      rw [← h2, ← k4, hz]
    · rw [if_neg h4, if_neg h4, k2] at h2
      omega
  refine ⟨_, asm_taken hm (by omega), ?_, hsh⟩
  rw [(asm_len h).1, List.length_map, words_len]
  omega
/-- A label more that stands nowhere yet. -/
theorem asm_idle {lab : Int} (hc : Cut l m p) {b : Asm} {line : Int} (h : asmP m = (b, line, 0)) (h0 : lineAt l p = ⟨0, 0, 0, 0, 0, lab, []⟩) (hlab : labelB lab = true) (hno : standsAt m lab m.length = none) (hlen : l.length ≤ 60000) :
    ∃ a, asmP l = (a, 0, 0) ∧ a.words = b.words ∧ a.kinds = b.kinds ∧ a.rounds = b.rounds := by
  obtain ⟨hm, hsz, _, hb⟩ := asm_yes h
  have hp : ∀ {k : Int}, (standsAt m k m.length).isSome = true → ¬((lineAt l p).op = 0 ∧ (lineAt l p).label = k) := by
    rintro k hk ⟨_, h2⟩
    rw [h0] at h2
    simp only at h2
    rw [← h2, hno] at hk
    cases hk
  have hun : ∀ i, i < m.length → isBr (lineAt m i) = true → (lineAt m i).label ≠ (lineAt l p).label := fun i hi hb h2 =>
    hp (hm.goes hi (by unfold goesB; rw [hb]; rfl)) ⟨by rw [h0], h2.symm⟩
  have hi : Idle l m p := ⟨hc, by rw [h0], hun⟩
  have hst := hm.stand
  -- every line but the new one is that of before
  have hwas : ∀ i, i < l.length → i ≠ p → ∃ k, k < m.length ∧ was p k = i := by
    intro i h1 h2
    have := hc.len
    rcases Nat.lt_or_ge i p with h3 | h3
    · exact ⟨i, by have := hc.at_; omega, by unfold was; rw [if_pos h3]⟩
    · exact ⟨i - 1, by omega, by unfold was; rw [if_neg (by omega)]; omega⟩
  have hT : Taken l := by
    refine ⟨hlen, fun i h1 => ?_, fun i h1 => ?_⟩
    · by_cases h2 : i = p
      · subst h2
        unfold lineErr
        rw [h0]
        have hs0 : standsAt l lab i = none := stands_none fun k hk h4 => by
          have hwk : was i k = k := by unfold was; rw [if_pos hk]
          have h5 := hc.line k
          rw [hwk] at h5
          rw [← h5] at h4
          exact stands_no hno k (by have := hc.len; omega) h4
        simp only
        rw [if_neg (by omega)]
        have hmay : mayL ⟨0, 0, 0, 0, 0, lab, []⟩ = true := by unfold mayL; rw [if_pos rfl, hlab]; rfl
        rw [hmay, if_pos rfl, if_neg (by rw [hs0]; simp)]
      · obtain ⟨k, hk, rfl⟩ := hwas i h1 h2
        by_cases h3 : (lineAt m k).op = 0
        · rw [← line_cut hc hk]
          · exact hm.line k hk
          · rintro ⟨_, h4⟩
            rw [h0] at h4
            simp only at h4
            exact stands_no hno k hk ⟨h3, h4.symm⟩
        · have h6 := hm.line k hk
          unfold lineErr at h6 ⊢
          rw [hc.line k] at h6 h3
          generalize (standsAt l (lineAt l (was p k)).label (was p k)).isSome = q
          generalize (standsAt m (lineAt l (was p k)).label k).isSome = q2 at h6
          have e : ∀ q : Bool, (if (lineAt l (was p k)).op = 0 ∧ q = true then (172 : Int) else 0) = 0 := fun q => if_neg (fun h7 => h3 h7.1)
          rw [e] at h6 ⊢
          exact h6
    · by_cases h2 : i = p
      · subst h2
        unfold labErr
        rw [h0]
        rfl
      · obtain ⟨k, hk, rfl⟩ := hwas i h1 h2
        rw [← lab_cut hc]
        · exact hm.lab k hk
        · rintro lab2 (⟨h3, h4⟩ | h3)
          · exact hp (h4 ▸ hm.goes hk h3)
          · exact hp (hm.list hk h3)
  have hat : ∀ {k : Int}, (standsAt m k m.length).isSome = true → atP m (longP m).1 k = atP l (longP l).1 k := fun {k} hk => idle_at hi hst (fun h2 => hp hk ⟨by rw [h0], h2⟩) hk
  have hone : ∀ k, k < m.length → madeP (lineAt m k) (longAt (longP m).1 k) (placeP m (longP m).1 k) (atP m (longP m).1) = madeP (lineAt l (was p k)) (longAt (longP l).1 (was p k)) (placeP l (longP l).1 (was p k)) (atP l (longP l).1) := by
    intro k hk
    rw [idle_place hi hst hk, ← hc.line k, made_at (fun hg => hat (hm.goes hk hg)) (fun y hy => hat (hm.list hk hy))]
    have e : longAt (longP m).1 k = longAt (longP l).1 (was p k) := by
      rw [idle_long hi hst, longAt_seen, decide_eq_true hk, Bool.true_and]
    rw [e]
  have hw : ∀ k, k ≤ m.length → wordsN m (longP m).1 k = wordsN l (longP l).1 (if k ≤ p then k else k + 1) := by
    have hpn : ∀ b q f, madeP (lineAt l p) b q f = [] := by intro b q f; unfold madeP; rw [h0, if_pos rfl]
    intro k
    induction k with
    | zero => intro _; simp [wordsN]
    | succ k ih =>
      intro hk
      have ih := ih (by omega)
      show wordsN m _ k ++ madeP _ _ _ _ = _
      rw [hone k (by omega), ih]
      unfold was
      by_cases h1 : k + 1 ≤ p
      · have hkp : k < p := by omega
        have hkp2 : k ≤ p := by omega
        rw [if_pos h1, if_pos hkp2, if_pos hkp]; rfl
      · have hkp : ¬ k < p := by omega
        rw [if_neg h1, if_neg hkp]
        by_cases h2 : k ≤ p
        · have e : k = p := by omega
          rw [if_pos h2]
          show _ = wordsN l _ (k + 1) ++ _
          show _ = (wordsN l _ k ++ madeP (lineAt l k) _ _ _) ++ _
          rw [e, hpn, List.append_nil]
        · rw [if_neg h2]; rfl
  have hall : wordsN m (longP m).1 m.length = wordsN l (longP l).1 l.length := by
    have h2 := hw m.length (Nat.le_refl _)
    have k1 := hc.at_
    have k2 := hc.len
    rw [h2]
    by_cases h3 : m.length ≤ p
    · have k4 : p = m.length := by omega
      rw [if_pos h3, ← k2]
      show _ = wordsN l _ m.length ++ madeP (lineAt l m.length) _ _ _
      rw [← k4]
      have hpn : ∀ b q f, madeP (lineAt l p) b q f = [] := by intro b q f; unfold madeP; rw [h0, if_pos rfl]
      rw [hpn, List.append_nil]
    · rw [if_neg h3, k2]
  have hpl : placeP l (longP l).1 l.length = placeP m (longP m).1 m.length := by
    rw [← words_len, ← words_len, hall]
  refine ⟨_, asm_taken hT (by omega), ?_, ?_, ?_⟩
  · rw [hb]; simp only; rw [hall]
  · rw [hb]; simp only; rw [hall]
  · rw [hb]; simp only; rw [idle_long hi hst]
end Go.Proofs.YtmnhafncdblklaaDoor.Relax
