/- The words of the machine, plainly: which instructions may be, their words, and back. No condition. -/
import Derived.Laws.Entries
namespace Go.Proofs.YtbbfjlheaaalkaaDoor.Enc

structure PC where
  op : Int
  a : Int
  b : Int
  imm : Int
deriving DecidableEq
def reg (n : Int) : Bool := decide (0 ≤ n ∧ n ≤ 11)
def wide (n : Int) : Bool := decide (-32768 ≤ n ∧ n ≤ 32767)
def near (n : Int) : Bool := decide (-128 ≤ n ∧ n ≤ 127)
def zero (n : Int) : Bool := decide (n = 0)
def trapN (n : Int) : Bool := decide (0 ≤ n ∧ n ≤ 255)
def isOp (n : Int) : Bool := decide (1 ≤ n ∧ n ≤ 48)
def branchOp (n : Int) : Bool := decide (30 ≤ n ∧ n ≤ 39)
/-- May an instruction be? -/
def mayP (c : PC) : Bool :=
  if c.op = 1 then reg c.a && zero c.b && wide c.imm
  else if c.op = 2 ∨ c.op = 42 ∨ c.op = 45 ∨ c.op = 46 ∨ c.op = 47 then reg c.a && zero c.b && zero c.imm
  else if c.op = 3 ∨ c.op = 24 ∨ c.op = 25 ∨ c.op = 26 ∨ c.op = 29 then reg c.a && reg c.b && zero c.imm
  else if c.op = 4 ∨ c.op = 27 ∨ c.op = 28 then reg c.a && reg c.b && wide c.imm
  else if 5 ≤ c.op ∧ c.op ≤ 23 then reg c.a && reg c.b && reg c.imm
  else if 30 ≤ c.op ∧ c.op ≤ 39 then reg c.a && reg c.b && near c.imm
  else if c.op = 40 then zero c.a && zero c.b && near c.imm
  else if c.op = 41 ∨ c.op = 43 ∨ c.op = 44 then zero c.a && zero c.b && zero c.imm
  else if c.op = 48 then zero c.a && zero c.b && trapN c.imm
  else false
def up (n : Int) : Int := if n < 0 then n + 65536 else n
def wordP (c : PC) : Int := c.op * 16777216 + c.a * 1048576 + c.b * 65536 + up c.imm
def encP (c : PC) : Int × Int := if isOp c.op then (if mayP c then (wordP c, 0) else (0, 161)) else (0, 160)
def noC : PC := ⟨0, 0, 0, 0⟩
def cutP (w : Int) : PC := ⟨w / 16777216, w / 1048576 % 16, w / 65536 % 16, w % 65536⟩
def decP (w : Int) : PC × Int :=
  let c := cutP w
  if isOp c.op then
    (if mayP c then (c, 0) else if 32768 ≤ c.imm then (let d := { c with imm := c.imm - 65536 }; if mayP d then (d, 0) else (noC, 161)) else (noC, 161))
  else (noC, 160)
def followsP (op : Int) : Int := if op = 2 ∨ op = 41 ∨ op = 43 then 1 else if op = 42 then -1 else 0

theorem ex1 : encP ⟨1, 3, 0, -2⟩ = (0x0130fffe, 0) := by decide
theorem ex2 : decP 0x1e01ff80 = (⟨30, 0, 1, -128⟩, 0) := by decide
theorem ex3 : encP ⟨3, 12, 0, 0⟩ = (0, 161) ∧ encP ⟨0, 0, 0, 0⟩ = (0, 160) ∧ encP ⟨49, 0, 0, 0⟩ = (0, 160) ∧ decP 0x1e010080 = (noC, 161) ∧ decP 1 = (noC, 160) := by decide

/-- What an instruction's fields are at most. -/
structure Within (c : PC) : Prop where
  op : 1 ≤ c.op ∧ c.op ≤ 48
  a : 0 ≤ c.a ∧ c.a ≤ 11
  b : 0 ≤ c.b ∧ c.b ≤ 11
  imm : -32768 ≤ c.imm ∧ c.imm ≤ 32767
theorem within {c : PC} (h : mayP c = true) : Within c := by
  unfold mayP reg zero wide near trapN at h
  constructor <;> (repeat' split at h) <;> simp at h <;> omega
theorem up_range {n : Int} (h : -32768 ≤ n ∧ n ≤ 32767) : 0 ≤ up n ∧ up n ≤ 65535 := by unfold up; split <;> omega
theorem encP_ok {c : PC} {x : Int} (h : encP c = (x, 0)) : mayP c = true ∧ x = wordP c := by
  unfold encP at h
  (repeat' split at h) <;> simp at h
  exact ⟨by assumption, h.symm⟩
theorem wordP_range {c : PC} (h : Within c) : 0 ≤ wordP c ∧ wordP c ≤ 4294967295 := by
  obtain ⟨h1, h2, h3, h4⟩ := h
  have := up_range h4
  unfold wordP; omega
theorem cut_word {c : PC} (h : Within c) : cutP (wordP c) = { c with imm := up c.imm } := by
  obtain ⟨h1, h2, h3, h4⟩ := h
  have := up_range h4
  obtain ⟨op, a, b, i⟩ := c
  unfold cutP wordP
  simp only [PC.mk.injEq] at *
  refine ⟨?_, ?_, ?_, ?_⟩ <;> omega
theorem isOp_of {c : PC} (h : Within c) : isOp c.op = true := by have := h.op; unfold isOp; simpa using this
/-- A number of the greater half may stand nowhere as it is. -/
theorem not_may {c : PC} (h : 32768 ≤ c.imm) : mayP c = false := by
  unfold mayP reg zero wide near trapN
  (repeat' split) <;> simp <;> omega
theorem dec_enc {c : PC} (h : mayP c = true) : decP (wordP c) = (c, 0) := by
  have hw := within h
  unfold decP
  simp only [cut_word hw, isOp_of hw, if_true]
  have h4 := hw.imm
  by_cases hn : c.imm < 0
  · have e : up c.imm = c.imm + 65536 := by unfold up; rw [if_pos hn]
    rw [e, not_may (c := { c with imm := c.imm + 65536 }) (by simp only; omega)]
    have e2 : ({ c with imm := c.imm + 65536 - 65536 } : PC) = c := by
      obtain ⟨op, a, b, i⟩ := c
      simp only [PC.mk.injEq, true_and]; omega
    simp only [Bool.false_eq_true, if_false]
    rw [if_pos (by omega), e2, if_pos h]
  · have e : up c.imm = c.imm := by unfold up; rw [if_neg hn]
    rw [e]
    rw [if_pos h]
theorem back1 {c : PC} {x : Int} (h : encP c = (x, 0)) : decP x = (c, 0) := by
  obtain ⟨h1, rfl⟩ := encP_ok h
  exact dec_enc h1
theorem up_cut {n : Int} (h : 0 ≤ n ∧ n ≤ 32767) : up n = n := by unfold up; rw [if_neg (by omega)]
theorem word_cut {w : Int} (_hw : 0 ≤ w ∧ w ≤ 4294967295) (h : mayP (cutP w) = true) : wordP (cutP w) = w := by
  have h4 := (within h).imm
  unfold cutP at h4
  simp only at h4
  unfold wordP
  have e : up (cutP w).imm = w % 65536 := by unfold cutP; simp only; rw [up_cut (by omega)]
  rw [e]
  unfold cutP
  simp only
  omega
theorem back2 {w : Int} (hw : 0 ≤ w ∧ w ≤ 4294967295) {d : PC} (h : decP w = (d, 0)) : encP d = (w, 0) := by
  unfold decP at h
  simp only at h
  split at h
  case isFalse => simp at h
  case isTrue ho =>
  split at h
  · have hm : mayP (cutP w) = true := by assumption
    simp at h
    subst h
    unfold encP
    rw [if_pos ho, if_pos hm, word_cut hw hm]
  · split at h
    · split at h
      · rename_i h1 h2 h3
        simp at h
        subst h
        unfold encP
        simp only
        rw [if_pos ho, if_pos h3]
        simp only [Prod.mk.injEq, and_true]
        unfold wordP
        simp only
        have e : up ((cutP w).imm - 65536) = (cutP w).imm := by
          unfold up
          rw [if_pos (by unfold cutP; simp only; omega)]; omega
        rw [e]
        unfold cutP
        simp only
        omega
      · simp at h
    · simp at h
theorem apart {c d : PC} {x : Int} (h : encP c = (x, 0)) (k : encP d = (x, 0)) : c = d := by
  have h1 := back1 h
  rw [back1 k] at h1
  simp at h1
  exact h1.symm
end Go.Proofs.YtbbfjlheaaalkaaDoor.Enc
