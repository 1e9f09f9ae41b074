/- The words of the machine, plainly: which instructions may be, their words, and back. No condition. -/
import Derived.Laws.Entries
namespace Go.Proofs.YtopceggmdieppaaDoor.Enc

structure PC where
  op : Int
  a : Int
  b : Int
  imm : Int
deriving DecidableEq
def reg (n : Int) : Bool := decide (0 ≤ n ∧ n ≤ 11)
def wide (n : Int) : Bool := decide (-32768 ≤ n ∧ n ≤ 32767)
def near (n : Int) : Bool := decide (-128 ≤ n ∧ n ≤ 127)
def zero (n : Int) : Bool := decide (n = 0)
def trapN (n : Int) : Bool := decide (0 ≤ n ∧ n ≤ 255)
def isOp (n : Int) : Bool := decide (1 ≤ n ∧ n ≤ 48)
def branchOp (n : Int) : Bool := decide (30 ≤ n ∧ n ≤ 39)
/-- May an instruction be? -/
def mayP (c : PC) : Bool :=
  if c.op = 1 then reg c.a && zero c.b && wide c.imm
  else if c.op = 2 ∨ c.op = 42 ∨ c.op = 45 ∨ c.op = 46 ∨ c.op = 47 then reg c.a && zero c.b && zero c.imm
  else if c.op = 3 ∨ c.op = 24 ∨ c.op = 25 ∨ c.op = 26 ∨ c.op = 29 then reg c.a && reg c.b && zero c.imm
  else if c.op = 4 ∨ c.op = 27 ∨ c.op = 28 then reg c.a && reg c.b && wide c.imm
  else if 5 ≤ c.op ∧ c.op ≤ 23 then reg c.a && reg c.b && reg c.imm
  else if 30 ≤ c.op ∧ c.op ≤ 39 then reg c.a && reg c.b && near c.imm
  else if c.op = 40 then zero c.a && zero c.b && near c.imm
  else if c.op = 41 ∨ c.op = 43 ∨ c.op = 44 then zero c.a && zero c.b && zero c.imm
  else if c.op = 48 then zero c.a && zero c.b && trapN c.imm
  else false
def up (n : Int) : Int := if n < 0 then n + 65536 else n
def wordP (c : PC) : Int := c.op * 16777216 + c.a * 1048576 + c.b * 65536 + up c.imm
def encP (c : PC) : Int × Int := if isOp c.op then (if mayP c then (wordP c, 0) else (0, 161)) else (0, 160)
def noC : PC := ⟨0, 0, 0, 0⟩
def cutP (w : Int) : PC := ⟨w / 16777216, w / 1048576 % 16, w / 65536 % 16, w % 65536⟩
def decP (w : Int) : PC × Int :=
  let c := cutP w
  if isOp c.op then
    (if mayP c then (c, 0) else if 32768 ≤ c.imm then (let d := { c with imm := c.imm - 65536 }; if mayP d then (d, 0) else (noC, 161)) else (noC, 161))
  else (noC, 160)
def followsP (op : Int) : Int := if op = 2 ∨ op = 41 ∨ op = 43 then 1 else if op = 42 then -1 else 0

theorem ex1 : encP ⟨1, 3, 0, -2⟩ = (0x0130fffe, 0) := by decide
theorem ex2 : decP 0x1e01ff80 = (⟨30, 0, 1, -128⟩, 0) := by decide
theorem ex3 : encP ⟨3, 12, 0, 0⟩ = (0, 161) ∧ encP ⟨0, 0, 0, 0⟩ = (0, 160) ∧ encP ⟨49, 0, 0, 0⟩ = (0, 160) ∧ decP 0x1e010080 = (noC, 161) ∧ decP 1 = (noC, 160) := by decide

/-- What an instruction's fields are at most. -/
structure Within (c : PC) : Prop where
  op : 1 ≤ c.op ∧ c.op ≤ 48
  a : 0 ≤ c.a ∧ c.a ≤ 11
  b : 0 ≤ c.b ∧ c.b ≤ 11
  imm : -32768 ≤ c.imm ∧ c.imm ≤ 32767
theorem within {c : PC} (h : mayP c = true) : Within c := by
  unfold mayP reg zero wide near trapN at h
  constructor <;> (repeat' split at h) <;> simp at h <;> omega
theorem up_range {n : Int} (h : -32768 ≤ n ∧ n ≤ 32767) : 0 ≤ up n ∧ up n ≤ 65535 := by unfold up; split <;> omega
theorem encP_ok {c : PC} {x : Int} (h : encP c = (x, 0)) : mayP c = true ∧ x = wordP c := by
  unfold encP at h
  (repeat' split at h) <;> simp at h
  exact ⟨by assumption, h.symm⟩
theorem wordP_range {c : PC} (h : Within c) : 0 ≤ wordP c ∧ wordP c ≤ 4294967295 := by
  obtain ⟨h1, h2, h3, h4⟩ := h
  have := up_range h4
  unfold wordP; omega
theorem cut_word {c : PC} (h : Within c) : cutP (wordP c) = { c with imm := up c.imm } := by
  obtain ⟨h1, h2, h3, h4⟩ := h
  have := up_range h4
  obtain ⟨op, a, b, i⟩ := c
  unfold cutP wordP
  simp only [PC.mk.injEq] at *
  refine ⟨?_, ?_, ?_, ?_⟩ <;> omega
theorem isOp_of {c : PC} (h : Within c) : isOp c.op = true := by have := h.op; unfold isOp; simpa using this
/-- A number of the greater half may stand nowhere as it is. -/
theorem not_may {c : PC} (h : 32768 ≤ c.imm) : mayP c = false := by
  unfold mayP reg zero wide near trapN
  (repeat' split) <;> simp <;> omega
theorem dec_enc {c : PC} (h : mayP c = true) : decP (wordP c) = (c, 0) := by
  have hw := within h
  unfold decP
  simp only [cut_word hw, isOp_of hw, if_true]
  have h4 := hw.imm
  by_cases hn : c.imm < 0
  · have e : up c.imm = c.imm + 65536 := by unfold up; rw [if_pos hn]
    rw [e, not_may (c := { c with imm := c.imm + 65536 }) (by simp only; omega)]
    have e2 : ({ c with imm := c.imm + 65536 - 65536 } : PC) = c := by
      obtain ⟨op, a, b, i⟩ := c
      simp only [PC.mk.injEq, true_and]; omega
    simp only [Bool.false_eq_true, if_false]
    rw [if_pos (by omega), e2, if_pos h]
  · have e : up c.imm = c.imm := by unfold up; rw [if_neg hn]
    rw [e]
    rw [if_pos h]
theorem back1 {c : PC} {x : Int} (h : encP c = (x, 0)) : decP x = (c, 0) := by
  obtain ⟨h1, rfl⟩ := encP_ok h
  exact dec_enc h1
theorem up_cut {n : Int} (h : 0 ≤ n ∧ n ≤ 32767) : up n = n := by unfold up; rw [if_neg (by omega)]
theorem word_cut {w : Int} (_hw : 0 ≤ w ∧ w ≤ 4294967295) (h : mayP (cutP w) = true) : wordP (cutP w) = w := by
  have h4 := (within h).imm
  unfold cutP at h4
  simp only at h4
  unfold wordP
  have e : up (cutP w).imm = w % 65536 := by unfold cutP; simp only; rw [up_cut (by omega)]
  rw [e]
  unfold cutP
  simp only
  omega
theorem back2 {w : Int} (hw : 0 ≤ w ∧ w ≤ 4294967295) {d : PC} (h : decP w = (d, 0)) : encP d = (w, 0) := by
  unfold decP at h
  simp only at h
  split at h
  case isFalse => simp at h
  case isTrue ho =>
  split at h
  · have hm : mayP (cutP w) = true := by assumption
    simp at h
    subst h
    unfold encP
    rw [if_pos ho, if_pos hm, word_cut hw hm]
  · split at h
    · split at h
      · rename_i h1 h2 h3
        simp at h
        subst h
        unfold encP
        simp only
        rw [if_pos ho, if_pos h3]
        simp only [Prod.mk.injEq, and_true]
        unfold wordP
        simp only
        have e : up ((cutP w).imm - 65536) = (cutP w).imm := by
          unfold up
          rw [if_pos (by unfold cutP; simp only; omega)]; omega
        rw [e]
        unfold cutP
        simp only
        omega
      · simp at h
    · simp at h
theorem apart {c d : PC} {x : Int} (h : encP c = (x, 0)) (k : encP d = (x, 0)) : c = d := by
  have h1 := back1 h
  rw [back1 k] at h1
  simp at h1
  exact h1.symm
end Go.Proofs.YtopceggmdieppaaDoor.Enc
namespace Go.Proofs.YtopceggmdieppaaDoor.Emu
open Go.Proofs.YtopceggmdieppaaDoor.Enc

/-- What a machine is given: its words, its input; how it reckons, and which conditions hold. -/
structure Env where
  words : List Int
  input : List UInt8
  ar : Int → Int → Int → Option Int
  holds : Int → Int → Int → Bool
/-- The machine. -/
structure M where
  r : List Int
  mem : List Int
  at_ : Nat
  calls : List Int
  place : Int
  stop : Int
  code : Int
  steps : Nat
  bytes : List UInt8
deriving DecidableEq
def u32 (n : Int) : Int := n % 4294967296
def reg (m : M) (k : Int) : Int := m.r.getD k.toNat 0
def setR (m : M) (k v : Int) : M := { m with r := m.r.set k.toNat v }
def halt (m : M) (kind code : Int) : M := { m with stop := kind, code := code }
def trap (m : M) (n : Int) : M := halt m 2 n
/-- The word at a place, if there is one. -/
def wordAt (E : Env) (p : Int) : Option Int := if 0 ≤ p ∧ p < E.words.length then some (E.words.getD p.toNat 0) else none
def memN : Int := 524288
/-- An instruction that does nothing but to registers, memory, input and output. -/
def plainStep (E : Env) (m : M) (c : PC) : Option M :=
  let b := reg m c.b
  if c.op = 1 then some (setR m c.a (u32 c.imm))
  else if c.op = 3 then some (setR m c.a b)
  else if c.op = 24 then some (setR m c.a (u32 (-b)))
  else if c.op = 25 then some (setR m c.a (4294967295 - b))
  else if c.op = 26 then some (setR m c.a (b % 256))
  else if c.op = 4 then some (setR m c.a (u32 (b + c.imm)))
  else if c.op = 27 then some (let n := u32 (b + c.imm); if n < memN then setR m c.a (m.mem.getD n.toNat 0) else trap m 6)
  else if c.op = 28 then some (let n := u32 (b + c.imm); if n < memN then { m with mem := m.mem.set n.toNat (reg m c.a) } else trap m 6)
  else if c.op = 29 then some (if b ≤ reg m c.a then trap m 2 else m)
  else if c.op = 45 then some (match E.input[m.at_]? with | none => setR m c.a 4294967295 | some x => { setR m c.a x.toNat with at_ := m.at_ + 1 })
  else if c.op = 46 then some { m with bytes := m.bytes ++ [UInt8.ofNat (reg m c.a % 256).toNat] }
  else if c.op = 47 then some (halt m 1 (reg m c.a))
  else if c.op = 48 then some (trap m c.imm)
  else if 5 ≤ c.op ∧ c.op ≤ 23 then some (match E.ar (c.op - 5) b (reg m c.imm) with | none => trap m 1 | some v => setR m c.a v)
  else none
/-- An instruction that goes elsewhere, or has words behind it. -/
def goesStep (E : Env) (m : M) (c : PC) (next : Int) : M :=
  match (if followsP c.op = 0 then some 0 else wordAt E next) with
  | none => trap m 5
  | some behind =>
    if c.op = 2 then { setR m c.a behind with place := next + 1 }
    else if c.op = 40 then { m with place := next + c.imm }
    else if c.op = 41 then { m with place := behind }
    else if c.op = 42 then
      (if behind ≤ reg m c.a then trap m 7 else
        match wordAt E (next + 1 + reg m c.a) with
        | none => trap m 5
        | some to => { m with place := to })
    else if c.op = 43 then (if 50 ≤ m.calls.length then trap m 3 else { m with calls := m.calls ++ [next + 1], place := behind })
    else if c.op = 44 then
      (match m.calls.getLast? with
       | none => trap m 8
       | some p => { m with place := p, calls := m.calls.dropLast })
    else if E.holds c.op (reg m c.a) (reg m c.b) then { m with place := next + c.imm } else { m with place := next }
def stepP (E : Env) (m : M) : M :=
  match wordAt E m.place with
  | none => trap m 5
  | some w =>
    match decP w with
    | (c, e) =>
      if e = 0 then
        (match plainStep E m c with
         | some m' => { m' with place := m.place + 1 }
         | none => goesStep E m c (m.place + 1))
      else trap m 4
/-- As many steps, if it does not stop ahead. -/
def runN (E : Env) : Nat → M → M
  | 0, m => m
  | k + 1, m => if m.stop = 0 then runN E k (stepP E { m with steps := m.steps + 1 }) else m
def start (_E : Env) (data : List Int) (entry : Int) : M :=
  ⟨List.replicate 12 0, data ++ List.replicate (524288 - data.length) 0, 0, [], entry, 0, 0, 0, []⟩
/-- What came of it. -/
structure Out where
  stop : Int
  code : Int
  bytes : List UInt8
  steps : Nat
deriving DecidableEq
def outOf (m : M) : Out := if m.stop = 0 then ⟨3, 0, m.bytes, m.steps⟩ else ⟨m.stop, m.code, m.bytes, m.steps⟩
def noOut : Out := ⟨0, 0, [], 0⟩
structure Image where
  words : List Int
  kinds : List Int
  data : List Int
  entry : Int
/-- May an image be? -/
def mayI (m : Image) : Bool := decide (1 ≤ m.words.length ∧ m.words.length ≤ 65536 ∧ m.kinds.length = m.words.length ∧ m.data.length ≤ 524288 ∧ 0 ≤ m.entry ∧ m.entry < m.words.length) && m.kinds.all fun k => decide (1 ≤ k ∧ k ≤ 3)
def runP (ar : Int → Int → Int → Option Int) (hs : Int → Int → Int → Bool) (m : Image) (input : List UInt8) (fuel : Int) : Out × Int :=
  if mayI m then
    (if input.length ≤ 10000 then
      (if 0 ≤ fuel ∧ fuel ≤ 1073741824 then (outOf (runN ⟨m.words, input, ar, hs⟩ fuel.toNat (start ⟨m.words, input, ar, hs⟩ m.data m.entry)), 0) else (noOut, 1))
    else (noOut, 2))
  else (noOut, 1)

section
variable {E : Env}
theorem runN_succ (k : Nat) (m : M) : runN E (k + 1) m = if m.stop = 0 then runN E k (stepP E { m with steps := m.steps + 1 }) else m := rfl
theorem runN_stop {m : M} (h : m.stop ≠ 0) : ∀ k, runN E k m = m
  | 0 => rfl
  | k + 1 => by rw [runN_succ, if_neg h]
theorem runN_add : ∀ (a b : Nat) (m : M), runN E (a + b) m = runN E b (runN E a m)
  | 0, b, m => by rw [Nat.zero_add]; rfl
  | a + 1, b, m => by
    rw [show a + 1 + b = (a + b) + 1 by omega, runN_succ, runN_succ]
    by_cases h : m.stop = 0
    · rw [if_pos h, if_pos h]; exact runN_add a b _
    · rw [if_neg h, if_neg h, runN_stop h]
/-- A run that has stopped goes no further. -/
theorem runN_more {a b : Nat} {m : M} (hab : a ≤ b) (h : (runN E a m).stop ≠ 0) : runN E b m = runN E a m := by
  obtain ⟨d, rfl⟩ := Nat.exists_eq_add_of_le hab
  rw [runN_add, runN_stop h]
theorem reg_steps (m : M) (k : Int) (n : Nat) : reg { m with steps := n } k = reg m k := rfl
/-- Steps are counted outside. -/
theorem plain_steps {m m' : M} {c : PC} (h : plainStep E m c = some m') : m'.steps = m.steps ∧ ∃ t, m'.bytes = m.bytes ++ t ∧ t.length ≤ 1 := by
  unfold plainStep at h
  simp only at h
  by_cases q0 : c.op = 1
  · rw [if_pos q0] at h
    injection h with h
    subst h
    exact ⟨rfl, [], by simp [setR], by simp⟩
  rw [if_neg q0] at h
  by_cases q1 : c.op = 3
  · rw [if_pos q1] at h
    injection h with h
    subst h
    exact ⟨rfl, [], by simp [setR], by simp⟩
  rw [if_neg q1] at h
  by_cases q2 : c.op = 24
  · rw [if_pos q2] at h
    injection h with h
    subst h
    exact ⟨rfl, [], by simp [setR], by simp⟩
  rw [if_neg q2] at h
  by_cases q3 : c.op = 25
  · rw [if_pos q3] at h
    injection h with h
    subst h
    exact ⟨rfl, [], by simp [setR], by simp⟩
  rw [if_neg q3] at h
  by_cases q4 : c.op = 26
  · rw [if_pos q4] at h
    injection h with h
    subst h
    exact ⟨rfl, [], by simp [setR], by simp⟩
  rw [if_neg q4] at h
  by_cases q5 : c.op = 4
  · rw [if_pos q5] at h
    injection h with h
    subst h
    exact ⟨rfl, [], by simp [setR], by simp⟩
  rw [if_neg q5] at h
  by_cases q6 : c.op = 27
  · rw [if_pos q6] at h
    injection h with h
    subst h
    split <;> exact ⟨rfl, [], by simp [setR, trap, halt], by simp⟩
  rw [if_neg q6] at h
  by_cases q7 : c.op = 28
  · rw [if_pos q7] at h
    injection h with h
    subst h
    split <;> exact ⟨rfl, [], by simp [trap, halt], by simp⟩
  rw [if_neg q7] at h
  by_cases q8 : c.op = 29
  · rw [if_pos q8] at h
    injection h with h
    subst h
    split <;> exact ⟨rfl, [], by simp [trap, halt], by simp⟩
  rw [if_neg q8] at h
  by_cases q9 : c.op = 45
  · rw [if_pos q9] at h
    injection h with h
    subst h
    split <;> exact ⟨rfl, [], by simp [setR], by simp⟩
  rw [if_neg q9] at h
  by_cases q10 : c.op = 46
  · rw [if_pos q10] at h
    injection h with h
    subst h
    exact ⟨rfl, _, rfl, by simp⟩
  rw [if_neg q10] at h
  by_cases q11 : c.op = 47
  · rw [if_pos q11] at h
    injection h with h
    subst h
    exact ⟨rfl, [], by simp [halt], by simp⟩
  rw [if_neg q11] at h
  by_cases q12 : c.op = 48
  · rw [if_pos q12] at h
    injection h with h
    subst h
    exact ⟨rfl, [], by simp [trap, halt], by simp⟩
  rw [if_neg q12] at h
  by_cases q13 : 5 ≤ c.op ∧ c.op ≤ 23
  · rw [if_pos q13] at h
    injection h with h
    subst h
    split <;> exact ⟨rfl, [], by simp [setR, trap, halt], by simp⟩
  rw [if_neg q13] at h
  cases h
theorem goes_steps (m : M) (c : PC) (n : Int) : (goesStep E m c n).steps = m.steps ∧ (goesStep E m c n).bytes = m.bytes := by
  unfold goesStep
  (repeat' split) <;> exact ⟨rfl, rfl⟩
theorem step_steps (m : M) : (stepP E m).steps = m.steps ∧ ∃ t, (stepP E m).bytes = m.bytes ++ t ∧ t.length ≤ 1 := by
  unfold stepP
  cases hw : wordAt E m.place with
  | none => exact ⟨rfl, [], by simp [trap, halt], by simp⟩
  | some w =>
    simp only
    by_cases he : (decP w).2 = 0
    · rw [if_pos he]
      cases hp : plainStep E m (decP w).1 with
      | some m' => have h1 := plain_steps hp; exact h1
      | none =>
        have := goes_steps (E := E) m (decP w).1 (m.place + 1)
        exact ⟨this.1, [], by simp [this.2], by simp⟩
    · rw [if_neg he]; exact ⟨rfl, [], by simp [trap, halt], by simp⟩
/-- How many steps were taken, and how much came out. -/
theorem runN_steps : ∀ (k : Nat) (m : M), m.steps ≤ (runN E k m).steps ∧ (runN E k m).steps ≤ m.steps + k ∧ ((runN E k m).stop = 0 → (runN E k m).steps = m.steps + k) ∧
    ∃ t, (runN E k m).bytes = m.bytes ++ t ∧ t.length ≤ (runN E k m).steps - m.steps
  | 0, m => ⟨Nat.le_refl _, by simp [runN], fun _ => by simp [runN], [], by simp [runN], by simp⟩
  | k + 1, m => by
    rw [runN_succ]
    by_cases h : m.stop = 0
    · rw [if_pos h]
      obtain ⟨s1, t1, b1, l1⟩ := step_steps (E := E) { m with steps := m.steps + 1 }
      obtain ⟨h1, h2, h3, t2, b2, l2⟩ := runN_steps k (stepP E { m with steps := m.steps + 1 })
      simp only at s1 b1
      rw [s1] at h1 h2 h3 l2
      refine ⟨by omega, by omega, fun h => by rw [h3 h]; omega, t1 ++ t2, by rw [b2, b1, List.append_assoc], by rw [List.length_append]; omega⟩
    · rw [if_neg h]; exact ⟨Nat.le_refl _, by omega, fun h0 => absurd h0 h, [], by simp, by simp⟩
theorem runN_prefix {a b : Nat} {m : M} (hab : a ≤ b) : ∃ t, (runN E b m).bytes = (runN E a m).bytes ++ t := by
  obtain ⟨d, rfl⟩ := Nat.exists_eq_add_of_le hab
  rw [runN_add]
  obtain ⟨_, _, _, t, h, _⟩ := runN_steps (E := E) d (runN E a m)
  exact ⟨t, h⟩
end
end Go.Proofs.YtopceggmdieppaaDoor.Emu
namespace Go.Proofs.YtopceggmdieppaaDoor.Emu
open Go.Proofs.YtopceggmdieppaaDoor.Enc
section
variable {E : Env}
/-- How a machine may have stopped. -/
def Sane (m : M) : Prop := m.stop = 0 ∨ m.stop = 1 ∨ (m.stop = 2 ∧ 0 ≤ m.code ∧ m.code ≤ 255)
theorem may_trap {c : PC} (h : mayP c = true) (ho : c.op = 48) : 0 ≤ c.imm ∧ c.imm ≤ 255 := by
  obtain ⟨op, a, b, i⟩ := c
  simp only at ho
  subst ho
  have h1 : (zero a && zero b && trapN i) = true := h
  unfold trapN at h1
  simp at h1
  exact h1.2
theorem dec_may {w : Int} (h : (decP w).2 = 0) : mayP (decP w).1 = true := by
  unfold decP at h ⊢
  simp only at h ⊢
  by_cases h1 : isOp (cutP w).op = true
  · rw [if_pos h1] at h ⊢
    by_cases h2 : mayP (cutP w) = true
    · rw [if_pos h2]; exact h2
    · rw [if_neg h2] at h ⊢
      by_cases h3 : 32768 ≤ (cutP w).imm
      · rw [if_pos h3] at h ⊢
        by_cases h4 : mayP { cutP w with imm := (cutP w).imm - 65536 } = true
        · rw [if_pos h4]; exact h4
        · rw [if_neg h4] at h; simp at h
      · rw [if_neg h3] at h; simp at h
  · rw [if_neg h1] at h; simp at h
theorem trap_sane (m : M) (n : Int) (h : 0 ≤ n ∧ n ≤ 255) : Sane (trap m n) := .inr (.inr ⟨rfl, h⟩)
theorem trapP_sane (m : M) (n p : Int) (h : 0 ≤ n ∧ n ≤ 255) : Sane { trap m n with place := p } := .inr (.inr ⟨rfl, h⟩)
theorem plain_sane {m m' : M} {c : PC} (h : plainStep E m c = some m') (hc : mayP c = true) (hm : m.stop = 0) : Sane { m' with place := m.place + 1 } := by
  unfold plainStep at h
  simp only at h
  by_cases q0 : c.op = 1
  · rw [if_pos q0] at h
    injection h with h
    subst h
    exact .inl hm
  rw [if_neg q0] at h
  by_cases q1 : c.op = 3
  · rw [if_pos q1] at h
    injection h with h
    subst h
    exact .inl hm
  rw [if_neg q1] at h
  by_cases q2 : c.op = 24
  · rw [if_pos q2] at h
    injection h with h
    subst h
    exact .inl hm
  rw [if_neg q2] at h
  by_cases q3 : c.op = 25
  · rw [if_pos q3] at h
    injection h with h
    subst h
    exact .inl hm
  rw [if_neg q3] at h
  by_cases q4 : c.op = 26
  · rw [if_pos q4] at h
    injection h with h
    subst h
    exact .inl hm
  rw [if_neg q4] at h
  by_cases q5 : c.op = 4
  · rw [if_pos q5] at h
    injection h with h
    subst h
    exact .inl hm
  rw [if_neg q5] at h
  by_cases q6 : c.op = 27
  · rw [if_pos q6] at h
    injection h with h
    subst h
    split <;> first | exact .inl hm | exact trapP_sane _ _ _ (by decide)
  rw [if_neg q6] at h
  by_cases q7 : c.op = 28
  · rw [if_pos q7] at h
    injection h with h
    subst h
    split <;> first | exact .inl hm | exact trapP_sane _ _ _ (by decide)
  rw [if_neg q7] at h
  by_cases q8 : c.op = 29
  · rw [if_pos q8] at h
    injection h with h
    subst h
    split <;> first | exact .inl hm | exact trapP_sane _ _ _ (by decide)
  rw [if_neg q8] at h
  by_cases q9 : c.op = 45
  · rw [if_pos q9] at h
    injection h with h
    subst h
    split <;> first | exact .inl hm | exact trapP_sane _ _ _ (by decide)
  rw [if_neg q9] at h
  by_cases q10 : c.op = 46
  · rw [if_pos q10] at h
    injection h with h
    subst h
    exact .inl hm
  rw [if_neg q10] at h
  by_cases q11 : c.op = 47
  · rw [if_pos q11] at h
    injection h with h
    subst h
    exact .inr (.inl rfl)
  rw [if_neg q11] at h
  by_cases q12 : c.op = 48
  · rw [if_pos q12] at h
    injection h with h
    subst h
    exact .inr (.inr ⟨rfl, may_trap hc q12⟩)
  rw [if_neg q12] at h
  by_cases q13 : 5 ≤ c.op ∧ c.op ≤ 23
  · rw [if_pos q13] at h
    injection h with h
    subst h
    split <;> first | exact .inl hm | exact trapP_sane _ _ _ (by decide)
  rw [if_neg q13] at h
  cases h
theorem goes_sane (m : M) (c : PC) (n : Int) (hm : m.stop = 0) : Sane (goesStep E m c n) := by
  unfold goesStep
  (repeat' split) <;> first | exact trap_sane _ _ (by decide) | exact .inl hm
theorem step_sane (m : M) (hm : m.stop = 0) : Sane (stepP E m) := by
  unfold stepP
  cases hw : wordAt E m.place with
  | none => exact trap_sane _ _ (by decide)
  | some w =>
    simp only
    by_cases he : (decP w).2 = 0
    · rw [if_pos he]
      cases hp : plainStep E m (decP w).1 with
      | some m' => exact plain_sane hp (dec_may he) hm
      | none => exact goes_sane m _ _ hm
    · rw [if_neg he]; exact trap_sane _ _ (by decide)
theorem runN_sane : ∀ (k : Nat) (m : M), m.stop = 0 → Sane (runN E k m)
  | 0, m, h => .inl h
  | k + 1, m, h => by
    rw [runN_succ, if_pos h]
    rcases Decidable.em ((stepP E { m with steps := m.steps + 1 }).stop = 0) with h1 | h1
    · exact runN_sane k _ h1
    · rw [runN_stop h1]; exact step_sane _ h
theorem stop_of {m : M} (h : Sane m) : (outOf m).stop = 3 ↔ m.stop = 0 := by
  unfold outOf
  rcases h with h | h | h
  · rw [if_pos h]; simp [h]
  · rw [if_neg (by omega)]; simp [h]
  · rw [if_neg (by omega)]; simp [h.1]
/-- A run that stops has stopped with as many steps as it took. -/
theorem runN_at : ∀ (k n : Nat) (m : M), m.stop = 0 → (runN E k m).stop ≠ 0 → (runN E k m).steps ≤ m.steps + n → runN E n m = runN E k m
  | 0, n, m, h, h1, _ => absurd h h1
  | k + 1, 0, m, h, h1, h2 => by
    have h3 := runN_steps (E := E) k (stepP E { m with steps := m.steps + 1 })
    have h4 := (step_steps (E := E) { m with steps := m.steps + 1 }).1
    rw [runN_succ, if_pos h] at h2
    simp only at h4
    omega
  | k + 1, n + 1, m, h, h1, h2 => by
    have h4 := (step_steps (E := E) { m with steps := m.steps + 1 }).1
    simp only at h4
    rw [runN_succ, if_pos h] at h1 h2 ⊢
    rw [runN_succ, if_pos h]
    rcases Decidable.em ((stepP E { m with steps := m.steps + 1 }).stop = 0) with h5 | h5
    · exact runN_at k n _ h5 h1 (by omega)
    · rw [runN_stop h5, runN_stop h5]
/-- The fuel's facts, for a machine that starts. -/
theorem fuel_facts {m : M} (h0 : m.stop = 0) (hs : m.steps = 0) {fuel less more : Nat} (hl : less ≤ fuel) (hm : fuel ≤ more) :
    ((outOf (runN E fuel m)).stop ≠ 3 → outOf (runN E more m) = outOf (runN E fuel m) ∧ 1 ≤ (outOf (runN E fuel m)).steps) ∧
    ((outOf (runN E fuel m)).stop = 3 → (outOf (runN E fuel m)).steps = fuel) ∧ (outOf (runN E fuel m)).steps ≤ fuel ∧
    ((outOf (runN E fuel m)).stop ≠ 3 → (outOf (runN E fuel m)).steps ≤ less → outOf (runN E less m) = outOf (runN E fuel m)) ∧
    (((outOf (runN E fuel m)).stop = 3 ∨ less < (outOf (runN E fuel m)).steps) → (outOf (runN E less m)).stop = 3 ∧ (outOf (runN E less m)).code = 0 ∧ (outOf (runN E less m)).steps = less) ∧
    (∃ t, (outOf (runN E fuel m)).bytes = (outOf (runN E less m)).bytes ++ t) ∧ (∃ t, (outOf (runN E more m)).bytes = (outOf (runN E fuel m)).bytes ++ t) := by
  have e1 : ∀ k, (outOf (runN E k m)).steps = (runN E k m).steps := fun k => by unfold outOf; split <;> rfl
  have e2 : ∀ k, (outOf (runN E k m)).bytes = (runN E k m).bytes := fun k => by unfold outOf; split <;> rfl
  have e3 : ∀ k, (outOf (runN E k m)).stop = 3 ↔ (runN E k m).stop = 0 := fun k => stop_of (runN_sane k m h0)
  have s1 := runN_steps (E := E) fuel m
  rw [hs] at s1
  refine ⟨fun h => ?_, fun h => ?_, ?_, fun h h2 => ?_, fun h => ?_, ?_, ?_⟩
  · have h1 : (runN E fuel m).stop ≠ 0 := fun e => h ((e3 fuel).2 e)
    refine ⟨by rw [runN_more hm h1], ?_⟩
    rw [e1]
    cases fuel with
    | zero => exact absurd h0 h1
    | succ f =>
      have h4 := (step_steps (E := E) { m with steps := m.steps + 1 }).1
      have h3 := runN_steps (E := E) f (stepP E { m with steps := m.steps + 1 })
      rw [runN_succ, if_pos h0]
      simp only at h4
      omega
  · rw [e1]; have := s1.2.2.1 ((e3 fuel).1 h); omega
  · rw [e1]; omega
  · have h1 : (runN E fuel m).stop ≠ 0 := fun e => h ((e3 fuel).2 e)
    rw [e1] at h2
    rw [runN_at fuel less m h0 h1 (by omega)]
  · have h1 : (runN E less m).stop = 0 := by
      rcases Decidable.em ((runN E less m).stop = 0) with h5 | h5
      · exact h5
      · exfalso
        have h6 := runN_more hl h5
        have h7 := runN_steps (E := E) less m
        rcases h with h | h
        · have := (e3 fuel).1 h; rw [h6] at this; exact h5 this
        · rw [e1, h6] at h; omega
    have h7 := (runN_steps (E := E) less m).2.2.1 h1
    refine ⟨(e3 less).2 h1, by unfold outOf; rw [if_pos h1], by rw [e1]; omega⟩
  · obtain ⟨t, h⟩ := runN_prefix (E := E) (m := m) hl
    exact ⟨t, by rw [e2, e2, h]⟩
  · obtain ⟨t, h⟩ := runN_prefix (E := E) (m := m) hm
    exact ⟨t, by rw [e2, e2, h]⟩
/-- Within bounds. -/
theorem any_facts {m : M} (h0 : m.stop = 0) (hs : m.steps = 0) (hb : m.bytes = []) (fuel : Nat) :
    (outOf (runN E fuel m)).steps ≤ fuel ∧ (outOf (runN E fuel m)).bytes.length ≤ (outOf (runN E fuel m)).steps ∧
    (((outOf (runN E fuel m)).stop = 3 ∧ (outOf (runN E fuel m)).steps = fuel ∧ (outOf (runN E fuel m)).code = 0) ∨ (outOf (runN E fuel m)).stop = 1 ∨ ((outOf (runN E fuel m)).stop = 2 ∧ 0 ≤ (outOf (runN E fuel m)).code ∧ (outOf (runN E fuel m)).code ≤ 255)) := by
  have s := runN_steps (E := E) fuel m
  rw [hs, hb] at s
  obtain ⟨_, s2, s3, t, s4, s5⟩ := s
  rw [List.nil_append] at s4
  unfold outOf
  rcases runN_sane (E := E) fuel m h0 with h | h | h
  · rw [if_pos h]
    refine ⟨by simp only; omega, by simp only; rw [s4]; omega, .inl ⟨rfl, by simp only; have := s3 h; omega, rfl⟩⟩
  · rw [if_neg (by omega)]
    exact ⟨by simp only; omega, by simp only; rw [s4]; omega, .inr (.inl h)⟩
  · rw [if_neg (by omega)]
    exact ⟨by simp only; omega, by simp only; rw [s4]; omega, .inr (.inr h)⟩
end
/-- Words behind all others. -/
def more (E : Env) (ws : List Int) : Env := { E with words := E.words ++ ws }
theorem word_more {E : Env} {ws : List Int} {p w : Int} (h : wordAt E p = some w) : wordAt (more E ws) p = some w := by
  unfold wordAt at h ⊢
  by_cases hp : 0 ≤ p ∧ p < E.words.length
  · rw [if_pos hp] at h
    have h2 : 0 ≤ p ∧ p < (more E ws).words.length := by
      unfold more; simp only [List.length_append]; omega
    rw [if_pos h2]
    have h3 : (more E ws).words.getD p.toNat 0 = E.words.getD p.toNat 0 := by
      unfold more
      simp only [List.getD_eq_getElem?_getD]
      rw [List.getElem?_append_left (by omega)]
    rw [h3]; exact h
  · rw [if_neg hp] at h; cases h
theorem plain_more (E : Env) (ws : List Int) (m : M) (c : PC) : plainStep (more E ws) m c = plainStep E m c := rfl
theorem goes_more (E : Env) (ws : List Int) (m : M) (c : PC) (n : Int) : goesStep (more E ws) m c n = goesStep E m c n ∨ (goesStep E m c n).stop = 2 := by
  unfold goesStep
  by_cases hf : followsP c.op = 0
  · rw [if_pos hf, if_pos hf]
    simp only
    by_cases q1 : c.op = 2
    · rw [if_pos q1, if_pos q1]; exact .inl rfl
    rw [if_neg q1, if_neg q1]
    by_cases q2 : c.op = 40
    · rw [if_pos q2, if_pos q2]; exact .inl rfl
    rw [if_neg q2, if_neg q2]
    by_cases q3 : c.op = 41
    · rw [if_pos q3, if_pos q3]; exact .inl rfl
    rw [if_neg q3, if_neg q3]
    by_cases q4 : c.op = 42
    · exfalso; rw [q4] at hf; exact absurd hf (by decide)
    rw [if_neg q4, if_neg q4]
    exact .inl rfl
  · rw [if_neg hf, if_neg hf]
    cases hb : wordAt E n with
    | none => exact .inr rfl
    | some behind =>
      rw [word_more hb]
      simp only
      by_cases q1 : c.op = 2
      · rw [if_pos q1, if_pos q1]; exact .inl rfl
      rw [if_neg q1, if_neg q1]
      by_cases q2 : c.op = 40
      · rw [if_pos q2, if_pos q2]; exact .inl rfl
      rw [if_neg q2, if_neg q2]
      by_cases q3 : c.op = 41
      · rw [if_pos q3, if_pos q3]; exact .inl rfl
      rw [if_neg q3, if_neg q3]
      by_cases q4 : c.op = 42
      · rw [if_pos q4, if_pos q4]
        by_cases q5 : behind ≤ reg m c.a
        · rw [if_pos q5, if_pos q5]; exact .inl rfl
        rw [if_neg q5, if_neg q5]
        cases ht : wordAt E (n + 1 + reg m c.a) with
        | none => exact .inr rfl
        | some to => rw [word_more ht]; exact .inl rfl
      rw [if_neg q4, if_neg q4]
      exact .inl rfl
theorem step_more (E : Env) (ws : List Int) (m : M) : stepP (more E ws) m = stepP E m ∨ (stepP E m).stop = 2 := by
  unfold stepP
  cases hw : wordAt E m.place with
  | none => exact .inr rfl
  | some w =>
    rw [word_more hw]
    simp only
    by_cases he : (decP w).2 = 0
    · rw [if_pos he, if_pos he, plain_more]
      cases hp : plainStep E m (decP w).1 with
      | some m' => exact .inl rfl
      | none => exact goes_more E ws m _ _
    · rw [if_neg he, if_neg he]; exact .inl rfl
theorem runN_words (E : Env) (ws : List Int) : ∀ (k : Nat) (m : M), (runN E k m).stop ≠ 2 → runN (more E ws) k m = runN E k m
  | 0, _, _ => rfl
  | k + 1, m, h => by
    rw [runN_succ, runN_succ]
    rw [runN_succ] at h
    by_cases h0 : m.stop = 0
    · rw [if_pos h0] at h
      rw [if_pos h0, if_pos h0]
      rcases step_more E ws { m with steps := m.steps + 1 } with h1 | h1
      · rw [h1]; exact runN_words E ws k _ h
      · exfalso
        rw [runN_stop (by omega)] at h
        exact h h1
    · rw [if_neg h0, if_neg h0]
/-- Noughts behind the data. -/
theorem start_noughts (E : Env) (data : List Int) (entry : Int) (many : Nat) (h : data.length + many ≤ 524288) : start E (data ++ List.replicate many 0) entry = start E data entry := by
  unfold start
  have e : data ++ List.replicate many 0 ++ List.replicate (524288 - (data ++ List.replicate many 0).length) 0 = data ++ List.replicate (524288 - data.length) (0 : Int) := by
    rw [List.append_assoc, List.replicate_append_replicate, List.length_append, List.length_replicate]
    congr 2
    omega
  rw [e]
end Go.Proofs.YtopceggmdieppaaDoor.Emu
namespace Go.Proofs.YtopceggmdieppaaDoor.Emu
open Go.Proofs.YtopceggmdieppaaDoor.Enc

def isW (v : Int) : Prop := 0 ≤ v ∧ v < 4294967296
theorem isW_mod (a : Int) : isW (a % 4294967296) := by unfold isW; omega
def near40 (p : Int) : Prop := -1099511627776 ≤ p ∧ p ≤ 1099511627776
structure EnvOk (E : Env) : Prop where
  words : ∀ v ∈ E.words, isW v
  len : E.words.length ≤ 65536
  inp : E.input.length ≤ 10000
  ar : ∀ k a b v, E.ar k a b = some v → isW v
structure Inv (m : M) : Prop where
  rl : m.r.length = 12
  rw : ∀ v ∈ m.r, isW v
  ml : m.mem.length = 524288
  mw : ∀ v ∈ m.mem, isW v
  pl : near40 m.place
  cb : ∀ p ∈ m.calls, near40 p
  cl : m.calls.length ≤ 50
theorem isW_getD {l : List Int} (h : ∀ v ∈ l, isW v) (k : Nat) : isW (l.getD k 0) := by
  rw [List.getD_eq_getElem?_getD]
  cases hk : l[k]? with
  | none => exact ⟨Int.le_refl _, by show (0 : Int) < _; omega⟩
  | some v => exact h v (List.mem_of_getElem? hk)
theorem Inv.reg {m : M} (h : Inv m) (k : Int) : isW (reg m k) := isW_getD h.rw _
theorem isW_set {l : List Int} (h : ∀ v ∈ l, isW v) (k : Nat) {u : Int} (hu : isW u) : ∀ v ∈ l.set k u, isW v := fun v hv => by
  rcases List.mem_or_eq_of_mem_set hv with h1 | h1
  · exact h v h1
  · rw [h1]; exact hu
theorem Inv.setR {m : M} (h : Inv m) (k : Int) {v : Int} (hv : isW v) : Inv (setR m k v) :=
  ⟨by simpa [Emu.setR] using h.rl, isW_set h.rw _ hv, h.ml, h.mw, h.pl, h.cb, h.cl⟩
theorem Inv.halt {m : M} (h : Inv m) (a b : Int) : Inv (halt m a b) := ⟨h.rl, h.rw, h.ml, h.mw, h.pl, h.cb, h.cl⟩
theorem Inv.place {m : M} (h : Inv m) {p : Int} (hp : near40 p) : Inv { m with place := p } := ⟨h.rl, h.rw, h.ml, h.mw, hp, h.cb, h.cl⟩
theorem isW_near {v : Int} (h : isW v) : near40 v := ⟨by have := h.1; omega, by have := h.2; omega⟩
theorem wordAt_isW {E : Env} (hE : EnvOk E) {p v : Int} (h : wordAt E p = some v) : isW v := by
  unfold wordAt at h
  split at h
  · injection h with h; subst h; exact isW_getD hE.words _
  · cases h
section
variable {E : Env} {m m' : M} {c : PC}
theorem inv_plain (h : Inv m) (hE : EnvOk E) (he : plainStep E m c = some m') : Inv m' := by
  unfold plainStep at he
  simp only at he
  by_cases q0 : c.op = 1
  · rw [if_pos q0] at he; injection he with he; subst he; exact h.setR _ (isW_mod _)
  rw [if_neg q0] at he
  by_cases q1 : c.op = 3
  · rw [if_pos q1] at he; injection he with he; subst he; exact h.setR _ (h.reg _)
  rw [if_neg q1] at he
  by_cases q2 : c.op = 24
  · rw [if_pos q2] at he; injection he with he; subst he; exact h.setR _ (isW_mod _)
  rw [if_neg q2] at he
  by_cases q3 : c.op = 25
  · rw [if_pos q3] at he; injection he with he; subst he; exact h.setR _ (by have := h.reg c.b; unfold isW at *; omega)
  rw [if_neg q3] at he
  by_cases q4 : c.op = 26
  · rw [if_pos q4] at he; injection he with he; subst he; exact h.setR _ (by unfold isW; omega)
  rw [if_neg q4] at he
  by_cases q5 : c.op = 4
  · rw [if_pos q5] at he; injection he with he; subst he; exact h.setR _ (isW_mod _)
  rw [if_neg q5] at he
  by_cases q6 : c.op = 27
  · rw [if_pos q6] at he; injection he with he; subst he
    split
    · exact h.setR _ (isW_getD h.mw _)
    · exact h.halt _ _
  rw [if_neg q6] at he
  by_cases q7 : c.op = 28
  · rw [if_pos q7] at he; injection he with he; subst he
    split
    · exact ⟨h.rl, h.rw, by rw [List.length_set]; exact h.ml, isW_set h.mw _ (h.reg _), h.pl, h.cb, h.cl⟩
    · exact h.halt _ _
  rw [if_neg q7] at he
  by_cases q8 : c.op = 29
  · rw [if_pos q8] at he; injection he with he; subst he
    split
    · exact h.halt _ _
    · exact h
  rw [if_neg q8] at he
  by_cases q9 : c.op = 45
  · rw [if_pos q9] at he; injection he with he; subst he
    split
    · exact h.setR _ ⟨by omega, by omega⟩
    · rename_i u _
      have := h.setR c.a (v := u.toNat) ⟨by omega, by have := u.toNat_lt; omega⟩
      exact ⟨this.rl, this.rw, this.ml, this.mw, this.pl, this.cb, this.cl⟩
  rw [if_neg q9] at he
  by_cases q10 : c.op = 46
  · rw [if_pos q10] at he; injection he with he; subst he; exact ⟨h.rl, h.rw, h.ml, h.mw, h.pl, h.cb, h.cl⟩
  rw [if_neg q10] at he
  by_cases q11 : c.op = 47
  · rw [if_pos q11] at he; injection he with he; subst he; exact h.halt _ _
  rw [if_neg q11] at he
  by_cases q12 : c.op = 48
  · rw [if_pos q12] at he; injection he with he; subst he; exact h.halt _ _
  rw [if_neg q12] at he
  by_cases q13 : 5 ≤ c.op ∧ c.op ≤ 23
  · rw [if_pos q13] at he; injection he with he; subst he
    split
    · exact h.halt _ _
    · rename_i v hv
      exact h.setR _ (hE.ar _ _ _ _ hv)
  rw [if_neg q13] at he
  cases he
theorem behind_isW (hE : EnvOk E) {n v : Int} (h : (if followsP c.op = 0 then some 0 else wordAt E n) = some v) : isW v := by
  split at h
  · injection h with h; subst h; exact ⟨by omega, by omega⟩
  · exact wordAt_isW hE h
theorem inv_goes (h : Inv m) (hE : EnvOk E) {n : Int} (hn : 0 ≤ n ∧ n ≤ 65536) (hc : Within c) : Inv (goesStep E m c n) := by
  have hi := hc.imm
  unfold goesStep
  cases hb : (if followsP c.op = 0 then some 0 else wordAt E n) with
  | none => exact h.halt _ _
  | some v =>
    have hv := behind_isW hE hb
    simp only
    split
    · exact (h.setR _ hv).place ⟨by omega, by omega⟩
    split
    · exact h.place ⟨by omega, by omega⟩
    split
    · exact h.place (isW_near hv)
    split
    · split
      · exact h.halt _ _
      · split
        · exact h.halt _ _
        · rename_i u hu
          exact h.place (isW_near (wordAt_isW hE hu))
    split
    · split
      · exact h.halt _ _
      · refine ⟨h.rl, h.rw, h.ml, h.mw, isW_near hv, fun p hp => ?_, by simp; omega⟩
        rcases List.mem_append.1 hp with h1 | h1
        · exact h.cb p h1
        · have : p = n + 1 := by simpa using h1
          subst this
          exact ⟨by omega, by omega⟩
    split
    · split
      · exact h.halt _ _
      · rename_i p hp
        refine ⟨h.rl, h.rw, h.ml, h.mw, h.cb p (List.mem_of_getLast? hp), fun q hq => h.cb q (List.dropLast_subset _ hq), by simp; have := h.cl; omega⟩
    split
    · exact h.place ⟨by omega, by omega⟩
    · exact h.place ⟨by omega, by omega⟩
/-- What the machine does with an instruction, its place being behind it. -/
def doStep (E : Env) (m : M) (c : PC) : M :=
  match plainStep E m c with
  | some m' => m'
  | none => goesStep E m c m.place
theorem inv_do (h : Inv m) (hE : EnvOk E) (hn : 0 ≤ m.place ∧ m.place ≤ 65536) (hc : Within c) : Inv (doStep E m c) := by
  unfold doStep
  cases hp : plainStep E m c with
  | some m' => exact inv_plain h hE hp
  | none => exact inv_goes h hE hn hc
/-- Alike, but where a machine has stopped: there only what is told of it counts. -/
structure Eqv (m m' : M) : Prop where
  stop : m.stop = m'.stop
  code : m.code = m'.code
  bytes : m.bytes = m'.bytes
  steps : m.steps = m'.steps
  same : m'.stop = 0 → m = m'
theorem Eqv.refl (m : M) : Eqv m m := ⟨rfl, rfl, rfl, rfl, fun _ => rfl⟩
theorem Eqv.out (h : Eqv m m') : outOf m = outOf m' := by
  unfold outOf; rw [h.stop, h.code, h.bytes, h.steps]
theorem eqv_trap (m : M) (p n : Int) : Eqv (trap m n) (trap { m with place := p } n) := ⟨rfl, rfl, rfl, rfl, fun h => by cases h⟩
theorem plain_place (m : M) (c : PC) (p : Int) : plainStep E { m with place := p } c = (plainStep E m c).map fun m' => { m' with place := p } := by
  have hr : ∀ k, Emu.reg { m with place := p } k = Emu.reg m k := fun _ => rfl
  unfold plainStep
  simp only [hr]
  by_cases q0 : c.op = 1
  · rw [if_pos q0, if_pos q0]; rfl
  rw [if_neg q0, if_neg q0]
  by_cases q1 : c.op = 3
  · rw [if_pos q1, if_pos q1]; rfl
  rw [if_neg q1, if_neg q1]
  by_cases q2 : c.op = 24
  · rw [if_pos q2, if_pos q2]; rfl
  rw [if_neg q2, if_neg q2]
  by_cases q3 : c.op = 25
  · rw [if_pos q3, if_pos q3]; rfl
  rw [if_neg q3, if_neg q3]
  by_cases q4 : c.op = 26
  · rw [if_pos q4, if_pos q4]; rfl
  rw [if_neg q4, if_neg q4]
  by_cases q5 : c.op = 4
  · rw [if_pos q5, if_pos q5]; rfl
  rw [if_neg q5, if_neg q5]
  by_cases q6 : c.op = 27
  · rw [if_pos q6, if_pos q6, Option.map_some]
    by_cases e : u32 (Emu.reg m c.b + c.imm) < memN
    · rw [if_pos e, if_pos e]; rfl
    · rw [if_neg e, if_neg e]; rfl
  rw [if_neg q6, if_neg q6]
  by_cases q7 : c.op = 28
  · rw [if_pos q7, if_pos q7, Option.map_some]
    by_cases e : u32 (Emu.reg m c.b + c.imm) < memN
    · rw [if_pos e, if_pos e]
    · rw [if_neg e, if_neg e]; rfl
  rw [if_neg q7, if_neg q7]
  by_cases q8 : c.op = 29
  · rw [if_pos q8, if_pos q8, Option.map_some]
    by_cases e : Emu.reg m c.b ≤ Emu.reg m c.a
    · rw [if_pos e, if_pos e]; rfl
    · rw [if_neg e, if_neg e]
  rw [if_neg q8, if_neg q8]
  by_cases q9 : c.op = 45
  · rw [if_pos q9, if_pos q9, Option.map_some]
    cases E.input[m.at_]? <;> rfl
  rw [if_neg q9, if_neg q9]
  by_cases q10 : c.op = 46
  · rw [if_pos q10, if_pos q10]; rfl
  rw [if_neg q10, if_neg q10]
  by_cases q11 : c.op = 47
  · rw [if_pos q11, if_pos q11]; rfl
  rw [if_neg q11, if_neg q11]
  by_cases q12 : c.op = 48
  · rw [if_pos q12, if_pos q12]; rfl
  rw [if_neg q12, if_neg q12]
  by_cases q13 : 5 ≤ c.op ∧ c.op ≤ 23
  · rw [if_pos q13, if_pos q13, Option.map_some]
    cases E.ar (c.op - 5) (Emu.reg m c.b) (Emu.reg m c.imm) <;> rfl
  rw [if_neg q13, if_neg q13]; rfl
theorem goes_place (m : M) (c : PC) (p : Int) : Eqv (goesStep E m c p) (goesStep E { m with place := p } c p) := by
  have hr : ∀ k, Emu.reg { m with place := p } k = Emu.reg m k := fun _ => rfl
  unfold goesStep
  simp only [hr]
  cases (if followsP c.op = 0 then some 0 else wordAt E p) with
  | none => exact eqv_trap _ _ _
  | some v =>
    simp only
    by_cases q0 : c.op = 2
    · rw [if_pos q0, if_pos q0]; exact Eqv.refl _
    rw [if_neg q0, if_neg q0]
    by_cases q1 : c.op = 40
    · rw [if_pos q1, if_pos q1]; exact Eqv.refl _
    rw [if_neg q1, if_neg q1]
    by_cases q2 : c.op = 41
    · rw [if_pos q2, if_pos q2]; exact Eqv.refl _
    rw [if_neg q2, if_neg q2]
    by_cases q3 : c.op = 42
    · rw [if_pos q3, if_pos q3]
      by_cases e : v ≤ Emu.reg m c.a
      · rw [if_pos e, if_pos e]; exact eqv_trap _ _ _
      · rw [if_neg e, if_neg e]
        cases wordAt E (p + 1 + Emu.reg m c.a) with
        | none => exact eqv_trap _ _ _
        | some u => exact Eqv.refl _
    rw [if_neg q3, if_neg q3]
    by_cases q4 : c.op = 43
    · rw [if_pos q4, if_pos q4]
      by_cases e : 50 ≤ m.calls.length
      · rw [if_pos e, if_pos e]; exact eqv_trap _ _ _
      · rw [if_neg e, if_neg e]; exact Eqv.refl _
    rw [if_neg q4, if_neg q4]
    by_cases q5 : c.op = 44
    · rw [if_pos q5, if_pos q5]
      cases m.calls.getLast? with
      | none => exact eqv_trap _ _ _
      | some u => exact Eqv.refl _
    rw [if_neg q5, if_neg q5]
    by_cases q6 : E.holds c.op (Emu.reg m c.a) (Emu.reg m c.b) = true
    · rw [if_pos q6]; exact Eqv.refl _
    · rw [if_neg q6]; exact Eqv.refl _
theorem wordAt_some {p : Int} (h : 0 ≤ p ∧ p < E.words.length) : wordAt E p = some (E.words.getD p.toNat 0) := if_pos h
theorem wordAt_none {p : Int} (h : ¬ (0 ≤ p ∧ p < E.words.length)) : wordAt E p = none := if_neg h
theorem step_none (h : ¬ (0 ≤ m.place ∧ m.place < E.words.length)) : stepP E m = trap m 5 := by
  unfold stepP; rw [wordAt_none h]
theorem step_some (h : 0 ≤ m.place ∧ m.place < E.words.length) (he : (decP (E.words.getD m.place.toNat 0)).2 = 0) :
    Eqv (stepP E m) (doStep E { m with place := m.place + 1 } (decP (E.words.getD m.place.toNat 0)).1) := by
  unfold stepP doStep
  rw [wordAt_some h]
  simp only
  rw [if_pos he, plain_place m _ (m.place + 1)]
  cases plainStep E m (decP (E.words.getD m.place.toNat 0)).1 with
  | some m' => exact Eqv.refl _
  | none => exact goes_place _ _ _
theorem step_bad (h : 0 ≤ m.place ∧ m.place < E.words.length) (he : (decP (E.words.getD m.place.toNat 0)).2 ≠ 0) : stepP E m = trap m 4 := by
  unfold stepP
  rw [wordAt_some h]
  simp only
  rw [if_neg he]
end
end Go.Proofs.YtopceggmdieppaaDoor.Emu
