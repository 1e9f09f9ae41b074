/- Words of assembler lists as texts, plainly: names, numbers, registers, labels; a word that is written is read. No condition. -/
import Derived.Test.YthojmbljlehpbaaGreatDoorG01
import Derived.Lib.ItoaNum
import Derived.Lib.AtoiAll
namespace Go.Proofs.YthojmbljlehpbaaGreatDoor.Lists
open Go.Proofs.YthojmbljlehpbaaGreatDoor.Enc Go.Proofs.YthojmbljlehpbaaGreatDoor.Relax Go.Lib

inductive Wd
  | name (op : Int)
  | reg (n : Int)
  | lab (n : Int)
  | mark (n : Int)
  | num (n : Int)
deriving DecidableEq
def I64 (n : Int) : Prop := -9223372036854775808 ≤ n ∧ n ≤ 9223372036854775807
theorem uint_cons (acc : Nat) (c : UInt8) (r : List UInt8) : parseUint10 acc (c :: r) = if 48 ≤ c.toNat ∧ c.toNat ≤ 57 then (if 1844674407370955162 ≤ acc then .range else if 18446744073709551616 ≤ acc * 10 + (c.toNat - 48) then .range else parseUint10 (acc * 10 + (c.toNat - 48)) r) else .syntax := rfl
theorem uint_append : ∀ (l m : List UInt8) (acc : Nat), parseUint10 acc (l ++ m) = match parseUint10 acc l with | .ok a => parseUint10 a m | .syntax => .syntax | .range => .range
  | [], m, acc => rfl
  | c :: r, m, acc => by
    rw [List.cons_append, uint_cons, uint_cons]
    by_cases h1 : 48 ≤ c.toNat ∧ c.toNat ≤ 57
    · rw [if_pos h1, if_pos h1]
      by_cases h2 : 1844674407370955162 ≤ acc
      · rw [if_pos h2, if_pos h2]
      · rw [if_neg h2, if_neg h2]
        by_cases h3 : 18446744073709551616 ≤ acc * 10 + (c.toNat - 48)
        · rw [if_pos h3, if_pos h3]
        · rw [if_neg h3, if_neg h3]
          exact uint_append r m _
    · rw [if_neg h1, if_neg h1]
theorem dig_nat {k : Nat} (h : k < 10) : (UInt8.ofNat (48 + k)).toNat = 48 + k := by
  rw [UInt8.toNat_ofNat']
  omega
theorem digits_uint : ∀ (u : Nat), u < 18446744073709551616 → parseUint10 0 (decDigits u) = .ok u := fun u => by
  induction u using Nat.strongRecOn with
  | _ u ih =>
    intro hu
    by_cases h : u < 10
    · rw [decDigits, dif_pos h]
      unfold parseUint10
      rw [dig_nat h, if_pos (by omega), if_neg (by omega), if_neg (by omega)]
      unfold parseUint10
      congr 1; omega
    · rw [decDigits, dif_neg h, uint_append, ih (u / 10) (by omega) (by omega)]
      simp only
      unfold parseUint10
      rw [dig_nat (by omega), if_pos (by omega), if_neg (by omega), if_neg (by omega)]
      unfold parseUint10
      congr 1; omega
theorem digits_byte : ∀ (u : Nat), decDigits u ≠ [] ∧ ∀ b ∈ decDigits u, 48 ≤ b.toNat ∧ b.toNat ≤ 57 := fun u => by
  induction u using Nat.strongRecOn with
  | _ u ih =>
    by_cases h : u < 10
    · rw [decDigits, dif_pos h]
      refine ⟨by simp, fun b hb => ?_⟩
      rw [List.mem_singleton.1 hb, dig_nat h]; omega
    · rw [decDigits, dif_neg h]
      refine ⟨by simp, fun b hb => ?_⟩
      rcases List.mem_append.1 hb with hb | hb
      · exact (ih (u / 10) (by omega)).2 b hb
      · rw [List.mem_singleton.1 hb, dig_nat (by omega)]; omega
theorem itoa_byte (n : Int) : itoa n ≠ [] ∧ ∀ b ∈ itoa n, b.toNat = 45 ∨ (48 ≤ b.toNat ∧ b.toNat ≤ 57) := by
  unfold itoa
  split
  · refine ⟨by simp, fun b hb => ?_⟩
    rcases List.mem_cons.1 hb with rfl | hb
    · exact .inl rfl
    · exact .inr ((digits_byte _).2 b hb)
  · exact ⟨(digits_byte _).1, fun b hb => .inr ((digits_byte _).2 b hb)⟩
theorem atoi_itoa {n : Int} (h : I64 n) : atoiAll (itoa n) = .ok n := by
  unfold I64 at h
  unfold itoa
  by_cases h0 : n < 0
  · rw [if_pos h0]
    have h1 := digits_uint n.natAbs (by omega)
    have h2 := (digits_byte n.natAbs).1
    unfold atoiAll parseMag
    simp only
    have e45 : UInt8.toNat 45 = 45 := by decide
    rw [if_pos (show UInt8.toNat 45 = 43 ∨ UInt8.toNat 45 = 45 from .inr e45), if_neg h2, h1]
    simp only
    rw [if_neg (show ¬(¬UInt8.toNat 45 = 45 ∧ 9223372036854775808 ≤ n.natAbs) from fun h => h.1 e45), if_neg (show ¬(UInt8.toNat 45 = 45 ∧ 9223372036854775808 < n.natAbs) by omega), if_pos e45]
    congr 1; omega
  · rw [if_neg h0]
    have h1 := digits_uint n.toNat (by omega)
    obtain ⟨h2, h3⟩ := digits_byte n.toNat
    cases hd : decDigits n.toNat with
    | nil => exact absurd hd h2
    | cons c r =>
      have hc := h3 c (by rw [hd]; exact List.mem_cons_self)
      rw [hd] at h1
      unfold atoiAll parseMag
      simp only
      rw [if_neg (show ¬(c.toNat = 43 ∨ c.toNat = 45) by omega), if_neg (show ¬ (c :: r) = [] by simp), h1]
      simp only
      rw [if_neg (show ¬(¬c.toNat = 45 ∧ 9223372036854775808 ≤ n.toNat) by omega), if_neg (show ¬(c.toNat = 45 ∧ 9223372036854775808 < n.toNat) by omega), if_neg (show ¬ c.toNat = 45 by omega)]
      congr 1; omega
/-- A text that is a number as numbers are written. -/
def decimalP (s : List UInt8) : Option Int := match atoiAll s with | .ok n => if itoa n = s then some n else none | _ => none
theorem atoi_range {s : List UInt8} {n : Int} (h : atoiAll s = .ok n) : I64 n := by
  unfold I64
  cases s with
  | nil => cases h
  | cons c r =>
    unfold atoiAll at h
    simp only at h
    split at h
    · cases h
    · cases h
    · split at h
      · cases h
      · split at h
        · cases h
        · injection h with h
          split at h <;> omega
theorem decimal_itoa {n : Int} (h : I64 n) : decimalP (itoa n) = some n := by unfold decimalP; rw [atoi_itoa h]; simp
theorem decimal_some {s : List UInt8} {n : Int} (h : decimalP s = some n) : s = itoa n ∧ I64 n := by
  unfold decimalP at h
  split at h
  · rename_i m hm
    split at h
    · injection h with h
      subst h
      exact ⟨by rename_i h2; exact h2.symm, atoi_range hm⟩
    · cases h
  · cases h
theorem decimal_none {s : List UInt8} {b : UInt8} (hb : b ∈ s) (h : ¬(b.toNat = 45 ∨ (48 ≤ b.toNat ∧ b.toNat ≤ 57))) : decimalP s = none := by
  cases hd : decimalP s with
  | none => rfl
  | some n =>
    rw [(decimal_some hd).1] at hb
    exact absurd ((itoa_byte n).2 b hb) h
def namesL : List (List UInt8) := [[], [76, 73], [76, 73, 84], [77, 79, 86], [65, 68, 68, 73], [65, 68, 68], [83, 85, 66], [77, 85, 76], [68, 73, 86, 83], [68, 73, 86, 85], [82, 69, 77, 83], [82, 69, 77, 85], [65, 78, 68], [79, 82], [88, 79, 82], [83, 72, 76], [83, 72, 82, 83], [83, 72, 82, 85], [69, 81], [78, 69], [76, 84, 83], [76, 84, 85], [76, 69, 83], [76, 69, 85], [78, 69, 71], [78, 79, 84], [76, 79, 87], [76, 68], [83, 84], [67, 72, 75], [66, 69, 81], [66, 78, 69], [66, 76, 84, 83], [66, 71, 69, 83], [66, 76, 69, 83], [66, 71, 84, 83], [66, 76, 84, 85], [66, 71, 69, 85], [66, 76, 69, 85], [66, 71, 84, 85], [74, 77, 80], [74, 77, 76], [74, 84, 65, 66], [67, 65, 76, 76], [82, 69, 84], [71, 69, 84, 67], [80, 85, 84, 67], [69, 88, 73, 84], [84, 82, 65, 80]]
def nameB (op : Int) : List UInt8 := namesL.getD op.toNat []
def opOf (s : List UInt8) : Option Int := match namesL.findIdx? (fun nm => decide (nm = s)) with | some (k + 1) => some ((k + 1 : Nat) : Int) | _ => none
theorem names_up : namesL.all (fun nm => nm.all fun b => decide (65 ≤ b.toNat ∧ b.toNat ≤ 90)) = true := by decide
theorem names_len : namesL.length = 49 := by decide
theorem names_full : (namesL.drop 1).all (fun nm => nm != []) = true := by decide
theorem op_name_fin : ∀ k : Fin 49, k.val ≠ 0 → opOf (nameB (k.val : Int)) = some (k.val : Int) := by decide +kernel
theorem op_name {op : Int} (h : 1 ≤ op ∧ op ≤ 48) : opOf (nameB op) = some op := by
  have := op_name_fin ⟨op.toNat, by omega⟩ (by simp only; omega)
  simp only at this
  rw [show ((op.toNat : Nat) : Int) = op by omega] at this
  exact this
theorem op_some {s : List UInt8} {op : Int} (h : opOf s = some op) : s = nameB op ∧ 1 ≤ op ∧ op ≤ 48 := by
  unfold opOf at h
  split at h
  · rename_i k hk
    injection h with h
    subst h
    obtain ⟨h1, h2, _⟩ := List.findIdx?_eq_some_iff_getElem.1 hk
    rw [names_len] at h1
    refine ⟨?_, by omega, by omega⟩
    unfold nameB
    rw [Int.toNat_natCast, List.getD_eq_getElem?_getD, List.getElem?_eq_getElem (by rw [names_len]; exact h1)]
    exact (of_decide_eq_true h2).symm
  · cases h
theorem name_byte {op : Int} {b : UInt8} (h : b ∈ nameB op) : 65 ≤ b.toNat ∧ b.toNat ≤ 90 := by
  unfold nameB at h
  rw [List.getD_eq_getElem?_getD] at h
  cases hq : namesL[op.toNat]? with
  | none => rw [hq] at h; exact absurd h List.not_mem_nil
  | some nm =>
    rw [hq] at h
    have h1 := List.all_eq_true.1 names_up nm (List.mem_of_getElem? hq)
    have h2 := List.all_eq_true.1 h1 b h
    simpa using h2
theorem name_full {op : Int} (h : 1 ≤ op ∧ op ≤ 48) : nameB op ≠ [] := by
  have h0 : op.toNat < namesL.length := by rw [names_len]; omega
  have h1 : nameB op ∈ namesL.drop 1 := by
    unfold nameB
    rw [List.getD_eq_getElem?_getD, List.getElem?_eq_getElem h0]
    refine List.mem_of_getElem? (i := op.toNat - 1) ?_
    rw [List.getElem?_drop, show 1 + (op.toNat - 1) = op.toNat by omega, List.getElem?_eq_getElem h0]; rfl
  have := List.all_eq_true.1 names_full _ h1
  simpa using this
theorem op_none {s : List UInt8} {b : UInt8} (hb : b ∈ s) (h : ¬(65 ≤ b.toNat ∧ b.toNat ≤ 90)) : opOf s = none := by
  cases hd : opOf s with
  | none => rfl
  | some n =>
    rw [(op_some hd).1] at hb
    exact absurd (name_byte hb) h
def behind (c : UInt8) (s : List UInt8) : Option Int := match s with | [] => none | b :: r => if b = c then decimalP r else none
theorem behind_eq (c : UInt8) (r : List UInt8) : behind c (c :: r) = decimalP r := by unfold behind; simp
theorem behind_ne {b c : UInt8} (h : b ≠ c) (r : List UInt8) : behind c (b :: r) = none := by unfold behind; simp [h]
/-- Which word a text is. -/
def wordP (s : List UInt8) : Option Wd :=
  match opOf s with
  | some op => some (.name op)
  | none => match decimalP s with
    | some n => some (.num n)
    | none => match behind 82 s with
      | some n => some (.reg n)
      | none => match behind 76 s with
        | some n => some (.lab n)
        | none => if s.getLast? = some 58 then (match behind 76 s.dropLast with | some n => some (.mark n) | none => none) else none
def textW : Wd → List UInt8
  | .name op => nameB op
  | .reg n => 82 :: itoa n
  | .lab n => 76 :: itoa n
  | .mark n => 76 :: (itoa n ++ [58])
  | .num n => itoa n
def okW : Wd → Prop
  | .name op => 1 ≤ op ∧ op ≤ 48
  | .reg n => I64 n
  | .lab n => I64 n
  | .mark n => I64 n
  | .num n => I64 n
theorem itoa_cons (n : Int) : ∃ b r, itoa n = b :: r ∧ (b.toNat = 45 ∨ (48 ≤ b.toNat ∧ b.toNat ≤ 57)) := by
  obtain ⟨h1, h2⟩ := itoa_byte n
  cases hd : itoa n with
  | nil => exact absurd hd h1
  | cons b r => exact ⟨b, r, rfl, h2 b (by rw [hd]; exact List.mem_cons_self)⟩
/-- A word that is written is read. -/
theorem word_text {x : Wd} (h : okW x) : wordP (textW x) = some x := by
  cases x with
  | name op => show wordP (nameB op) = _; unfold wordP; rw [op_name h]
  | num n =>
    obtain ⟨b, r, e, hb⟩ := itoa_cons n
    show wordP (itoa n) = _
    unfold wordP
    rw [op_none (b := b) (by rw [e]; exact List.mem_cons_self) (by omega), decimal_itoa h]
  | reg n =>
    obtain ⟨b, r, e, hb⟩ := itoa_cons n
    show wordP (82 :: itoa n) = _
    unfold wordP
    rw [op_none (b := b) (by rw [e]; simp) (by omega), decimal_none (b := 82) List.mem_cons_self (by decide)]
    rw [behind_eq, decimal_itoa h]
  | lab n =>
    obtain ⟨b, r, e, hb⟩ := itoa_cons n
    show wordP (76 :: itoa n) = _
    unfold wordP
    rw [op_none (b := b) (by rw [e]; simp) (by omega), decimal_none (b := 76) List.mem_cons_self (by decide)]
    rw [behind_ne (by decide), behind_eq, decimal_itoa h]
  | mark n =>
    obtain ⟨b, r, e, hb⟩ := itoa_cons n
    show wordP (76 :: (itoa n ++ [58])) = _
    unfold wordP
    rw [op_none (b := b) (by rw [e]; simp) (by omega), decimal_none (b := 76) List.mem_cons_self (by decide)]
    rw [behind_ne (by decide), behind_eq, decimal_none (b := 58) (by simp) (by decide)]
    have h1 : (76 :: (itoa n ++ [58]) : List UInt8).getLast? = some 58 := by rw [← List.cons_append, List.getLast?_append]; rfl
    have h2 : (76 :: (itoa n ++ [58]) : List UInt8).dropLast = 76 :: itoa n := by rw [← List.cons_append, List.dropLast_concat]
    simp only [h1, h2, if_pos]
    rw [behind_eq, decimal_itoa h]
/-- No word bears a blank, a line's end or a remark's sign. -/
def plainB (b : UInt8) : Bool := b != 10 && b != 32 && b != 9 && b != 59
theorem plain_of {b : UInt8} (h : b.toNat = 45 ∨ (48 ≤ b.toNat ∧ b.toNat ≤ 58) ∨ (65 ≤ b.toNat ∧ b.toNat ≤ 90)) : plainB b = true := by
  unfold plainB
  simp only [Bool.and_eq_true, bne_iff_ne, ne_eq]
  refine ⟨⟨⟨?_, ?_⟩, ?_⟩, ?_⟩ <;> (intro e; subst e; revert h; decide)
theorem text_plain {x : Wd} (h : okW x) : textW x ≠ [] ∧ ∀ b ∈ textW x, plainB b = true := by
  have hi : ∀ n, ∀ b ∈ itoa n, plainB b = true := fun n b hb => plain_of (by have := (itoa_byte n).2 b hb; omega)
  cases x with
  | name op => exact ⟨name_full h, fun b hb => plain_of (.inr (.inr (name_byte hb)))⟩
  | num n => exact ⟨(itoa_byte n).1, hi n⟩
  | reg n =>
    refine ⟨by simp [textW], fun b hb => ?_⟩
    rcases List.mem_cons.1 hb with rfl | hb
    · decide
    · exact hi n b hb
  | lab n =>
    refine ⟨by simp [textW], fun b hb => ?_⟩
    rcases List.mem_cons.1 hb with rfl | hb
    · decide
    · exact hi n b hb
  | mark n =>
    refine ⟨by simp [textW], fun b hb => ?_⟩
    rcases List.mem_cons.1 hb with rfl | hb
    · decide
    · rcases List.mem_append.1 hb with hb | hb
      · exact hi n b hb
      · rw [List.mem_singleton.1 hb]; decide
end Go.Proofs.YthojmbljlehpbaaGreatDoor.Lists
namespace Go.Proofs.YthojmbljlehpbaaGreatDoor.Lists
open Go.Proofs.YthojmbljlehpbaaGreatDoor.Enc Go.Proofs.YthojmbljlehpbaaGreatDoor.Relax Go.Lib

/-- May a line be, whatever the others are? -/
def mayB (x : PL) : Bool := decide (0 ≤ x.op ∧ x.op ≤ 48) && mayL x
def isCodeB (c : PC) : Bool := decide ((encP c).2 = 0)
def reckonsB (op : Int) : Bool := decide (5 ≤ op ∧ op ≤ 23)
def countsB (op : Int) : Bool := isCodeB ⟨op, 0, 0, 1⟩ && !reckonsB op
def leadsB (op : Int) : Bool := decide (30 ≤ op ∧ op ≤ 41) || decide (op = 43)
def regsW (c : PC) : List Wd :=
  .name c.op :: ((if isCodeB ⟨c.op, 1, 0, 0⟩ then [.reg c.a] else []) ++ ((if isCodeB ⟨c.op, 0, 1, 0⟩ then [.reg c.b] else []) ++ (if reckonsB c.op then [.reg c.imm] else [])))
def codeW (c : PC) : List Wd := regsW c ++ (if countsB c.op then [.num c.imm] else [])
/-- The words of a line. -/
def wordsL (x : PL) : List Wd :=
  if x.op = 0 then [.mark x.label]
  else if x.op = 2 then regsW (codeOf x) ++ [.num x.n]
  else if leadsB x.op then regsW (codeOf x) ++ [.lab x.label]
  else codeW (codeOf x) ++ x.list.map .lab
/-- A line that is filled, word by word. -/
structure Fl where
  line : PL
  regs : Nat
deriving DecidableEq
def noL : PL := ⟨0, 0, 0, 0, 0, 0, []⟩
def putW (f : Fl) : Option Wd → Fl
  | some (.name op) => { f with line := { f.line with op := op } }
  | some (.reg n) => { line := (if f.regs = 0 then { f.line with a := n } else if f.regs = 1 then { f.line with b := n } else if f.regs = 2 then { f.line with imm := n } else f.line), regs := f.regs + 1 }
  | some (.num n) => if f.line.op = 2 then { f with line := { f.line with n := n % 4294967296 } } else { f with line := { f.line with imm := n } }
  | some (.lab n) => if f.line.op = 42 then { f with line := { f.line with list := f.line.list ++ [n] } } else { f with line := { f.line with label := n } }
  | some (.mark n) => { f with line := { f.line with label := n } }
  | none => f
def fillP (ws : List (Option Wd)) : PL := (ws.foldl putW ⟨noL, 0⟩).line
/-- The line that has just these words. -/
def lineP (ws : List (Option Wd)) : Option PL := if mayB (fillP ws) && decide ((wordsL (fillP ws)).map some = ws) then some (fillP ws) else none
theorem fill_labs : ∀ (l : List Int) (f : Fl), f.line.op = 42 → (l.map fun n => some (Wd.lab n)).foldl putW f = { f with line := { f.line with list := f.line.list ++ l } }
  | [], f, _ => by simp
  | n :: t, f, h => by
    rw [List.map_cons, List.foldl_cons]
    have h1 : putW f (some (.lab n)) = { f with line := { f.line with list := f.line.list ++ [n] } } := by
      show (if f.line.op = 42 then _ else _) = _
      rw [if_pos h]
    rw [h1, fill_labs t { f with line := { f.line with list := f.line.list ++ [n] } } h]
    simp
theorem ops49 {op : Int} (h : 0 ≤ op ∧ op ≤ 48) : ∃ k : Fin 49, op = (k.val : Int) := ⟨⟨op.toNat, by omega⟩, by simp only; omega⟩
set_option maxHeartbeats 4000000 in
/-- What a line that may be bears besides its words is nought. -/
theorem fill_words {x : PL} (h : mayB x = true) (hn : 0 ≤ x.n ∧ x.n < 4294967296) : fillP ((wordsL x).map some) = x := by
  obtain ⟨op, a, b, imm, n, label, list⟩ := x
  unfold mayB at h
  rw [Bool.and_eq_true, decide_eq_true_eq] at h
  obtain ⟨h0, hm⟩ := h
  simp only at h0 hn
  have hmod : n % 4294967296 = n := Int.emod_eq_of_lt hn.1 hn.2
  have hk : op = 0 ∨ op = 1 ∨ op = 2 ∨ op = 3 ∨ op = 4 ∨ op = 5 ∨ op = 6 ∨ op = 7 ∨ op = 8 ∨ op = 9 ∨ op = 10 ∨ op = 11 ∨ op = 12 ∨ op = 13 ∨ op = 14 ∨ op = 15 ∨ op = 16 ∨ op = 17 ∨ op = 18 ∨ op = 19 ∨ op = 20 ∨ op = 21 ∨ op = 22 ∨ op = 23 ∨ op = 24 ∨ op = 25 ∨ op = 26 ∨ op = 27 ∨ op = 28 ∨ op = 29 ∨ op = 30 ∨ op = 31 ∨ op = 32 ∨ op = 33 ∨ op = 34 ∨ op = 35 ∨ op = 36 ∨ op = 37 ∨ op = 38 ∨ op = 39 ∨ op = 40 ∨ op = 41 ∨ op = 42 ∨ op = 43 ∨ op = 44 ∨ op = 45 ∨ op = 46 ∨ op = 47 ∨ op = 48 := by omega
  rcases hk with rfl | rfl | rfl | rfl | rfl | rfl | rfl | rfl | rfl | rfl | rfl | rfl | rfl | rfl | rfl | rfl | rfl | rfl | rfl | rfl | rfl | rfl | rfl | rfl | rfl | rfl | rfl | rfl | rfl | rfl | rfl | rfl | rfl | rfl | rfl | rfl | rfl | rfl | rfl | rfl | rfl | rfl | rfl | rfl | rfl | rfl | rfl | rfl | rfl
  case inr.inr.inr.inr.inr.inr.inr.inr.inr.inr.inr.inr.inr.inr.inr.inr.inr.inr.inr.inr.inr.inr.inr.inr.inr.inr.inr.inr.inr.inr.inr.inr.inr.inr.inr.inr.inr.inr.inr.inr.inr.inr.inl =>
    dsimp only [mayL, goesB, isBr, branchOp, mayP, codeOf, reg, zero] at hm
    simp at hm
    have e : wordsL ⟨42, a, b, imm, n, label, list⟩ = [.name 42, .reg a] ++ list.map .lab := by
      simp [wordsL, codeW, regsW, codeOf, isCodeB, encP, isOp, mayP, reg, zero, reckonsB, countsB, leadsB]
    rw [e]
    unfold fillP
    rw [List.map_append, List.foldl_append, List.map_map]
    show (List.foldl putW _ (list.map fun n => some (Wd.lab n))).line = _
    rw [fill_labs _ _ (by simp [putW])]
    simp [putW, noL]
    omega
  all_goals
    dsimp only [mayL, goesB, isBr, branchOp, mayP, codeOf, reg, zero, wide, near, trapN] at hm
    simp at hm
  all_goals
    simp [fillP, wordsL, codeW, regsW, codeOf, isCodeB, encP, isOp, mayP, reg, zero, wide, near, trapN, reckonsB, countsB, leadsB, putW, noL, hmod]
  all_goals (first | omega | (simp_all; done) | (simp_all; omega))
theorem line_words {x : PL} (h : mayB x = true) (hn : 0 ≤ x.n ∧ x.n < 4294967296) : lineP ((wordsL x).map some) = some x := by
  unfold lineP
  rw [fill_words h hn, h, decide_eq_true rfl]; rfl
theorem line_some {ws : List (Option Wd)} {x : PL} (h : lineP ws = some x) : mayB x = true ∧ ws = (wordsL x).map some := by
  unfold lineP at h
  split at h
  · rename_i h1
    injection h with h
    subst h
    rw [Bool.and_eq_true, decide_eq_true_eq] at h1
    exact ⟨h1.1, h1.2.symm⟩
  · cases h
theorem put_n {f : Fl} (w : Option Wd) (h : 0 ≤ f.line.n ∧ f.line.n < 4294967296) : 0 ≤ (putW f w).line.n ∧ (putW f w).line.n < 4294967296 := by
  have hm : ∀ n : Int, 0 ≤ n % 4294967296 ∧ n % 4294967296 < 4294967296 := fun n => ⟨Int.emod_nonneg _ (by decide), Int.emod_lt_of_pos _ (by decide)⟩
  rcases w with _ | w
  · exact h
  · cases w with
    | name op => exact h
    | reg n =>
      show 0 ≤ (if f.regs = 0 then _ else if f.regs = 1 then _ else if f.regs = 2 then _ else f.line : PL).n ∧ (if f.regs = 0 then _ else if f.regs = 1 then _ else if f.regs = 2 then _ else f.line : PL).n < _
      (repeat' split) <;> exact h
    | lab n =>
      show 0 ≤ (if f.line.op = 42 then _ else _ : Fl).line.n ∧ (if f.line.op = 42 then _ else _ : Fl).line.n < _
      split <;> exact h
    | mark n => exact h
    | num n =>
      show 0 ≤ (if f.line.op = 2 then _ else _ : Fl).line.n ∧ (if f.line.op = 2 then _ else _ : Fl).line.n < _
      split
      · exact hm n
      · exact h
theorem fill_n (ws : List (Option Wd)) : 0 ≤ (fillP ws).n ∧ (fillP ws).n < 4294967296 := by
  have key : ∀ (ws : List (Option Wd)) (f : Fl), (0 ≤ f.line.n ∧ f.line.n < 4294967296) → 0 ≤ (ws.foldl putW f).line.n ∧ (ws.foldl putW f).line.n < 4294967296 := fun ws => by
    induction ws with
    | nil => intro f h; exact h
    | cons w t ih => intro f h; exact ih _ (put_n w h)
  exact key ws _ (by decide)
theorem line_n {ws : List (Option Wd)} {x : PL} (h : lineP ws = some x) : 0 ≤ x.n ∧ x.n < 4294967296 := by
  unfold lineP at h
  split at h
  · injection h with h
    rw [← h]; exact fill_n ws
  · cases h
/-- A line that may be, and whose number is a word. -/
def fineL (x : PL) : Prop := mayB x = true ∧ 0 ≤ x.n ∧ x.n < 4294967296
theorem fine_line {x : PL} (h : fineL x) : lineP ((wordsL x).map some) = some x := line_words h.1 h.2
theorem may_parts {x : PL} (h : mayB x = true) : (0 ≤ x.op ∧ x.op ≤ 48) ∧ mayL x = true := by
  unfold mayB at h
  rwa [Bool.and_eq_true, decide_eq_true_eq] at h
theorem i64_small {n : Int} (h : -100000 ≤ n ∧ n ≤ 4294967296) : I64 n := by unfold I64; omega
/-- The numbers of a line that may be are small. -/
theorem may_small {x : PL} (h : mayB x = true) (h0 : x.op ≠ 0) : I64 x.a ∧ I64 x.b ∧ I64 x.imm := by
  obtain ⟨_, hm⟩ := may_parts h
  have key : ∀ c : PC, mayP c = true → I64 c.a ∧ I64 c.b ∧ I64 c.imm := fun c hc => by
    have := (within hc)
    have h1 := this.a
    have h2 := this.b
    have h3 := this.imm
    exact ⟨i64_small (by omega), i64_small (by omega), i64_small (by omega)⟩
  unfold mayL at hm
  rw [if_neg h0] at hm
  have hz : I64 0 := i64_small (by omega)
  split at hm
  · simp only [Bool.and_eq_true, beq_iff_eq] at hm
    obtain ⟨⟨⟨⟨h1, h2⟩, _⟩, _⟩, _⟩ := hm
    have := key _ h1
    exact ⟨this.1, this.2.1, by rw [h2]; exact hz⟩
  · split at hm
    · simp only [Bool.and_eq_true, beq_iff_eq] at hm
      exact key _ hm.1.1.1.1.2
    · split at hm
      · simp only [Bool.and_eq_true, beq_iff_eq] at hm
        exact key _ hm.1.1
      · simp only [Bool.and_eq_true, beq_iff_eq] at hm
        exact key _ hm.1.1.1
theorem lab_small {n : Int} (h : labelB n = true) : I64 n := by
  unfold labelB at h
  rw [decide_eq_true_eq] at h
  exact i64_small (by omega)
theorem may_label {x : PL} (h : mayB x = true) : I64 x.label := by
  obtain ⟨_, hm⟩ := may_parts h
  have hz : I64 0 := i64_small (by omega)
  unfold mayL at hm
  split at hm
  · simp only [Bool.and_eq_true, beq_iff_eq] at hm; exact lab_small hm.2
  · split at hm
    · simp only [Bool.and_eq_true, beq_iff_eq] at hm; exact lab_small hm.2
    · split at hm
      · simp only [Bool.and_eq_true, beq_iff_eq] at hm; rw [hm.1.1.2]; exact hz
      · split at hm
        · simp only [Bool.and_eq_true, beq_iff_eq] at hm; rw [hm.1.2]; exact hz
        · simp only [Bool.and_eq_true, beq_iff_eq] at hm; rw [hm.1.2]; exact hz
theorem may_list {x : PL} (h : mayB x = true) : (∀ k ∈ x.list, I64 k) ∧ x.list.length ≤ 400 ∧ (x.op ≠ 42 → x.list = []) := by
  obtain ⟨_, hm⟩ := may_parts h
  have nil : x.list.length = 0 → (∀ k ∈ x.list, I64 k) ∧ x.list.length ≤ 400 ∧ (x.op ≠ 42 → x.list = []) := fun h => by
    have h2 := List.eq_nil_of_length_eq_zero h
    rw [h2]; exact ⟨fun k hk => absurd hk List.not_mem_nil, by decide, fun _ => rfl⟩
  unfold mayL at hm
  split at hm
  · simp only [Bool.and_eq_true, beq_iff_eq] at hm; exact nil hm.1.2
  · split at hm
    · simp only [Bool.and_eq_true, beq_iff_eq] at hm; exact nil hm.1.2
    · split at hm
      · rename_i h42
        simp only [Bool.and_eq_true, beq_iff_eq, decide_eq_true_eq, List.all_eq_true] at hm
        exact ⟨fun k hk => lab_small (hm.1.1.1.1.1 k hk), hm.2, fun h => absurd h42 h⟩
      · split at hm
        · simp only [Bool.and_eq_true, beq_iff_eq] at hm; exact nil hm.2
        · simp only [Bool.and_eq_true, beq_iff_eq] at hm; exact nil hm.2
theorem regs_ok {x : PL} (h : mayB x = true) (h0 : x.op ≠ 0) : ∀ w ∈ regsW (codeOf x), okW w := by
  have ho := (may_parts h).1
  obtain ⟨h1, h2, h3⟩ := may_small h h0
  intro w hw
  unfold regsW codeOf at hw
  simp only [List.mem_cons, List.mem_append] at hw
  rcases hw with rfl | hw | hw | hw
  · show 1 ≤ x.op ∧ x.op ≤ 48; omega
  · split at hw
    · rw [List.mem_singleton.1 hw]; exact h1
    · exact absurd hw List.not_mem_nil
  · split at hw
    · rw [List.mem_singleton.1 hw]; exact h2
    · exact absurd hw List.not_mem_nil
  · split at hw
    · rw [List.mem_singleton.1 hw]; exact h3
    · exact absurd hw List.not_mem_nil
theorem regs_len (c : PC) : 1 ≤ (regsW c).length ∧ (regsW c).length ≤ 4 := by
  unfold regsW
  simp only [List.length_cons, List.length_append]
  (repeat' split) <;> simp
theorem words_ok {x : PL} (h : fineL x) : (∀ w ∈ wordsL x, okW w) ∧ 1 ≤ (wordsL x).length ∧ (wordsL x).length ≤ 402 := by
  obtain ⟨hm, hn⟩ := h
  have hl := regs_len (codeOf x)
  obtain ⟨hk1, hk2, hk3⟩ := may_list hm
  unfold wordsL
  split
  · exact ⟨fun w hw => by rw [List.mem_singleton.1 hw]; exact may_label hm, by simp, by simp⟩
  · rename_i h0
    split
    · refine ⟨fun w hw => ?_, by simp, by rw [List.length_append, List.length_singleton]; omega⟩
      rcases List.mem_append.1 hw with hw | hw
      · exact regs_ok hm h0 w hw
      · rw [List.mem_singleton.1 hw]; exact i64_small (by omega)
    · split
      · refine ⟨fun w hw => ?_, by simp, by rw [List.length_append, List.length_singleton]; omega⟩
        rcases List.mem_append.1 hw with hw | hw
        · exact regs_ok hm h0 w hw
        · rw [List.mem_singleton.1 hw]; exact may_label hm
      · unfold codeW
        refine ⟨fun w hw => ?_, by rw [List.length_append, List.length_append]; omega, ?_⟩
        · rcases List.mem_append.1 hw with hw | hw
          · rcases List.mem_append.1 hw with hw | hw
            · exact regs_ok hm h0 w hw
            · split at hw
              · rw [List.mem_singleton.1 hw]; exact (may_small hm h0).2.2
              · exact absurd hw List.not_mem_nil
          · obtain ⟨k, hk, rfl⟩ := List.mem_map.1 hw
            exact hk1 k hk
        · by_cases h42 : x.op = 42
          · have e : regsW (codeOf x) ++ (if countsB (codeOf x).op then [Wd.num (codeOf x).imm] else []) = [.name 42, .reg x.a] := by
              unfold regsW codeOf countsB
              simp only [h42]
              rfl
            rw [e, List.length_append, List.length_map]
            simp; omega
          · rw [hk3 h42]
            simp only [List.map_nil, List.append_nil, List.length_append]
            split <;> simp <;> omega
end Go.Proofs.YthojmbljlehpbaaGreatDoor.Lists
