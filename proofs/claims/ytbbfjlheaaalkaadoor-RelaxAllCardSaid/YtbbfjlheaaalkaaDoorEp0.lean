/- The forms of instructions, plainly: what each form's fields may be, and that this is which instructions may be. No condition. -/
import Derived.Test.YtbbfjlheaaalkaaDoorEl
import Derived.Laws.BitsAllLaws
namespace Go.Proofs.YtbbfjlheaaalkaaDoor.Enc
open Go.RowKit

def formAt (k : Nat) : Int := formL.getD k 0
/-- The form of an Op. -/
def formP (op : Int) : Int := formAt op.toNat
structure PF where
  a : Int
  b : Int
  lo : Int
  hi : Int
deriving DecidableEq
def fieldsP (f : Int) : PF :=
  if f = 0 then ⟨11, 0, -32768, 32767⟩
  else if f = 1 then ⟨11, 0, 0, 0⟩
  else if f = 2 then ⟨11, 11, 0, 0⟩
  else if f = 3 then ⟨11, 11, -32768, 32767⟩
  else if f = 4 then ⟨11, 11, 0, 11⟩
  else if f = 5 then ⟨11, 11, -128, 127⟩
  else if f = 6 then ⟨0, 0, -128, 127⟩
  else if f = 8 then ⟨0, 0, 0, 255⟩
  else ⟨0, 0, 0, 0⟩
def holdP (f : PF) (c : PC) : Bool := decide (0 ≤ c.a ∧ c.a ≤ f.a ∧ 0 ≤ c.b ∧ c.b ≤ f.b ∧ f.lo ≤ c.imm ∧ c.imm ≤ f.hi)
theorem form_class (op : Int) (h1 : 1 ≤ op) (h2 : op ≤ 48) : formP op =
    (if op = 1 then 0
    else if op = 2 ∨ op = 42 ∨ op = 45 ∨ op = 46 ∨ op = 47 then 1
    else if op = 3 ∨ op = 24 ∨ op = 25 ∨ op = 26 ∨ op = 29 then 2
    else if op = 4 ∨ op = 27 ∨ op = 28 then 3
    else if 5 ≤ op ∧ op ≤ 23 then 4
    else if 30 ≤ op ∧ op ≤ 39 then 5
    else if op = 40 then 6
    else if op = 41 ∨ op = 43 ∨ op = 44 then 7
    else 8) := by
  have h : ∀ k : Nat, k < 49 → 1 ≤ k → formP (k : Int) =
    (if (k : Int) = 1 then 0
    else if (k : Int) = 2 ∨ (k : Int) = 42 ∨ (k : Int) = 45 ∨ (k : Int) = 46 ∨ (k : Int) = 47 then 1
    else if (k : Int) = 3 ∨ (k : Int) = 24 ∨ (k : Int) = 25 ∨ (k : Int) = 26 ∨ (k : Int) = 29 then 2
    else if (k : Int) = 4 ∨ (k : Int) = 27 ∨ (k : Int) = 28 then 3
    else if 5 ≤ (k : Int) ∧ (k : Int) ≤ 23 then 4
    else if 30 ≤ (k : Int) ∧ (k : Int) ≤ 39 then 5
    else if (k : Int) = 40 then 6
    else if (k : Int) = 41 ∨ (k : Int) = 43 ∨ (k : Int) = 44 then 7
    else 8) := by decide
  have := h op.toNat (by omega) (by omega)
  rwa [show ((op.toNat : Nat) : Int) = op by omega] at this
theorem may_hold {c : PC} (h1 : 1 ≤ c.op) (h2 : c.op ≤ 48) : mayP c = holdP (fieldsP (formP c.op)) c := by
  rw [form_class _ h1 h2]
  obtain ⟨op, a, b, i⟩ := c
  simp only at h1 h2 ⊢
  unfold mayP reg zero wide near trapN holdP
  simp only
  split
  · rw [Bool.eq_iff_iff]; simp [fieldsP]; omega
  split
  · rw [Bool.eq_iff_iff]; simp [fieldsP]; omega
  split
  · rw [Bool.eq_iff_iff]; simp [fieldsP]; omega
  split
  · rw [Bool.eq_iff_iff]; simp [fieldsP]; omega
  split
  · rw [Bool.eq_iff_iff]; simp [fieldsP]; omega
  split
  · rw [Bool.eq_iff_iff]; simp [fieldsP]; omega
  split
  · rw [Bool.eq_iff_iff]; simp [fieldsP]; omega
  split
  · rw [Bool.eq_iff_iff]; simp [fieldsP]; omega
  split
  · rw [Bool.eq_iff_iff]; simp [fieldsP]; omega
  · omega
/-- Why an instruction may not be. -/
def wrongP (c : PC) : Int := if isOp c.op then (if mayP c then 0 else 161) else 160
theorem form_range (op : Int) (h1 : 1 ≤ op) (h2 : op ≤ 48) : 0 ≤ formP op ∧ formP op ≤ 8 := by
  rw [form_class op h1 h2]
  repeat' split
  all_goals omega
def fV (f : PF) : Value := .agg #[.int .i64 f.a, .int .i64 f.b, .int .i64 f.lo, .int .i64 f.hi]
theorem form_cells (k : Nat) (h : k < 49) : formCells[k]? = some (.int .i64 (formAt k)) := by
  have : ∀ k : Nat, k < 49 → formL[k]? = some (formAt k) := by decide
  unfold formCells
  rw [List.getElem?_toArray, List.getElem?_map, this k h]; rfl
theorem FormsAt.cell {w : World} (h : FormsAt w) {op : Int} (h1 : 0 ≤ op) (h2 : op < 49) : w.cell? ⟨0, op.toNat, none⟩ = some (.int .i64 (formP op)) := by
  obtain ⟨t, fr, h⟩ := h
  simp [World.cell?, h, form_cells op.toNat (by omega), formP]

set_option maxHeartbeats 4000000 in
theorem hold_any (f : PF) (c : PC) (w : World) : Calls Tryd.prog 61 #[fV f, cV c] w fun e w' => e = .returned (.bool (holdP f c)) ∧ Below w.heap.size w w' := by
  obtain ⟨p, q, r, s⟩ := f
  obtain ⟨op, a, b, i⟩ := c
  unfold fV cV
  go_enter Tryd.func61, Tryd.ntmps61
  go_wp2
  all_goals go_ret
  all_goals refine ⟨ret_bool ?_, (below_one _ _).alloc (by simp) _⟩
  all_goals (rw [Bool.eq_iff_iff]; simp_all [holdP] <;> omega)
set_option maxHeartbeats 4000000 in
theorem fieldsOf_any (n : Int) (hn : 0 ≤ n ∧ n ≤ 8) (w : World) : Calls Tryd.prog 60 #[.int .i64 n] w fun e w' => e = .returned (fV (fieldsP n)) ∧ Below w.heap.size w w' := by
  have h : n = 0 ∨ n = 1 ∨ n = 2 ∨ n = 3 ∨ n = 4 ∨ n = 5 ∨ n = 6 ∨ n = 7 ∨ n = 8 := by omega
  clear hn
  rcases h with rfl | rfl | rfl | rfl | rfl | rfl | rfl | rfl | rfl
  all_goals
    go_enter Tryd.func60, Tryd.ntmps60
    go_wp2
    refine bodyPost_ret (v := fV (fieldsP _)) ?_ rfl ⟨rfl, (below_one _ _).alloc (by simp) _⟩
    simp [results, Tryd.results60, go_sem, fV, fieldsP]
end Go.Proofs.YtbbfjlheaaalkaaDoor.Enc
