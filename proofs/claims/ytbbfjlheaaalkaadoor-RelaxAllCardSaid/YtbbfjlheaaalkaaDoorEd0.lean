/- The document's May: which instructions may be. No condition. -/
import Derived.Test.YtbbfjlheaaalkaaDoorEc
import Derived.Deep.Light
import Derived.Deep.LoopGhost
import Derived.Deep.CutRange
import Derived.Deep.DeepCutAuto
namespace Go.Proofs.YtbbfjlheaaalkaaDoor.Enc
open Go.RowKit
theorem val_bool {a b : Bool} (h : a = b) : Value.bool a = .bool b := by rw [h]
theorem opClass (op : Int) : op = 1 ∨ (op = 2 ∨ op = 42 ∨ op = 45 ∨ op = 46 ∨ op = 47) ∨ (op = 3 ∨ op = 24 ∨ op = 25 ∨ op = 26 ∨ op = 29) ∨ (op = 4 ∨ op = 27 ∨ op = 28) ∨ op = 40 ∨ (op = 41 ∨ op = 43 ∨ op = 44) ∨ op = 48 ∨
    (5 ≤ op ∧ op ≤ 23) ∨ (30 ≤ op ∧ op ≤ 39) ∨ op < 1 ∨ 48 < op := by omega
theorem may_1 (a b i : Int) : mayP ⟨1, a, b, i⟩ = (reg a && zero b && wide i) := rfl
theorem may_2 (a b i : Int) : mayP ⟨2, a, b, i⟩ = (reg a && zero b && zero i) := rfl
theorem may_42 (a b i : Int) : mayP ⟨42, a, b, i⟩ = (reg a && zero b && zero i) := rfl
theorem may_45 (a b i : Int) : mayP ⟨45, a, b, i⟩ = (reg a && zero b && zero i) := rfl
theorem may_46 (a b i : Int) : mayP ⟨46, a, b, i⟩ = (reg a && zero b && zero i) := rfl
theorem may_47 (a b i : Int) : mayP ⟨47, a, b, i⟩ = (reg a && zero b && zero i) := rfl
theorem may_3 (a b i : Int) : mayP ⟨3, a, b, i⟩ = (reg a && reg b && zero i) := rfl
theorem may_24 (a b i : Int) : mayP ⟨24, a, b, i⟩ = (reg a && reg b && zero i) := rfl
theorem may_25 (a b i : Int) : mayP ⟨25, a, b, i⟩ = (reg a && reg b && zero i) := rfl
theorem may_26 (a b i : Int) : mayP ⟨26, a, b, i⟩ = (reg a && reg b && zero i) := rfl
theorem may_29 (a b i : Int) : mayP ⟨29, a, b, i⟩ = (reg a && reg b && zero i) := rfl
theorem may_4 (a b i : Int) : mayP ⟨4, a, b, i⟩ = (reg a && reg b && wide i) := rfl
theorem may_27 (a b i : Int) : mayP ⟨27, a, b, i⟩ = (reg a && reg b && wide i) := rfl
theorem may_28 (a b i : Int) : mayP ⟨28, a, b, i⟩ = (reg a && reg b && wide i) := rfl
theorem may_40 (a b i : Int) : mayP ⟨40, a, b, i⟩ = (zero a && zero b && near i) := rfl
theorem may_41 (a b i : Int) : mayP ⟨41, a, b, i⟩ = (zero a && zero b && zero i) := rfl
theorem may_43 (a b i : Int) : mayP ⟨43, a, b, i⟩ = (zero a && zero b && zero i) := rfl
theorem may_44 (a b i : Int) : mayP ⟨44, a, b, i⟩ = (zero a && zero b && zero i) := rfl
theorem may_48 (a b i : Int) : mayP ⟨48, a, b, i⟩ = (zero a && zero b && trapN i) := rfl
theorem mayP_class (op a b i : Int) : mayP ⟨op, a, b, i⟩ =
    (if op = 1 then reg a && zero b && wide i
    else if op = 2 ∨ op = 42 ∨ op = 45 ∨ op = 46 ∨ op = 47 then reg a && zero b && zero i
    else if op = 3 ∨ op = 24 ∨ op = 25 ∨ op = 26 ∨ op = 29 then reg a && reg b && zero i
    else if op = 4 ∨ op = 27 ∨ op = 28 then reg a && reg b && wide i
    else if 5 ≤ op ∧ op ≤ 23 then reg a && reg b && reg i
    else if 30 ≤ op ∧ op ≤ 39 then reg a && reg b && near i
    else if op = 40 then zero a && zero b && near i
    else if op = 41 ∨ op = 43 ∨ op = 44 then zero a && zero b && zero i
    else if op = 48 then zero a && zero b && trapN i
    else false) := rfl
theorem may_mid (op a b i : Int) (h1 : 5 ≤ op) (h2 : op ≤ 23) : mayP ⟨op, a, b, i⟩ = (reg a && reg b && reg i) := by
  rw [mayP_class]
  rw [if_neg (by omega), if_neg (by omega), if_neg (by omega), if_neg (by omega), if_pos (by omega)]
theorem may_br (op a b i : Int) (h1 : 30 ≤ op) (h2 : op ≤ 39) : mayP ⟨op, a, b, i⟩ = (reg a && reg b && near i) := by
  rw [mayP_class]
  rw [if_neg (by omega), if_neg (by omega), if_neg (by omega), if_neg (by omega), if_neg (by omega), if_pos (by omega)]
theorem may_lo (op a b i : Int) (h1 : op < 1) : mayP ⟨op, a, b, i⟩ = (false) := by
  rw [mayP_class]
  rw [if_neg (by omega), if_neg (by omega), if_neg (by omega), if_neg (by omega), if_neg (by omega), if_neg (by omega), if_neg (by omega), if_neg (by omega), if_neg (by omega)]
theorem may_hi (op a b i : Int) (h1 : 48 < op) : mayP ⟨op, a, b, i⟩ = (false) := by
  rw [mayP_class]
  rw [if_neg (by omega), if_neg (by omega), if_neg (by omega), if_neg (by omega), if_neg (by omega), if_neg (by omega), if_neg (by omega), if_neg (by omega), if_neg (by omega)]
/-- What the document's May returns of an instruction. -/
abbrev RMay (op a b i : Int) (w : World) : Prop := Calls Tryd.prog 15 #[cV ⟨op, a, b, i⟩] w fun e w' => e = .returned (.bool (mayP ⟨op, a, b, i⟩)) ∧ Below w.heap.size w w'
end Go.Proofs.YtbbfjlheaaalkaaDoor.Enc
