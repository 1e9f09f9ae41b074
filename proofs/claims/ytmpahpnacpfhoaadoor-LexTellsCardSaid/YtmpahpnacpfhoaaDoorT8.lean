/- The signs: the longest of the document's list with which a text begins is what lex finds. -/
import Derived.Test.YtmpahpnacpfhoaaDoorT1
namespace Go.Proofs.YtmpahpnacpfhoaaDoor
open Go.RowKit
/-- The longest sign of the list with which l begins; 0: none. -/
def refSign (l : Bs) : Int :=
  if 3 ≤ l.length ∧ isSignL (l.take 3) = true then 3 else if 2 ≤ l.length ∧ isSignL (l.take 2) = true then 2 else if 1 ≤ l.length ∧ isSignL (l.take 1) = true then 1 else 0
theorem nn (c : UInt8) (n : UInt8) : ((c.toNat : Int) = (n.toNat : Int)) ↔ c = n := by
  constructor
  · intro h; apply UInt8.toNat_inj.1; omega
  · rintro rfl; rfl
theorem n33 (c : UInt8) : ((c.toNat : Int) = 33) ↔ c = 33 := nn c 33
theorem n37 (c : UInt8) : ((c.toNat : Int) = 37) ↔ c = 37 := nn c 37
theorem n38 (c : UInt8) : ((c.toNat : Int) = 38) ↔ c = 38 := nn c 38
theorem n40 (c : UInt8) : ((c.toNat : Int) = 40) ↔ c = 40 := nn c 40
theorem n41 (c : UInt8) : ((c.toNat : Int) = 41) ↔ c = 41 := nn c 41
theorem n42 (c : UInt8) : ((c.toNat : Int) = 42) ↔ c = 42 := nn c 42
theorem n43 (c : UInt8) : ((c.toNat : Int) = 43) ↔ c = 43 := nn c 43
theorem n44 (c : UInt8) : ((c.toNat : Int) = 44) ↔ c = 44 := nn c 44
theorem n45 (c : UInt8) : ((c.toNat : Int) = 45) ↔ c = 45 := nn c 45
theorem n47 (c : UInt8) : ((c.toNat : Int) = 47) ↔ c = 47 := nn c 47
theorem n58 (c : UInt8) : ((c.toNat : Int) = 58) ↔ c = 58 := nn c 58
theorem n59 (c : UInt8) : ((c.toNat : Int) = 59) ↔ c = 59 := nn c 59
theorem n60 (c : UInt8) : ((c.toNat : Int) = 60) ↔ c = 60 := nn c 60
theorem n61 (c : UInt8) : ((c.toNat : Int) = 61) ↔ c = 61 := nn c 61
theorem n62 (c : UInt8) : ((c.toNat : Int) = 62) ↔ c = 62 := nn c 62
theorem n63 (c : UInt8) : ((c.toNat : Int) = 63) ↔ c = 63 := nn c 63
theorem n91 (c : UInt8) : ((c.toNat : Int) = 91) ↔ c = 91 := nn c 91
theorem n93 (c : UInt8) : ((c.toNat : Int) = 93) ↔ c = 93 := nn c 93
theorem n94 (c : UInt8) : ((c.toNat : Int) = 94) ↔ c = 94 := nn c 94
theorem n123 (c : UInt8) : ((c.toNat : Int) = 123) ↔ c = 123 := nn c 123
theorem n124 (c : UInt8) : ((c.toNat : Int) = 124) ↔ c = 124 := nn c 124
theorem n125 (c : UInt8) : ((c.toNat : Int) = 125) ↔ c = 125 := nn c 125
theorem n126 (c : UInt8) : ((c.toNat : Int) = 126) ↔ c = 126 := nn c 126
set_option maxHeartbeats 1000000 in
theorem sign1 (a : UInt8) : refSign [a] = signL [a] := by
  unfold refSign signL signN
  simp only [byteL, List.getD, List.getElem?_cons_zero, List.getElem?_cons_succ, List.getElem?_nil, Option.getD_some, Option.getD_none, nn, n33, n37, n38, n40, n41, n42, n43, n44, n45, n47, n58, n59, n60, n61, n62, n63, n91, n93, n94, n123, n124, n125, n126]
  simp only [isSignL, signsL, List.take, List.length_cons, List.length_nil]
  by_cases h33 : a = 33
  · subst h33
    simp_all
  by_cases h37 : a = 37
  · subst h37
    simp_all
  by_cases h38 : a = 38
  · subst h38
    simp_all
  by_cases h40 : a = 40
  · subst h40
    simp_all
  by_cases h41 : a = 41
  · subst h41
    simp_all
  by_cases h42 : a = 42
  · subst h42
    simp_all
  by_cases h43 : a = 43
  · subst h43
    simp_all
  by_cases h44 : a = 44
  · subst h44
    simp_all
  by_cases h45 : a = 45
  · subst h45
    simp_all
  by_cases h47 : a = 47
  · subst h47
    simp_all
  by_cases h58 : a = 58
  · subst h58
    simp_all
  by_cases h59 : a = 59
  · subst h59
    simp_all
  by_cases h60 : a = 60
  · subst h60
    simp_all
  by_cases h61 : a = 61
  · subst h61
    simp_all
  by_cases h62 : a = 62
  · subst h62
    simp_all
  by_cases h63 : a = 63
  · subst h63
    simp_all
  by_cases h91 : a = 91
  · subst h91
    simp_all
  by_cases h93 : a = 93
  · subst h93
    simp_all
  by_cases h94 : a = 94
  · subst h94
    simp_all
  by_cases h123 : a = 123
  · subst h123
    simp_all
  by_cases h124 : a = 124
  · subst h124
    simp_all
  by_cases h125 : a = 125
  · subst h125
    simp_all
  by_cases h126 : a = 126
  · subst h126
    simp_all
  simp_all
set_option maxHeartbeats 1000000 in
theorem sign2 (a b : UInt8) : refSign [a, b] = signL [a, b] := by
  unfold refSign signL signN
  simp only [byteL, List.getD, List.getElem?_cons_zero, List.getElem?_cons_succ, List.getElem?_nil, Option.getD_some, Option.getD_none, nn, n33, n37, n38, n40, n41, n42, n43, n44, n45, n47, n58, n59, n60, n61, n62, n63, n91, n93, n94, n123, n124, n125, n126]
  simp only [isSignL, signsL, List.take, List.length_cons, List.length_nil]
  by_cases h33 : a = 33
  · subst h33
    by_cases b = 61 <;> simp_all
  by_cases h37 : a = 37
  · subst h37
    by_cases b = 61 <;> simp_all
  by_cases h38 : a = 38
  · subst h38
    by_cases b = 38 <;> by_cases b = 61 <;> simp_all
  by_cases h40 : a = 40
  · subst h40
    simp_all
  by_cases h41 : a = 41
  · subst h41
    simp_all
  by_cases h42 : a = 42
  · subst h42
    by_cases b = 61 <;> simp_all
  by_cases h43 : a = 43
  · subst h43
    by_cases b = 43 <;> by_cases b = 61 <;> simp_all
  by_cases h44 : a = 44
  · subst h44
    simp_all
  by_cases h45 : a = 45
  · subst h45
    by_cases b = 45 <;> by_cases b = 61 <;> simp_all
  by_cases h47 : a = 47
  · subst h47
    by_cases b = 61 <;> simp_all
  by_cases h58 : a = 58
  · subst h58
    simp_all
  by_cases h59 : a = 59
  · subst h59
    simp_all
  by_cases h60 : a = 60
  · subst h60
    by_cases b = 60 <;> by_cases b = 61 <;> simp_all
  by_cases h61 : a = 61
  · subst h61
    by_cases b = 61 <;> simp_all
  by_cases h62 : a = 62
  · subst h62
    by_cases b = 61 <;> by_cases b = 62 <;> simp_all
  by_cases h63 : a = 63
  · subst h63
    simp_all
  by_cases h91 : a = 91
  · subst h91
    simp_all
  by_cases h93 : a = 93
  · subst h93
    simp_all
  by_cases h94 : a = 94
  · subst h94
    by_cases b = 61 <;> simp_all
  by_cases h123 : a = 123
  · subst h123
    simp_all
  by_cases h124 : a = 124
  · subst h124
    by_cases b = 61 <;> by_cases b = 124 <;> simp_all
  by_cases h125 : a = 125
  · subst h125
    simp_all
  by_cases h126 : a = 126
  · subst h126
    simp_all
  simp_all
set_option maxHeartbeats 1000000 in
theorem sign3 (a b c : UInt8) (t : Bs) : refSign (a :: b :: c :: t) = signL (a :: b :: c :: t) := by
  unfold refSign signL signN
  simp only [byteL, List.getD, List.getElem?_cons_zero, List.getElem?_cons_succ, Option.getD_some, nn, n33, n37, n38, n40, n41, n42, n43, n44, n45, n47, n58, n59, n60, n61, n62, n63, n91, n93, n94, n123, n124, n125, n126]
  simp only [isSignL, signsL, List.take, List.length_cons]
  by_cases h33 : a = 33
  · subst h33
    by_cases b = 61 <;> simp_all
  by_cases h37 : a = 37
  · subst h37
    by_cases b = 61 <;> simp_all
  by_cases h38 : a = 38
  · subst h38
    by_cases b = 38 <;> by_cases b = 61 <;> simp_all
  by_cases h40 : a = 40
  · subst h40
    simp_all
  by_cases h41 : a = 41
  · subst h41
    simp_all
  by_cases h42 : a = 42
  · subst h42
    by_cases b = 61 <;> simp_all
  by_cases h43 : a = 43
  · subst h43
    by_cases b = 43 <;> by_cases b = 61 <;> simp_all
  by_cases h44 : a = 44
  · subst h44
    simp_all
  by_cases h45 : a = 45
  · subst h45
    by_cases b = 45 <;> by_cases b = 61 <;> simp_all
  by_cases h47 : a = 47
  · subst h47
    by_cases b = 61 <;> simp_all
  by_cases h58 : a = 58
  · subst h58
    simp_all
  by_cases h59 : a = 59
  · subst h59
    simp_all
  by_cases h60 : a = 60
  · subst h60
    by_cases b = 60 <;> by_cases b = 61 <;> by_cases c = 61 <;> simp_all
  by_cases h61 : a = 61
  · subst h61
    by_cases b = 61 <;> simp_all
  by_cases h62 : a = 62
  · subst h62
    by_cases b = 61 <;> by_cases b = 62 <;> by_cases c = 61 <;> simp_all
  by_cases h63 : a = 63
  · subst h63
    simp_all
  by_cases h91 : a = 91
  · subst h91
    simp_all
  by_cases h93 : a = 93
  · subst h93
    simp_all
  by_cases h94 : a = 94
  · subst h94
    by_cases b = 61 <;> simp_all
  by_cases h123 : a = 123
  · subst h123
    simp_all
  by_cases h124 : a = 124
  · subst h124
    by_cases b = 61 <;> by_cases b = 124 <;> simp_all
  by_cases h125 : a = 125
  · subst h125
    simp_all
  by_cases h126 : a = 126
  · subst h126
    simp_all
  simp_all
theorem refSign_eq (l : Bs) : refSign l = signL l := by
  match l with
  | [] => rfl
  | [a] => exact sign1 a
  | [a, b] => exact sign2 a b
  | a :: b :: c :: t => exact sign3 a b c t
end Go.Proofs.YtmpahpnacpfhoaaDoor
