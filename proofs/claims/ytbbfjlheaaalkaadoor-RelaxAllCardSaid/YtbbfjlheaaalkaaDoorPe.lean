/- The assembler, plainly: which lists it refuses, and the words of all others. No condition. -/
import Derived.Test.YtbbfjlheaaalkaaDoorPd
namespace Go.Proofs.YtbbfjlheaaalkaaDoor.Relax
open Go.Proofs.YtbbfjlheaaalkaaDoor.Enc

def labelB (n : Int) : Bool := decide (0 ≤ n ∧ n ≤ 100000)
def codeOf (x : PL) : PC := ⟨x.op, x.a, x.b, x.imm⟩
/-- May a line be? Its Op is 0 to 48. -/
def mayL (x : PL) : Bool :=
  if x.op = 0 then x.a == 0 && x.b == 0 && x.imm == 0 && x.n == 0 && x.list.length == 0 && labelB x.label
  else if goesB x then mayP { codeOf x with imm := 0 } && x.imm == 0 && x.n == 0 && x.list.length == 0 && labelB x.label
  else if x.op = 42 then x.list.all labelB && mayP (codeOf x) && x.n == 0 && x.label == 0 && decide (1 ≤ x.list.length) && decide (x.list.length ≤ 400)
  else if x.op = 2 then mayP (codeOf x) && x.label == 0 && x.list.length == 0
  else mayP (codeOf x) && x.n == 0 && x.label == 0 && x.list.length == 0
/-- What is wrong with a line, if those ahead of it are right. -/
def lineErr (l : List PL) (i : Nat) : Int :=
  if (lineAt l i).op < 0 ∨ 48 < (lineAt l i).op then 170
  else if mayL (lineAt l i) then (if (lineAt l i).op = 0 ∧ (standsAt l (lineAt l i).label i).isSome then 172 else 0)
  else 171
/-- Does a label stand somewhere? -/
def standsB (l : List PL) (lab : Int) : Bool := (standsAt l lab l.length).isSome
def labErr (l : List PL) (i : Nat) : Int :=
  if (goesB (lineAt l i) && !standsB l (lineAt l i).label) || (lineAt l i).list.any (fun k => !standsB l k) then 173 else 0
/-- The first line of so many in which something is wrong, and what. -/
def firstErr (f : Nat → Int) : Nat → Nat → Option (Nat × Int)
  | _, 0 => none
  | i, k + 1 => if f i = 0 then firstErr f (i + 1) k else some (i, f i)
def refusedP (l : List PL) : Int × Int :=
  if 60000 < l.length then (0, 2)
  else match firstErr (lineErr l) 0 l.length with
    | some (i, e) => (i, e)
    | none => match firstErr (labErr l) 0 l.length with
      | some (i, e) => (i, e)
      | none => (0, 0)
/-- The other branch. -/
def otherP (op : Int) : Int :=
  if op = 30 then 31 else if op = 31 then 30 else if op = 32 then 33 else if op = 33 then 32 else if op = 34 then 35 else if op = 35 then 34
  else if op = 36 then 37 else if op = 37 then 36 else if op = 38 then 39 else 38
def wordOf (op a b imm : Int) : Int := (encP ⟨op, a, b, imm⟩).1
/-- The words of a line, and their kinds; `at` tells of each label where it stands. -/
def madeP (x : PL) (long : Bool) (place : Int) (at_ : Int → Int) : List (Int × Int) :=
  if x.op = 0 then []
  else if branchOp x.op && long then [(wordOf (otherP x.op) x.a x.b 2, 1), (wordOf 41 0 0 0, 1), (at_ x.label, 2)]
  else if (x.op = 40 ∧ long = true) ∨ x.op = 41 then [(wordOf 41 0 0 0, 1), (at_ x.label, 2)]
  else if branchOp x.op = true ∨ x.op = 40 then [(wordOf x.op x.a x.b (at_ x.label - place - 1), 1)]
  else if x.op = 43 then [(wordOf 43 0 0 0, 1), (at_ x.label, 2)]
  else if x.op = 2 then [(wordOf 2 x.a 0 0, 1), (x.n, 2)]
  else if x.op = 42 then (wordOf 42 x.a 0 0, 1) :: ((x.list.length : Int), 3) :: x.list.map fun k => (at_ k, 3)
  else [(wordOf x.op x.a x.b x.imm, 1)]
/-- The words of the first so many lines. -/
def wordsN (l : List PL) (g : List Bool) : Nat → List (Int × Int)
  | 0 => []
  | i + 1 => wordsN l g i ++ madeP (lineAt l i) (longAt g i) (placeP l g i) (atP l g)
structure Asm where
  words : List Int
  kinds : List Int
  places : List Int
  rounds : Int
deriving DecidableEq
def noAsm : Asm := ⟨[], [], [], 0⟩
def asmP (l : List PL) : Asm × Int × Int :=
  if (refusedP l).2 = 0 then
    (if 65536 < placeP l (longP l).1 l.length then (noAsm, 0, 174)
     else (⟨(wordsN l (longP l).1 l.length).map (·.1), (wordsN l (longP l).1 l.length).map (·.2), (List.range l.length).map fun i => (placeP l (longP l).1 i : Int), (longP l).2⟩, 0, 0))
  else (noAsm, refusedP l)
theorem exA : asmP [⟨0, 0, 0, 0, 0, 7, []⟩, ⟨44, 0, 0, 0, 0, 0, []⟩, ⟨40, 0, 0, 0, 0, 7, []⟩] = (⟨[0x2c000000, 0x2800fffe], [1, 1], [0, 0, 1], 1⟩, 0, 0) := by decide
theorem exB : asmP [⟨0, 0, 0, 0, 0, 5, []⟩, ⟨0, 0, 0, 0, 0, 5, []⟩] = (noAsm, 1, 172) ∧ asmP [⟨42, 0, 0, 0, 0, 0, []⟩] = (noAsm, 0, 171) ∧ asmP [⟨3, 0, 0, 0, 0, 1, []⟩] = (noAsm, 0, 171) ∧ asmP [] = (⟨[], [], [], 1⟩, 0, 0) := by decide
/-- A long branch over 128 words: the chapter's second example. -/
theorem exC : (longP ([⟨30, 0, 1, 0, 0, 5, []⟩] ++ List.replicate 128 ⟨44, 0, 0, 0, 0, 0, []⟩ ++ [⟨0, 0, 0, 0, 0, 5, []⟩])).2 = 2 ∧
    (longP ([⟨30, 0, 1, 0, 0, 5, []⟩] ++ List.replicate 127 ⟨44, 0, 0, 0, 0, 0, []⟩ ++ [⟨0, 0, 0, 0, 0, 5, []⟩])).2 = 1 := by decide +kernel
theorem made_len (x : PL) (long : Bool) (place : Int) (at_ : Int → Int) : (madeP x long place at_).length = sizeP x long := by
  unfold madeP sizeP branchOp
  cases long <;> (repeat' split) <;> first | rfl | (simp; done) | (simp only [Bool.and_true, Bool.and_false, Bool.false_eq_true, decide_eq_true_eq, and_true, and_false, false_or, not_false_eq_true] at *; omega) | (simp_all; done) | (simp_all; omega)
theorem words_len (l : List PL) (g : List Bool) : ∀ k, (wordsN l g k).length = placeP l g k
  | 0 => rfl
  | k + 1 => by
    show (wordsN l g k ++ _).length = placeP l g k + _
    rw [List.length_append, words_len l g k, made_len]
end Go.Proofs.YtbbfjlheaaalkaaDoor.Relax
