/- The plain functions that package lex computes, over lists of bytes. No condition. -/
import Derived.Lib.Strings
import Derived.Lib.Index
import Derived.Lib.Bytealg
import Derived.Lib.IndexBytes
namespace Go.Proofs.YtmpahpnacpfhoaaDoor
abbrev Bs := List UInt8
def blankB (c : UInt8) : Bool := decide ((9 ≤ (c.toNat : Int) ∧ (c.toNat : Int) ≤ 13) ∨ (c.toNat : Int) = 32)
def letterB (c : UInt8) : Bool := decide ((97 ≤ (c.toNat : Int) ∧ (c.toNat : Int) ≤ 122) ∨ (65 ≤ (c.toNat : Int) ∧ (c.toNat : Int) ≤ 90) ∨ (c.toNat : Int) = 95)
def digitB (c : UInt8) : Bool := decide (48 ≤ (c.toNat : Int) ∧ (c.toNat : Int) ≤ 57)
def escN (n : Int) : Int × Bool :=
  if n = 110 then (10, true) else if n = 116 then (9, true) else if n = 114 then (13, true) else if n = 48 then (0, true)
  else if n = 92 ∨ n = 39 ∨ n = 34 then (n, true) else (0, false)
def wordsL : List Bs :=
  [[98, 114, 101, 97, 107], [99, 97, 115, 101], [99, 104, 97, 114], [99, 111, 110, 116, 105, 110, 117, 101], [100, 101, 102, 97, 117, 108, 116], [100, 111],
   [101, 108, 115, 101], [101, 110, 117, 109], [102, 111, 114], [103, 111, 116, 111], [105, 102], [105, 110, 116], [114, 101, 116, 117, 114, 110],
   [115, 119, 105, 116, 99, 104], [117, 110, 115, 105, 103, 110, 101, 100], [118, 111, 105, 100], [119, 104, 105, 108, 101]]
def isWordL (l : Bs) : Bool := decide (l ∈ wordsL)
def lineLen (l : Bs) : Nat := if 0 ≤ Lib.indexByte l 10 then (Lib.indexByte l 10).toNat else l.length
def wordB (c : UInt8) : Bool := letterB c || digitB c
def runLen (l : Bs) : Nat := (l.takeWhile wordB).length
def byteL (l : Bs) (k : Nat) : Nat := (l.getD k 0).toNat
/-- The number and the length of the character that begins l; the length 0: none. -/
def charL (l : Bs) : Int × Int :=
  if 3 ≤ l.length ∧ byteL l 1 ≠ 39 ∧ byteL l 1 ≠ 92 ∧ byteL l 1 ≠ 10 ∧ byteL l 2 = 39 then (byteL l 1, 3)
  else if 4 ≤ l.length ∧ byteL l 1 = 92 ∧ byteL l 3 = 39 then
    (if (escN (byteL l 2)).2 then ((escN (byteL l 2)).1, 4) else (0, 0))
  else (0, 0)
/-- How long the sign is that begins l; 0: none. a, b, c: its first three bytes. -/
def signN (a b c : Int) : Int :=
  if a = 60 ∨ a = 62 then (if b = a ∧ c = 61 then 3 else if b = a then 2 else if b = 61 then 2 else 1)
  else if a = 43 ∨ a = 45 ∨ a = 38 ∨ a = 124 then (if b = a then 2 else if b = 61 then 2 else 1)
  else if a = 61 ∨ a = 33 ∨ a = 42 ∨ a = 47 ∨ a = 37 ∨ a = 94 then (if b = 61 then 2 else 1)
  else if a = 126 ∨ a = 63 ∨ a = 58 ∨ a = 59 ∨ a = 44 ∨ a = 40 ∨ a = 41 ∨ a = 91 ∨ a = 93 ∨ a = 123 ∨ a = 125 then 1
  else 0
def signL (l : Bs) : Int := signN (byteL l 0) (byteL l 1) (byteL l 2)
/-- A digit's value in any base; 99: it is none. -/
def digN (c : UInt8) : Nat :=
  if 48 ≤ c.toNat ∧ c.toNat ≤ 57 then c.toNat - 48
  else if 97 ≤ c.toNat ∧ c.toNat ≤ 122 then c.toNat - 97 + 10
  else if 65 ≤ c.toNat ∧ c.toNat ≤ 90 then c.toNat - 65 + 10
  else 99
def parseU (base : Nat) : Nat → Bs → Option Nat
  | n, [] => some n
  | n, c :: l => if digN c < base ∧ n * base + digN c ≤ 4294967295 then parseU base (n * base + digN c) l else none
def parseAll (base : Nat) (l : Bs) : Option Nat := if l = [] then none else parseU base 0 l
def markedL (l : Bs) : Bool := decide (byteL l (l.length - 1) = 117 ∨ byteL l (l.length - 1) = 85)
def digitsL (l : Bs) : Bs := if markedL l then l.take (l.length - 1) else l
def baseOf (d : Bs) : Nat := if Lib.hasPrefix d [48, 120] ∨ Lib.hasPrefix d [48, 88] then 16 else if Lib.hasPrefix d [48] then 8 else 10
def bodyOf (d : Bs) : Bs := if Lib.hasPrefix d [48, 120] ∨ Lib.hasPrefix d [48, 88] then d.drop 2 else d
/-- A run of letters and digits as a number, and whether it is unsigned. -/
def numL (l : Bs) : Option (Nat × Bool) :=
  (parseAll (baseOf (digitsL l)) (bodyOf (digitsL l))).map fun n => (n, markedL l || decide (2147483647 < n))
structure Tok where
  kind : Nat
  text : Bs
  num : Nat
  uns : Bool
deriving DecidableEq
def zeroTok : Tok := ⟨0, [], 0, false⟩
def nameL (l : Bs) : Tok × Nat × Nat :=
  if isWordL (l.take (runLen l)) then (⟨3, l.take (runLen l), 0, false⟩, runLen l, 0)
  else if 31 < runLen l then (zeroTok, 0, 10) else (⟨1, l.take (runLen l), 0, false⟩, runLen l, 0)
def nmbL (l : Bs) : Tok × Nat × Nat :=
  match numL (l.take (runLen l)) with
  | some (n, u) => (⟨2, [], n, u⟩, runLen l, 0)
  | none => (zeroTok, 0, 11)
def chrL (l : Bs) : Tok × Nat × Nat :=
  if (charL l).2 = 0 then (zeroTok, 0, 12) else (⟨2, [], (charL l).1.toNat, false⟩, (charL l).2.toNat, 0)
def sgnL (l : Bs) : Tok × Nat × Nat :=
  if signL l = 0 then (zeroTok, 0, 14) else (⟨4, l.take (signL l).toNat, 0, false⟩, (signL l).toNat, 0)
/-- The token with which l begins, its length, the error. -/
def readL (l : Bs) : Tok × Nat × Nat :=
  if letterB (l.getD 0 0) then nameL l
  else if digitB (l.getD 0 0) then nmbL l
  else if byteL l 0 = 39 then chrL l
  else sgnL l
def skipL : Nat → Bs → Nat → Nat × Nat
  | 0, _, a => (a, 0)
  | f + 1, l, a =>
    if a < l.length then
      (if blankB (l.getD a 0) then skipL f l (a + 1)
       else if Lib.hasPrefix (l.drop a) [47, 47] then skipL f l (a + lineLen (l.drop a))
       else if Lib.hasPrefix (l.drop a) [47, 42] then
         (if Lib.index ((l.drop a).drop 2) [42, 47] < 0 then (a, 13) else skipL f l (a + (2 + (Lib.index ((l.drop a).drop 2) [42, 47]).toNat + 2)))
       else (a, 0))
    else (a, 0)
def skipAt (l : Bs) (a : Nat) : Nat × Nat := skipL (l.length + 1) l a
/-- A token at its place. -/
abbrev PTok := Tok × Nat
def endTok : Tok := ⟨0, [], 0, false⟩
def lexL : Nat → Bs → Nat → List PTok → List PTok × Nat × Nat
  | 0, _, _, _ => ([], 0, 99)
  | f + 1, l, a, ts =>
    let b := (skipAt l a).1
    if (skipAt l a).2 ≠ 0 then ([], b, (skipAt l a).2)
    else if b = l.length then (ts ++ [(endTok, b)], 0, 0)
    else
      let r := readL (l.drop b)
      if r.2.2 ≠ 0 then ([], b, r.2.2)
      else if ts.length = 3999 then ([], b, 15)
      else lexL f l (b + r.2.1) (ts ++ [(r.1, b)])
def lexAll (l : Bs) : List PTok × Nat × Nat := if 20000 < l.length then ([], 0, 2) else lexL (l.length + 1) l 0 []
end Go.Proofs.YtmpahpnacpfhoaaDoor
