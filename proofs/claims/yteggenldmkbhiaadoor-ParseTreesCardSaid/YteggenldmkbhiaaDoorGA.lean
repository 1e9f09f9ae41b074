/- What is plain about the words of a source, and how their tokens lie in memory. No condition. -/
import Derived.Lib.Strings
import Derived.Lib.Index
import Derived.Lib.Bytealg
import Derived.Lib.IndexBytes
import Derived.WalkKit
import Derived.WalkSpells
import Derived.WalkLawsBesides
import Derived.Lib.Hide
import Derived.Deep.QuietTactic
import Derived.BigQuiet
import Derived.Lib.ConvBytes
import Derived.Lib.AtoiErrMem
import Derived.Laws.Closers25
import Derived.Laws.Closers25b
import Derived.BigCall
import Derived.BigGuard
import Derived.WalkSmall
namespace Go.Proofs.YteggenldmkbhiaaDoor
open Go.RowKit
abbrev Bs := List UInt8
def blankB (c : UInt8) : Bool := decide ((9 ≤ (c.toNat : Int) ∧ (c.toNat : Int) ≤ 13) ∨ (c.toNat : Int) = 32)
def letterB (c : UInt8) : Bool := decide ((97 ≤ (c.toNat : Int) ∧ (c.toNat : Int) ≤ 122) ∨ (65 ≤ (c.toNat : Int) ∧ (c.toNat : Int) ≤ 90) ∨ (c.toNat : Int) = 95)
def digitB (c : UInt8) : Bool := decide (48 ≤ (c.toNat : Int) ∧ (c.toNat : Int) ≤ 57)
def escN (n : Int) : Int × Bool :=
  if n = 110 then (10, true) else if n = 116 then (9, true) else if n = 114 then (13, true) else if n = 48 then (0, true)
  else if n = 92 ∨ n = 39 ∨ n = 34 then (n, true) else (0, false)
def wordsL : List Bs :=
  [[98, 114, 101, 97, 107], [99, 97, 115, 101], [99, 104, 97, 114], [99, 111, 110, 116, 105, 110, 117, 101], [100, 101, 102, 97, 117, 108, 116], [100, 111],
   [101, 108, 115, 101], [101, 110, 117, 109], [102, 111, 114], [103, 111, 116, 111], [105, 102], [105, 110, 116], [114, 101, 116, 117, 114, 110],
   [115, 119, 105, 116, 99, 104], [117, 110, 115, 105, 103, 110, 101, 100], [118, 111, 105, 100], [119, 104, 105, 108, 101]]
def isWordL (l : Bs) : Bool := decide (l ∈ wordsL)
def lineLen (l : Bs) : Nat := if 0 ≤ Lib.indexByte l 10 then (Lib.indexByte l 10).toNat else l.length
def wordB (c : UInt8) : Bool := letterB c || digitB c
def runLen (l : Bs) : Nat := (l.takeWhile wordB).length
def byteL (l : Bs) (k : Nat) : Nat := (l.getD k 0).toNat
/-- The number and the length of the character that begins l; the length 0: none. -/
def charL (l : Bs) : Int × Int :=
  if 3 ≤ l.length ∧ byteL l 1 ≠ 39 ∧ byteL l 1 ≠ 92 ∧ byteL l 1 ≠ 10 ∧ byteL l 2 = 39 then (byteL l 1, 3)
  else if 4 ≤ l.length ∧ byteL l 1 = 92 ∧ byteL l 3 = 39 then
    (if (escN (byteL l 2)).2 then ((escN (byteL l 2)).1, 4) else (0, 0))
  else (0, 0)
/-- How long the sign is that begins l; 0: none. a, b, c: its first three bytes. -/
def signN (a b c : Int) : Int :=
  if a = 60 ∨ a = 62 then (if b = a ∧ c = 61 then 3 else if b = a then 2 else if b = 61 then 2 else 1)
  else if a = 43 ∨ a = 45 ∨ a = 38 ∨ a = 124 then (if b = a then 2 else if b = 61 then 2 else 1)
  else if a = 61 ∨ a = 33 ∨ a = 42 ∨ a = 47 ∨ a = 37 ∨ a = 94 then (if b = 61 then 2 else 1)
  else if a = 126 ∨ a = 63 ∨ a = 58 ∨ a = 59 ∨ a = 44 ∨ a = 40 ∨ a = 41 ∨ a = 91 ∨ a = 93 ∨ a = 123 ∨ a = 125 then 1
  else 0
def signL (l : Bs) : Int := signN (byteL l 0) (byteL l 1) (byteL l 2)
/-- A digit's value in any base; 99: it is none. -/
def digN (c : UInt8) : Nat :=
  if 48 ≤ c.toNat ∧ c.toNat ≤ 57 then c.toNat - 48
  else if 97 ≤ c.toNat ∧ c.toNat ≤ 122 then c.toNat - 97 + 10
  else if 65 ≤ c.toNat ∧ c.toNat ≤ 90 then c.toNat - 65 + 10
  else 99
def parseU (base : Nat) : Nat → Bs → Option Nat
  | n, [] => some n
  | n, c :: l => if digN c < base ∧ n * base + digN c ≤ 4294967295 then parseU base (n * base + digN c) l else none
def parseAll (base : Nat) (l : Bs) : Option Nat := if l = [] then none else parseU base 0 l
def markedL (l : Bs) : Bool := decide (byteL l (l.length - 1) = 117 ∨ byteL l (l.length - 1) = 85)
def digitsL (l : Bs) : Bs := if markedL l then l.take (l.length - 1) else l
def baseOf (d : Bs) : Nat := if Lib.hasPrefix d [48, 120] ∨ Lib.hasPrefix d [48, 88] then 16 else if Lib.hasPrefix d [48] then 8 else 10
def bodyOf (d : Bs) : Bs := if Lib.hasPrefix d [48, 120] ∨ Lib.hasPrefix d [48, 88] then d.drop 2 else d
/-- A run of letters and digits as a number, and whether it is unsigned. -/
def numL (l : Bs) : Option (Nat × Bool) :=
  (parseAll (baseOf (digitsL l)) (bodyOf (digitsL l))).map fun n => (n, markedL l || decide (2147483647 < n))
structure Tok where
  kind : Nat
  text : Bs
  num : Nat
  uns : Bool
deriving DecidableEq
def zeroTok : Tok := ⟨0, [], 0, false⟩
def nameL (l : Bs) : Tok × Nat × Nat :=
  if isWordL (l.take (runLen l)) then (⟨3, l.take (runLen l), 0, false⟩, runLen l, 0)
  else if 31 < runLen l then (zeroTok, 0, 10) else (⟨1, l.take (runLen l), 0, false⟩, runLen l, 0)
def nmbL (l : Bs) : Tok × Nat × Nat :=
  match numL (l.take (runLen l)) with
  | some (n, u) => (⟨2, [], n, u⟩, runLen l, 0)
  | none => (zeroTok, 0, 11)
def chrL (l : Bs) : Tok × Nat × Nat :=
  if (charL l).2 = 0 then (zeroTok, 0, 12) else (⟨2, [], (charL l).1.toNat, false⟩, (charL l).2.toNat, 0)
def sgnL (l : Bs) : Tok × Nat × Nat :=
  if signL l = 0 then (zeroTok, 0, 14) else (⟨4, l.take (signL l).toNat, 0, false⟩, (signL l).toNat, 0)
/-- The token with which l begins, its length, the error. -/
def readL (l : Bs) : Tok × Nat × Nat :=
  if letterB (l.getD 0 0) then nameL l
  else if digitB (l.getD 0 0) then nmbL l
  else if byteL l 0 = 39 then chrL l
  else sgnL l
def skipL : Nat → Bs → Nat → Nat × Nat
  | 0, _, a => (a, 0)
  | f + 1, l, a =>
    if a < l.length then
      (if blankB (l.getD a 0) then skipL f l (a + 1)
       else if Lib.hasPrefix (l.drop a) [47, 47] then skipL f l (a + lineLen (l.drop a))
       else if Lib.hasPrefix (l.drop a) [47, 42] then
         (if Lib.index ((l.drop a).drop 2) [42, 47] < 0 then (a, 13) else skipL f l (a + (2 + (Lib.index ((l.drop a).drop 2) [42, 47]).toNat + 2)))
       else (a, 0))
    else (a, 0)
def skipAt (l : Bs) (a : Nat) : Nat × Nat := skipL (l.length + 1) l a
/-- A token at its place. -/
abbrev PTok := Tok × Nat
def endTok : Tok := ⟨0, [], 0, false⟩
def lexL : Nat → Bs → Nat → List PTok → List PTok × Nat × Nat
  | 0, _, _, _ => ([], 0, 99)
  | f + 1, l, a, ts =>
    let b := (skipAt l a).1
    if (skipAt l a).2 ≠ 0 then ([], b, (skipAt l a).2)
    else if b = l.length then (ts ++ [(endTok, b)], 0, 0)
    else
      let r := readL (l.drop b)
      if r.2.2 ≠ 0 then ([], b, r.2.2)
      else if ts.length = 3999 then ([], b, 15)
      else lexL f l (b + r.2.1) (ts ++ [(r.1, b)])
def lexAll (l : Bs) : List PTok × Nat × Nat := if 20000 < l.length then ([], 0, 2) else lexL (l.length + 1) l 0 []
theorem ret_bool {a b : Bool} (h : a = b) : Ending.returned (.bool a) = .returned (.bool b) := by rw [h]
theorem ret_int {k : IntKind} {a b : Int} (h : a = b) : Ending.returned (.int k a) = .returned (.int k b) := by rw [h]
theorem byteL_of (s : ByteArray) (k : Nat) (h : k < s.size) : ((s[k].toNat : Nat) : Int) = (byteL s.data.toList k : Int) := by
  have := Lib.data_getElem? s k h
  simp [byteL, List.getD, this]
theorem byteL_off (s : ByteArray) (k : Nat) (h : s.size ≤ k) : byteL s.data.toList k = 0 := by
  have : s.data.toList[k]? = none := by
    rw [List.getElem?_eq_none]; rw [← Lib.size_eq]; exact h
  simp [byteL, List.getD, this]
/-- The text of a number without the letter that says that it is unsigned. -/
def cutD (s : ByteArray) : ByteArray := if markedL s.data.toList then s.extract 0 (s.size - 1) else s
theorem cutD_list (s : ByteArray) : (cutD s).data.toList = digitsL s.data.toList := by
  unfold cutD digitsL
  by_cases hm : markedL s.data.toList = true
  · rw [if_pos hm, if_pos hm, Lib.extract_data, ← Lib.size_eq]; simp
  · rw [if_neg hm, if_neg hm]
theorem cutD_size (s : ByteArray) : (cutD s).size ≤ s.size := by
  unfold cutD
  split
  · rw [ByteArray.size_extract]; omega
  · exact Nat.le_refl _
theorem drop_cons (s : ByteArray) (k : Nat) (h : k < s.size) : s.data.toList.drop k = s[k] :: s.data.toList.drop (k + 1) := by
  have h' : k < s.data.toList.length := by rw [← Lib.size_eq]; exact h
  rw [List.drop_eq_getElem_cons h']
  congr 1
theorem run_step (s : ByteArray) (k : Nat) (h : k < s.size) (hw : wordB s[k] = true) : runLen (s.data.toList.drop k) = runLen (s.data.toList.drop (k + 1)) + 1 := by
  rw [drop_cons s k h]; simp [runLen, hw]
theorem run_stop (s : ByteArray) (k : Nat) (h : k < s.size) (hw : wordB s[k] = false) : runLen (s.data.toList.drop k) = 0 := by
  rw [drop_cons s k h]; simp [runLen, hw]
theorem run_end (s : ByteArray) (k : Nat) (h : s.size ≤ k) : runLen (s.data.toList.drop k) = 0 := by
  rw [List.drop_eq_nil_of_le (by rw [← Lib.size_eq]; exact h)]; rfl
theorem lower_fin : ∀ n : Fin 256, bits .or .u8 (n.val : Int) 32 = ((n.val ||| 32 : Nat) : Int) := by decide +kernel
theorem or_fin : ∀ n : Fin 256, (65 ≤ n.val ∧ n.val ≤ 90 → (n.val ||| 32) = n.val + 32) ∧ (97 ≤ n.val ∧ n.val ≤ 122 → (n.val ||| 32) = n.val) ∧ (¬ (65 ≤ n.val ∧ n.val ≤ 90) → ¬ (97 ≤ n.val ∧ n.val ≤ 122) → ¬ (97 ≤ (n.val ||| 32) ∧ (n.val ||| 32) ≤ 122)) := by decide +kernel
theorem digN_digit {c : UInt8} (h : 48 ≤ c.toNat ∧ c.toNat ≤ 57) : digN c = c.toNat - 48 := by unfold digN; rw [if_pos h]
theorem digN_low {c : UInt8} (h : 97 ≤ c.toNat ∧ c.toNat ≤ 122) : digN c = c.toNat - 97 + 10 := by unfold digN; rw [if_neg (by omega), if_pos h]
theorem digN_up {c : UInt8} (h : 65 ≤ c.toNat ∧ c.toNat ≤ 90) : digN c = c.toNat - 65 + 10 := by unfold digN; rw [if_neg (by omega), if_neg (by omega), if_pos h]
theorem digN_none {c : UInt8} (h1 : ¬ (48 ≤ c.toNat ∧ c.toNat ≤ 57)) (h2 : ¬ (97 ≤ c.toNat ∧ c.toNat ≤ 122)) (h3 : ¬ (65 ≤ c.toNat ∧ c.toNat ≤ 90)) : digN c = 99 := by
  unfold digN; rw [if_neg h1, if_neg h2, if_neg h3]
theorem parseAll_nil (b : Nat) (t : ByteArray) (h : t.size = 0) : parseAll b t.data.toList = none := by
  unfold parseAll
  rw [if_pos]
  rw [← List.length_eq_zero_iff, ← Lib.size_eq]; exact h
theorem parseU_le (b : Nat) : ∀ (l : Bs) (acc n : Nat), acc ≤ 4294967295 → parseU b acc l = some n → n ≤ 4294967295 := by
  intro l
  induction l with
  | nil => intro acc n h e; simp only [parseU, Option.some.injEq] at e; omega
  | cons c l ih =>
    intro acc n h e
    rw [parseU] at e
    split at e
    · rename_i hc; exact ih _ _ hc.2 e
    · cases e
theorem parseAll_le {b : Nat} {l : Bs} {n : Nat} (h : parseAll b l = some n) : n ≤ 4294967295 := by
  unfold parseAll at h
  split at h
  · cases h
  · exact parseU_le b l 0 n (by omega) h
def numTup : Option (Nat × Bool) → Value
  | some (n, u) => .tuple #[.int .u32 n, .bool u, .bool true]
  | none => .tuple #[.int .u32 0, .bool false, .bool false]
theorem prefix_len {d : ByteArray} {p : Bs} (h : Lib.hasPrefix d.data.toList p = true) : p.length ≤ d.size := by
  unfold Lib.hasPrefix at h
  rw [Lib.size_eq]
  exact (List.isPrefixOf_iff_prefix.1 h).length_le
theorem num_of {l : Bs} {b : Nat} {t : Bs} {m : Bool} (hm : markedL l = m) (hb : baseOf (digitsL l) = b) (ht : bodyOf (digitsL l) = t) : numL l = (parseAll b t).map fun n => (n, m || decide (2147483647 < n)) := by
  unfold numL; rw [hm, hb, ht]
def aggT (t : Tok) (a : Int) : Value := .agg #[.int .i64 t.kind, .int .i64 a, .string ⟨t.text.toArray⟩, .int .u32 t.num, .bool t.uns]
def readTup (r : Tok × Nat × Nat) : Value := .tuple #[aggT r.1 0, .int .i64 r.2.1, .int .i64 r.2.2]
theorem runLen_le (s : ByteArray) : runLen s.data.toList ≤ s.size := by
  unfold runLen; rw [Lib.size_eq]; exact (List.takeWhile_sublist _).length_le
theorem ext_eq (s : ByteArray) (n : Nat) : s.extract 0 n = ⟨(s.data.toList.take n).toArray⟩ := by
  have h : (s.extract 0 n).data.toList = s.data.toList.take n := by rw [Lib.extract_data]; simp
  have h2 : (s.extract 0 n).data = (s.data.toList.take n).toArray := by rw [← h]
  rw [← h2]
theorem bcell {W w1 : World} (hb : Below W.heap.size W w1) : (∀ b o, b < W.heap.size → w1.cell? ⟨b, o, none⟩ = W.cell? ⟨b, o, none⟩) ∧ (∀ b o, b < W.heap.size → w1.frozen? ⟨b, o, none⟩ = W.frozen? ⟨b, o, none⟩) :=
  ⟨fun b o h => hb.cell (p := ⟨b, o, none⟩) h, fun b o h => hb.frozen (p := ⟨b, o, none⟩) h⟩
theorem below_new {w w' : World} {o : Obj} (hb : Below (w.alloc o).heap.size (w.alloc o) w') : Below w.heap.size w w' :=
  ((Below.refl _ _).alloc (Nat.le_refl _) o).trans (hb.mono (by rw [World.size_alloc]; omega))
theorem below_put5 {w w' : World} (h : Below w.heap.size w w') (a b c d e : Value) :
    Below w.heap.size w (((((w'.setCell ⟨w.heap.size, 0, none⟩ a).setCell ⟨w.heap.size, 1, none⟩ b).setCell ⟨w.heap.size, 2, none⟩ c).setCell ⟨w.heap.size, 3, none⟩ d).setCell ⟨w.heap.size, 4, none⟩ e) :=
  ((((h.setCell (Nat.le_refl _) a).setCell (Nat.le_refl _) b).setCell (Nat.le_refl _) c).setCell (Nat.le_refl _) d).setCell (Nat.le_refl _) e
theorem below_one (w : World) (o : Obj) : Below w.heap.size w (w.alloc o) := (Below.refl _ _).alloc (Nat.le_refl _) o
theorem byteL_le (l : Bs) (k : Nat) : byteL l k ≤ 255 := by
  unfold byteL
  have := (l.getD k 0).toNat_lt
  omega
theorem escN_range (n : Int) (h : 0 ≤ n ∧ n ≤ 255) : 0 ≤ (escN n).1 ∧ (escN n).1 ≤ 255 := by
  unfold escN
  repeat' split
  all_goals (simp only []; omega)
theorem charL_range (l : Bs) : (0 ≤ (charL l).1 ∧ (charL l).1 ≤ 255) ∧ 0 ≤ (charL l).2 ∧ (charL l).2 ≤ 4 := by
  have h1 := byteL_le l 1
  have h2 := escN_range (byteL l 2) ⟨by omega, by have := byteL_le l 2; omega⟩
  unfold charL
  repeat' split
  all_goals (simp only []; omega)
theorem byteL_in {l : Bs} {k : Nat} (h : byteL l k ≠ 0) : k < l.length := by
  rcases Nat.lt_or_ge k l.length with h1 | h1
  · exact h1
  · exfalso; apply h; unfold byteL; simp [List.getD, List.getElem?_eq_none h1]
theorem signL_range (l : Bs) (h : 0 < l.length) : 0 ≤ signL l ∧ signL l ≤ 3 ∧ signL l ≤ l.length := by
  have h1 := @byteL_in l 1
  have h2 := @byteL_in l 2
  unfold signL signN
  repeat' split
  all_goals (refine ⟨by omega, by omega, ?_⟩)
  all_goals first | omega | (have := h2 (by omega); omega) | (have := h1 (by omega); omega)
theorem getD_zero (s : ByteArray) (h : 0 < s.size) : s.data.toList.getD 0 0 = s[0] := by
  have := Lib.data_getElem? s 0 h
  simp [List.getD, this]
theorem runLen_pos (s : ByteArray) (h : 0 < s.size) (hd : digitB s[0] = true) : 0 < runLen s.data.toList := by
  have := run_step s 0 h (by simp [wordB, hd])
  simp at this
  omega
theorem lineLen_le (l : Bs) : lineLen l ≤ l.length := by
  unfold lineLen
  split
  · rename_i h
    obtain ⟨o, ho⟩ : ∃ o : Nat, Lib.indexByte l 10 = o := ⟨(Lib.indexByte l 10).toNat, by omega⟩
    have := (Lib.indexByte_some ho).1
    rcases Nat.lt_or_ge o l.length with h1 | h1
    · omega
    · rw [List.getElem?_eq_none h1] at this; cases this
  · exact Nat.le_refl _
theorem lineLen_pos {l : Bs} (h : Lib.hasPrefix l [47, 47] = true) : 0 < lineLen l := by
  unfold Lib.hasPrefix at h
  obtain ⟨t, ht⟩ := List.isPrefixOf_iff_prefix.1 h
  subst ht
  unfold lineLen
  split
  · rename_i h1
    obtain ⟨o, ho⟩ : ∃ o : Nat, Lib.indexByte ([47, 47] ++ t) 10 = o := ⟨(Lib.indexByte ([47, 47] ++ t) 10).toNat, by omega⟩
    have := (Lib.indexByte_some ho).1
    rcases Nat.eq_zero_or_pos o with h0 | h0
    · subst h0; simp at this
    · omega
  · simp
theorem index_room (sub : Bs) (h2 : 0 < sub.length) : ∀ l : Bs, 0 ≤ Lib.index l sub → (Lib.index l sub).toNat + sub.length ≤ l.length := by
  intro l
  induction l with
  | nil =>
    intro h
    unfold Lib.index at h
    split at h
    · rename_i h1; rw [List.isEmpty_iff] at h1; subst h1; simp at h2
    · omega
  | cons b l ih =>
    intro h
    unfold Lib.index at h ⊢
    split at h
    · rename_i h1
      rw [if_pos h1]
      have := (List.isPrefixOf_iff_prefix.1 h1).length_le
      simpa using this
    · rename_i h1
      rw [if_neg h1]
      split at h
      · omega
      · rename_i h3
        rw [if_neg h3]
        have hge := Lib.index_ge l sub
        simp only [beq_iff_eq] at h3
        have := ih (by omega)
        simp only [List.length_cons]
        omega
theorem skip_blank {f : Nat} {l : Bs} {a : Nat} (h : a < l.length) (hb : blankB (l.getD a 0) = true) : skipL (f + 1) l a = skipL f l (a + 1) := by
  rw [skipL, if_pos h, if_pos hb]
theorem skip_line {f : Nat} {l : Bs} {a : Nat} (h : a < l.length) (hb : blankB (l.getD a 0) = false) (h1 : Lib.hasPrefix (l.drop a) [47, 47] = true) : skipL (f + 1) l a = skipL f l (a + lineLen (l.drop a)) := by
  rw [skipL, if_pos h, if_neg (by rw [hb]; simp), if_pos h1]
theorem skip_open {f : Nat} {l : Bs} {a : Nat} (h : a < l.length) (hb : blankB (l.getD a 0) = false) (h1 : Lib.hasPrefix (l.drop a) [47, 47] = false) (h2 : Lib.hasPrefix (l.drop a) [47, 42] = true)
    (h3 : Lib.index ((l.drop a).drop 2) [42, 47] < 0) : skipL (f + 1) l a = (a, 13) := by
  rw [skipL, if_pos h, if_neg (by rw [hb]; simp), if_neg (by rw [h1]; simp), if_pos h2, if_pos h3]
theorem skip_shut {f : Nat} {l : Bs} {a : Nat} (h : a < l.length) (hb : blankB (l.getD a 0) = false) (h1 : Lib.hasPrefix (l.drop a) [47, 47] = false) (h2 : Lib.hasPrefix (l.drop a) [47, 42] = true)
    (h3 : ¬ Lib.index ((l.drop a).drop 2) [42, 47] < 0) : skipL (f + 1) l a = skipL f l (a + (2 + (Lib.index ((l.drop a).drop 2) [42, 47]).toNat + 2)) := by
  rw [skipL, if_pos h, if_neg (by rw [hb]; simp), if_neg (by rw [h1]; simp), if_pos h2, if_neg h3]
theorem skip_stop {f : Nat} {l : Bs} {a : Nat} (h : a < l.length) (hb : blankB (l.getD a 0) = false) (h1 : Lib.hasPrefix (l.drop a) [47, 47] = false) (h2 : Lib.hasPrefix (l.drop a) [47, 42] = false) : skipL (f + 1) l a = (a, 0) := by
  rw [skipL, if_pos h, if_neg (by rw [hb]; simp), if_neg (by rw [h1]; simp), if_neg (by rw [h2]; simp)]
theorem skip_end {f : Nat} {l : Bs} {a : Nat} (h : ¬ a < l.length) : skipL (f + 1) l a = (a, 0) := by
  rw [skipL, if_neg h]
theorem cut_head (s : ByteArray) (k : Nat) (h' : 0 < (s.extract k s.size).size) : (s.extract k s.size)[0] = s.data.toList.getD k 0 := by
  have h1 := Lib.data_getElem? (s.extract k s.size) 0 h'
  rw [Lib.extract_to_end, List.getElem?_drop] at h1
  simp only [Nat.add_zero] at h1
  simp [List.getD, h1]
theorem skipL_range : ∀ (f : Nat) (l : Bs) (a : Nat), a ≤ l.length → a ≤ (skipL f l a).1 ∧ (skipL f l a).1 ≤ l.length ∧ ((skipL f l a).2 = 0 ∨ (skipL f l a).2 = 13) ∧ ((skipL f l a).2 = 13 → (skipL f l a).1 < l.length) := by
  intro f
  induction f with
  | zero => intro l a h; simp [skipL, h]
  | succ f ih =>
    intro l a h
    unfold skipL
    split
    · rename_i hlt
      split
      · have := ih l (a + 1) (by omega); omega
      · split
        · have h1 := lineLen_le (l.drop a)
          rw [List.length_drop] at h1
          have := ih l (a + lineLen (l.drop a)) (by omega); omega
        · split
          · split
            · simp; omega
            · rename_i h3
              have h1 := index_room [42, 47] (by simp) ((l.drop a).drop 2) (by omega)
              rw [List.length_drop, List.length_drop] at h1
              simp only [List.length_cons, List.length_nil, Nat.zero_add, Nat.reduceAdd] at h1
              have := ih l (a + (2 + (Lib.index ((l.drop a).drop 2) [42, 47]).toNat + 2)) (by omega); omega
          · simp; omega
    · simp; omega
theorem runL_le (l : Bs) : runLen l ≤ l.length := by
  unfold runLen; exact (List.takeWhile_sublist _).length_le
theorem runL_pos {c : UInt8} {l : Bs} (h : wordB c = true) : 0 < runLen (c :: l) := by
  unfold runLen; simp [h]
theorem charL_len {l : Bs} (h : (charL l).2 ≠ 0) : 3 ≤ (charL l).2 ∧ (charL l).2 ≤ l.length := by
  unfold charL at h ⊢
  repeat' split
  all_goals first | (simp only []; omega) | (simp_all; done)
theorem readL_len {l : Bs} (h : 0 < l.length) (he : (readL l).2.2 = 0) : 1 ≤ (readL l).2.1 ∧ (readL l).2.1 ≤ l.length := by
  obtain ⟨c, t, rfl⟩ : ∃ c t, l = c :: t := by cases l with | nil => simp at h | cons c t => exact ⟨c, t, rfl⟩
  have hg : (c :: t).getD 0 0 = c := rfl
  have hr := runL_le (c :: t)
  have hs := signL_range (c :: t) h
  unfold readL at he ⊢
  rw [hg] at he ⊢
  split
  · rename_i hl
    rw [if_pos hl] at he
    have hp := runL_pos (l := t) (show wordB c = true by simp [wordB, hl])
    unfold nameL at he ⊢
    split
    · exact ⟨hp, hr⟩
    · rename_i h1
      rw [if_neg h1] at he
      split
      · rename_i h2; rw [if_pos h2] at he; simp at he
      · exact ⟨hp, hr⟩
  · rename_i hl
    rw [if_neg hl] at he
    split
    · rename_i hd
      rw [if_pos hd] at he
      have hp := runL_pos (l := t) (show wordB c = true by simp [wordB, hd])
      unfold nmbL at he ⊢
      split
      · exact ⟨hp, hr⟩
      · rename_i h1; rw [h1] at he; simp at he
    · rename_i hd
      rw [if_neg hd] at he
      split
      · rename_i hq
        rw [if_pos hq] at he
        unfold chrL at he ⊢
        split
        · rename_i h1; rw [if_pos h1] at he; simp at he
        · rename_i h1; have := charL_len h1; simp only []; omega
      · rename_i hq
        rw [if_neg hq] at he
        unfold sgnL at he ⊢
        split
        · rename_i h1; rw [if_pos h1] at he; simp at he
        · simp only []; omega
def tokCells (t : PTok) : List Value := [.int .i64 t.1.kind, .int .i64 t.2, .string ⟨t.1.text.toArray⟩, .int .u32 t.1.num, .bool t.1.uns]
def rowOf (ts : List PTok) : List Value := ts.flatMap tokCells
def TokRow (w : World) (B : Nat) (v : Value) (ts : List PTok) : Prop := w.ownsRow B 41 5 v ts.length (rowOf ts)
def LexEnd (w : World) (R : List PTok × Nat × Nat) (e : Ending) (w' : World) : Prop :=
  ∃ v, e = .returned (.tuple #[v, .int .i64 R.2.1, .int .i64 R.2.2]) ∧ TokRow w' w.heap.size v R.1 ∧ Below w.heap.size w w'
theorem TokRow.nil (w : World) (B : Nat) : TokRow w B (.slice none 0 0) [] := ⟨rfl, .inl ⟨rfl, rfl⟩⟩
theorem LexEnd.err {w w' : World} {b e : Nat} {x : Ending} (hx : x = .returned (.tuple #[.slice none 0 0, .int .i64 b, .int .i64 e])) (hb : Below w.heap.size w w') : LexEnd w ([], b, e) x w' :=
  ⟨_, hx, TokRow.nil _ _, hb⟩
theorem lex_skipErr {f : Nat} {l : Bs} {a : Nat} {ts : List PTok} {b : Nat} (h : skipAt l a = (b, 13)) : lexL (f + 1) l a ts = ([], b, 13) := by
  rw [lexL, h]; rfl
theorem lex_end {f : Nat} {l : Bs} {a : Nat} {ts : List PTok} (h : skipAt l a = (l.length, 0)) : lexL (f + 1) l a ts = (ts ++ [(endTok, l.length)], 0, 0) := by
  rw [lexL, h]; simp
theorem lex_err {f : Nat} {l : Bs} {a b : Nat} {ts : List PTok} (h : skipAt l a = (b, 0)) (hb : b ≠ l.length) (he : (readL (l.drop b)).2.2 ≠ 0) : lexL (f + 1) l a ts = ([], b, (readL (l.drop b)).2.2) := by
  rw [lexL, h]; simp [hb, he]
theorem lex_many {f : Nat} {l : Bs} {a b : Nat} {ts : List PTok} (h : skipAt l a = (b, 0)) (hb : b ≠ l.length) (he : (readL (l.drop b)).2.2 = 0) (hm : ts.length = 3999) : lexL (f + 1) l a ts = ([], b, 15) := by
  rw [lexL, h]; simp [hb, he, hm]
theorem lex_on {f : Nat} {l : Bs} {a b : Nat} {ts : List PTok} (h : skipAt l a = (b, 0)) (hb : b ≠ l.length) (he : (readL (l.drop b)).2.2 = 0) (hm : ts.length ≠ 3999) :
    lexL (f + 1) l a ts = lexL f l (b + (readL (l.drop b)).2.1) (ts ++ [((readL (l.drop b)).1, b)]) := by
  rw [lexL, h]; simp [hb, he, hm]
theorem skipAt_range (s : ByteArray) (a : Nat) (ha : a ≤ s.size) : ∃ b er, skipAt s.data.toList a = (b, er) ∧ a ≤ b ∧ b ≤ s.size ∧ (er = 0 ∨ er = 13) := by
  obtain ⟨h1, h2, h3, _⟩ := skipL_range (s.data.toList.length + 1) s.data.toList a (by rw [← Lib.size_eq]; exact ha)
  rw [Lib.size_eq]
  exact ⟨_, _, rfl, h1, h2, h3⟩
theorem own_below {w w' : World} {B e size n : Nat} {v : Value} {xs : List Value} (h : w.ownsRow B e size v n xs) (hb : Below w.heap.size w w') : w'.ownsRow B e size v n xs :=
  ⟨h.1, h.2.imp id fun ⟨g, cap, cur, a, b, c, d⟩ => ⟨g, cap, cur, a, b, (hb.block g (by
    rcases Nat.lt_or_ge g w.heap.size with h' | h'
    · exact h'
    · rw [Array.getElem?_eq_none h'] at c; cases c)).trans c, d⟩⟩
theorem cells_new5 (w : World) (a b c d e : Value) (t : TypeId) : ∀ j u, [a, b, c, d, e][j]? = some u → (w.alloc (.cells #[a, b, c, d, e] t)).cell? ((⟨w.heap.size, 0, none⟩ : Addr).add j) = some u := by
  intro j u hj
  match j, hj with
  | 0, hj => simp at hj; subst hj; simp [Addr.add]
  | 1, hj => simp at hj; subst hj; simp [Addr.add]
  | 2, hj => simp at hj; subst hj; simp [Addr.add]
  | 3, hj => simp at hj; subst hj; simp [Addr.add]
  | 4, hj => simp at hj; subst hj; simp [Addr.add]
  | (j + 5), hj => simp at hj
theorem row_snoc (ts : List PTok) (t : PTok) : rowOf (ts ++ [t]) = rowOf ts ++ tokCells t := by simp [rowOf]
theorem TokRow.snoc {w : World} {B : Nat} {v : Value} {ts : List PTok} {t : PTok} (h : w.ownsRow B 41 5 v (ts.length + 1) (rowOf ts ++ tokCells t)) : TokRow w B v (ts ++ [t]) := by
  unfold TokRow
  rw [row_snoc, List.length_append]
  exact h
theorem tok_one (t : PTok) : ∀ u ∈ tokCells t, u.oneCell' = true := by
  intro u hu
  simp only [tokCells, List.mem_cons, List.not_mem_nil, or_false] at hu
  rcases hu with rfl | rfl | rfl | rfl | rfl <;> rfl
theorem tok_form {w : World} {B : Nat} {v : Value} {n : Nat} {xs : List Value} (h : w.ownsRow B 41 5 v n xs) : ∃ ao cv, v = .slice ao n cv := by
  rcases h.2 with ⟨h1, h2⟩ | ⟨g, cap, cur, h1, _⟩
  · exact ⟨none, 0, by rw [h1, h2]⟩
  · exact ⟨_, _, h1⟩
/-- What a caller reads of the tokens: the slice's form, and each field of each token. -/
def Toks (w : World) (B : Nat) (v : Value) (ts : List PTok) : Prop :=
  (ts = [] ∧ ∃ ao cv, v = .slice ao 0 cv) ∨ ∃ g cap, v = .slice (some ⟨g, 0, none⟩) ts.length cap ∧ B ≤ g ∧ ts.length ≤ cap ∧ g < w.heap.size ∧ ts ≠ [] ∧
    ∀ (k : Nat) (t : PTok), ts[k]? = some t → w.cell? ⟨g, k * 5, none⟩ = some (.int .i64 t.1.kind) ∧ w.cell? ⟨g, k * 5 + 1, none⟩ = some (.int .i64 t.2) ∧ w.cell? ⟨g, k * 5 + 2, none⟩ = some (.string ⟨t.1.text.toArray⟩) ∧
      w.cell? ⟨g, k * 5 + 3, none⟩ = some (.int .u32 t.1.num) ∧ w.cell? ⟨g, k * 5 + 4, none⟩ = some (.bool t.1.uns)
theorem row_at : ∀ (ts : List PTok) (k : Nat) (t : PTok), ts[k]? = some t → ∀ j, j < 5 → (rowOf ts)[k * 5 + j]? = (tokCells t)[j]? := by
  intro ts
  induction ts with
  | nil => intro k t h; simp at h
  | cons x ts ih =>
    intro k t h j hj
    have hx : (tokCells x).length = 5 := rfl
    have hr : rowOf (x :: ts) = tokCells x ++ rowOf ts := by simp [rowOf]
    rw [hr]
    cases k with
    | zero =>
      simp at h; subst h
      rw [List.getElem?_append_left (by omega)]
      simp
    | succ k =>
      rw [List.getElem?_append_right (by omega), hx, show (k + 1) * 5 + j - 5 = k * 5 + j by omega]
      exact ih k t (by simpa using h) j hj
theorem row_len (ts : List PTok) : (rowOf ts).length = ts.length * 5 := by
  induction ts with
  | nil => rfl
  | cons x ts ih =>
    have hr : rowOf (x :: ts) = tokCells x ++ rowOf ts := by simp [rowOf]
    have hx : (tokCells x).length = 5 := rfl
    rw [hr, List.length_append, ih, hx, List.length_cons]; omega
theorem TokRow.toks {w : World} {B : Nat} {v : Value} {ts : List PTok} (h : TokRow w B v ts) : Toks w B v ts := by
  cases ts with
  | nil =>
    left
    refine ⟨rfl, ?_⟩
    rcases h.2 with ⟨h1, _⟩ | ⟨g, cap, cur, h1, h2, h3, h4, h5, h6, h7⟩
    · exact ⟨none, 0, h1⟩
    · exact ⟨_, _, h1⟩
  | cons x ts =>
    right
    rcases h.2 with ⟨_, h1⟩ | ⟨g, cap, cur, rfl, h2, h3, h4, h5, h6, h7⟩
    · simp at h1
    · refine ⟨g, cap, rfl, h2, h4, (Array.getElem?_eq_some_iff.1 h3).1, by simp, ?_⟩
      intro k t hk
      have hlt : k < (x :: ts).length := (List.getElem?_eq_some_iff.1 hk).1
      have hc := fun j (hj : j < 5) => (World.ownsRow.cellAt h (k * 5 + j) (by omega)).trans (row_at _ k t hk j hj)
      exact ⟨hc 0 (by omega), hc 1 (by omega), hc 2 (by omega), hc 3 (by omega), hc 4 (by omega)⟩
theorem Toks.below {w w' : World} {B : Nat} {v : Value} {ts : List PTok} (h : Toks w B v ts) (hb : Below w.heap.size w w') : Toks w' B v ts := by
  rcases h with h | ⟨g, cap, h1, h2, h3, h4, h5, h6⟩
  · exact .inl h
  · refine .inr ⟨g, cap, h1, h2, h3, Nat.lt_of_lt_of_le h4 hb.size, h5, fun k t hk => ?_⟩
    obtain ⟨a, b, c, d, e⟩ := h6 k t hk
    exact ⟨(hb.cell (p := ⟨g, _, none⟩) h4).trans a, (hb.cell (p := ⟨g, _, none⟩) h4).trans b, (hb.cell (p := ⟨g, _, none⟩) h4).trans c, (hb.cell (p := ⟨g, _, none⟩) h4).trans d, (hb.cell (p := ⟨g, _, none⟩) h4).trans e⟩
theorem exL : lexAll [97, 43, 43, 43, 48, 120, 49, 70, 117] =
    ([(⟨1, [97], 0, false⟩, 0), (⟨4, [43, 43], 0, false⟩, 1), (⟨4, [43], 0, false⟩, 3), (⟨2, [], 31, true⟩, 4), (⟨0, [], 0, false⟩, 9)], 0, 0) := by decide +kernel
end Go.Proofs.YteggenldmkbhiaaDoor
namespace Go.Proofs.YteggenldmkbhiaaDoor

/-- Tokens so far: none is the end, places rise, and lie before a. -/
def Sofar (ts : List PTok) (a : Nat) : Prop :=
  (∀ (k : Nat) (t : PTok), ts[k]? = some t → t.1.kind ≠ 0 ∧ t.2 < a) ∧ ∀ (k : Nat) (t u : PTok), ts[k]? = some t → ts[k + 1]? = some u → t.2 < u.2
/-- All tokens: none but the last is the end, places rise, the last lies at n. -/
def Placed (n : Nat) (ts : List PTok) : Prop :=
  0 < ts.length ∧ (∀ (k : Nat) (t : PTok), ts[k]? = some t → (t.1.kind = 0 ↔ k + 1 = ts.length) ∧ (k + 1 = ts.length → t.2 = n)) ∧ ∀ (k : Nat) (t u : PTok), ts[k]? = some t → ts[k + 1]? = some u → t.2 < u.2

theorem readL_kind {l : Bs} (he : (readL l).2.2 = 0) : (readL l).1.kind ≠ 0 := by
  unfold readL nameL nmbL chrL sgnL at he ⊢
  repeat' split
  all_goals simp_all

theorem snoc_cases {ts : List PTok} {x t : PTok} {k : Nat} (h : (ts ++ [x])[k]? = some t) : (k < ts.length ∧ ts[k]? = some t) ∨ (k = ts.length ∧ t = x) := by
  rcases Nat.lt_or_ge k ts.length with h1 | h1
  · rw [List.getElem?_append_left h1] at h
    exact .inl ⟨h1, h⟩
  · rw [List.getElem?_append_right h1] at h
    have : k - ts.length = 0 := by
      rcases Nat.eq_zero_or_pos (k - ts.length) with h2 | h2
      · exact h2
      · rw [List.getElem?_eq_none (by simp; omega)] at h; cases h
    rw [this] at h
    simp at h
    exact .inr ⟨by omega, h.symm⟩

theorem Sofar.on {ts : List PTok} {a b a' : Nat} {t : Tok} (h : Sofar ts a) (hab : a ≤ b) (hb : b < a') (hk : t.kind ≠ 0) : Sofar (ts ++ [(t, b)]) a' := by
  refine ⟨fun k x hx => ?_, fun k x y hx hy => ?_⟩
  · rcases snoc_cases hx with ⟨_, h1⟩ | ⟨_, rfl⟩
    · have := h.1 k x h1; exact ⟨this.1, by omega⟩
    · exact ⟨hk, hb⟩
  · rcases snoc_cases hx with ⟨h0, h1⟩ | ⟨h0, rfl⟩
    · rcases snoc_cases hy with ⟨_, h2⟩ | ⟨_, rfl⟩
      · exact h.2 k x y h1 h2
      · have := (h.1 k x h1).2; show x.2 < b; omega
    · rcases snoc_cases hy with ⟨h3, _⟩ | ⟨h3, _⟩
      · omega
      · omega
theorem Sofar.fin {ts : List PTok} {a n : Nat} (h : Sofar ts a) (han : a ≤ n) : Placed n (ts ++ [(endTok, n)]) := by
  refine ⟨by simp, fun k x hx => ?_, fun k x y hx hy => ?_⟩
  · simp only [List.length_append, List.length_cons, List.length_nil]
    rcases snoc_cases hx with ⟨h0, h1⟩ | ⟨h0, rfl⟩
    · have := (h.1 k x h1).1
      exact ⟨⟨fun e => absurd e this, fun e => by omega⟩, fun e => by omega⟩
    · exact ⟨⟨fun _ => by omega, fun _ => rfl⟩, fun _ => rfl⟩
  · rcases snoc_cases hx with ⟨h0, h1⟩ | ⟨h0, rfl⟩
    · rcases snoc_cases hy with ⟨_, h2⟩ | ⟨_, rfl⟩
      · exact h.2 k x y h1 h2
      · have := (h.1 k x h1).2; show x.2 < n; omega
    · rcases snoc_cases hy with ⟨h3, _⟩ | ⟨h3, _⟩
      · omega
      · omega

/-- What the answer of Lex is like. -/
def Answer (n : Nat) (R : List PTok × Nat × Nat) : Prop := (R.2.2 = 0 ∧ R.2.1 = 0 ∧ Placed n R.1) ∨ (R.2.2 ≠ 0 ∧ R.1 = [] ∧ R.2.1 ≤ n)

theorem lexL_answer (l : Bs) : ∀ (f a : Nat) (ts : List PTok), a ≤ l.length → Sofar ts a → Answer l.length (lexL f l a ts) := by
  intro f
  induction f with
  | zero => intro a ts _ _; right; simp [lexL]
  | succ f ih =>
    intro a ts ha hS
    obtain ⟨h1, h2, _, _⟩ := skipL_range (l.length + 1) l a ha
    have h1' : a ≤ (skipAt l a).1 := h1
    have h2' : (skipAt l a).1 ≤ l.length := h2
    rw [lexL]
    simp only
    split
    · rename_i he
      right; exact ⟨he, rfl, h2'⟩
    · split
      · rename_i hb
        left
        refine ⟨rfl, rfl, ?_⟩
        rw [hb]
        exact hS.fin ha
      · split
        · rename_i he
          right; exact ⟨he, rfl, h2'⟩
        · rename_i hb he
          have he : (readL (l.drop (skipAt l a).1)).2.2 = 0 := by simpa using he
          split
          · right; exact ⟨by simp, rfl, h2'⟩
          · have hl := readL_len (l := l.drop (skipAt l a).1) (by rw [List.length_drop]; omega) he
            rw [List.length_drop] at hl
            exact ih _ _ (by omega) (hS.on h1' (by omega) (readL_kind he))
theorem lexAll_answer (l : Bs) : Answer l.length (lexAll l) := by
  unfold lexAll
  split
  · right; simp
  · exact lexL_answer l _ 0 [] (Nat.zero_le _) ⟨fun k t h => by simp at h, fun k t u h => by simp at h⟩

theorem lexL_len (l : Bs) : ∀ (f a : Nat) (ts : List PTok), ts.length ≤ 3999 → (lexL f l a ts).1.length ≤ 4000 := by
  intro f
  induction f with
  | zero => intro a ts _; simp [lexL]
  | succ f ih =>
    intro a ts h
    rw [lexL]
    simp only
    split
    · simp
    · split
      · simp; omega
      · split
        · simp
        · split
          · simp
          · exact ih _ _ (by simp; omega)
theorem lexAll_len (l : Bs) : (lexAll l).1.length ≤ 4000 := by
  unfold lexAll
  split
  · simp
  · exact lexL_len l _ 0 [] (by simp)
end Go.Proofs.YteggenldmkbhiaaDoor
namespace Go.Proofs.YteggenldmkbhiaaDoor

def skipP : Nat → Bs → Bs × Nat
  | 0, r => (r, 0)
  | _ + 1, [] => ([], 0)
  | f + 1, c :: r =>
    if blankB c then skipP f r
    else if Lib.hasPrefix (c :: r) [47, 47] then skipP f ((c :: r).drop (lineLen (c :: r)))
    else if Lib.hasPrefix (c :: r) [47, 42] then
      (if Lib.index ((c :: r).drop 2) [42, 47] < 0 then (c :: r, 13) else skipP f ((c :: r).drop (2 + (Lib.index ((c :: r).drop 2) [42, 47]).toNat + 2)))
    else (c :: r, 0)

theorem lineLen_pos2 {l : Bs} (h : Lib.hasPrefix l [47, 47] = true) : 0 < lineLen l := lineLen_pos h

theorem skipP_fuel : ∀ (f : Nat) (r : Bs), r.length < f → ∀ f', r.length < f' → skipP f r = skipP f' r := by
  intro f
  induction f with
  | zero => intro r h; omega
  | succ f ih =>
    intro r h f' h'
    obtain ⟨g, rfl⟩ : ∃ g, f' = g + 1 := ⟨f' - 1, by omega⟩
    cases r with
    | nil => rfl
    | cons c r =>
      simp only [List.length_cons] at h h'
      simp only [skipP]
      split
      · exact ih r (by omega) g (by omega)
      · split
        · rename_i hp
          have := lineLen_pos hp
          exact ih _ (by rw [List.length_drop, List.length_cons]; omega) g (by rw [List.length_drop, List.length_cons]; omega)
        · split
          · split
            · rfl
            · exact ih _ (by rw [List.length_drop, List.length_cons]; omega) g (by rw [List.length_drop, List.length_cons]; omega)
          · rfl

def skipF (r : Bs) : Bs × Nat := skipP (r.length + 1) r
theorem skipF_eq (r : Bs) (f : Nat) (h : r.length < f) : skipP f r = skipF r := skipP_fuel f r h _ (by omega)
theorem skipF_nil : skipF [] = ([], 0) := rfl
theorem skipF_blank {c : UInt8} {r : Bs} (h : blankB c = true) : skipF (c :: r) = skipF r := by
  unfold skipF; simp only [List.length_cons, skipP, h, if_true]
theorem skipF_line {c : UInt8} {r : Bs} (h : blankB c = false) (h1 : Lib.hasPrefix (c :: r) [47, 47] = true) : skipF (c :: r) = skipF ((c :: r).drop (lineLen (c :: r))) := by
  have := lineLen_pos h1
  refine Eq.trans ?_ (skipF_eq _ (r.length + 1) (by rw [List.length_drop, List.length_cons]; omega))
  unfold skipF
  simp only [List.length_cons, skipP, h, h1, if_true, Bool.false_eq_true, if_false]
theorem skipF_open {c : UInt8} {r : Bs} (h : blankB c = false) (h1 : Lib.hasPrefix (c :: r) [47, 47] = false) (h2 : Lib.hasPrefix (c :: r) [47, 42] = true) (h3 : Lib.index ((c :: r).drop 2) [42, 47] < 0) : skipF (c :: r) = (c :: r, 13) := by
  unfold skipF
  simp only [List.length_cons, skipP, h, h1, h2, h3, if_true, Bool.false_eq_true, if_false]
theorem skipF_shut {c : UInt8} {r : Bs} (h : blankB c = false) (h1 : Lib.hasPrefix (c :: r) [47, 47] = false) (h2 : Lib.hasPrefix (c :: r) [47, 42] = true) (h3 : ¬ Lib.index ((c :: r).drop 2) [42, 47] < 0) :
    skipF (c :: r) = skipF ((c :: r).drop (2 + (Lib.index ((c :: r).drop 2) [42, 47]).toNat + 2)) := by
  refine Eq.trans ?_ (skipF_eq _ (r.length + 1) (by rw [List.length_drop, List.length_cons]; omega))
  unfold skipF
  simp only [List.length_cons, skipP, h, h1, h2, h3, if_true, Bool.false_eq_true, if_false]
theorem skipF_stop {c : UInt8} {r : Bs} (h : blankB c = false) (h1 : Lib.hasPrefix (c :: r) [47, 47] = false) (h2 : Lib.hasPrefix (c :: r) [47, 42] = false) : skipF (c :: r) = (c :: r, 0) := by
  unfold skipF
  simp only [List.length_cons, skipP, h, h1, h2, Bool.false_eq_true, if_false]

/-- With places and without: the same. -/
theorem skipL_P : ∀ (f : Nat) (l : Bs) (a : Nat), a ≤ l.length → l.length - a < f →
    (skipL f l a).1 = l.length - (skipF (l.drop a)).1.length ∧ (skipL f l a).2 = (skipF (l.drop a)).2 ∧ l.drop (skipL f l a).1 = (skipF (l.drop a)).1 := by
  intro f
  induction f with
  | zero => intro l a _ h; omega
  | succ f ih =>
    intro l a h hf
    by_cases hlt : a < l.length
    · have hcons : l.drop a = l[a] :: l.drop (a + 1) := List.drop_eq_getElem_cons hlt
      have hg : l.getD a 0 = l[a] := by simp [List.getD, List.getElem?_eq_getElem hlt]
      cases hb : blankB l[a] with
      | true =>
        rw [skip_blank hlt (by rw [hg]; exact hb), hcons, skipF_blank hb]
        exact ih l (a + 1) (by omega) (by omega)
      | false =>
        have hb' : blankB (l.getD a 0) = false := by rw [hg]; exact hb
        cases h1 : Lib.hasPrefix (l.drop a) [47, 47] with
        | true =>
          have hp := lineLen_pos h1
          have hl := lineLen_le (l.drop a)
          rw [List.length_drop] at hl
          rw [skip_line hlt hb' h1]
          have := ih l (a + lineLen (l.drop a)) (by omega) (by omega)
          rw [← List.drop_drop] at this
          rw [hcons] at h1 this ⊢
          rw [skipF_line hb h1]
          exact this
        | false =>
          cases h2 : Lib.hasPrefix (l.drop a) [47, 42] with
          | true =>
            by_cases h3 : Lib.index ((l.drop a).drop 2) [42, 47] < 0
            · rw [skip_open hlt hb' h1 h2 h3]
              rw [hcons] at h1 h2 h3
              rw [hcons, skipF_open hb h1 h2 h3]
              refine ⟨?_, rfl, rfl⟩
              rw [← hcons, List.length_drop]; omega
            · rw [skip_shut hlt hb' h1 h2 h3]
              have hr := index_room [42, 47] (by simp) ((l.drop a).drop 2) (by omega)
              rw [List.length_drop, List.length_drop] at hr
              simp only [List.length_cons, List.length_nil, Nat.zero_add, Nat.reduceAdd] at hr
              have := ih l (a + (2 + (Lib.index ((l.drop a).drop 2) [42, 47]).toNat + 2)) (by omega) (by omega)
              rw [← List.drop_drop] at this
              rw [hcons] at h1 h2 h3 this ⊢
              rw [skipF_shut hb h1 h2 h3]
              exact this
          | false =>
            rw [skip_stop hlt hb' h1 h2]
            rw [hcons] at h1 h2
            rw [hcons, skipF_stop hb h1 h2]
            refine ⟨?_, rfl, rfl⟩
            rw [← hcons, List.length_drop]; omega
    · rw [skip_end hlt, List.drop_eq_nil_of_le (by omega), skipF_nil]
      exact ⟨by simp only [List.length_nil]; omega, rfl, rfl⟩
theorem skipAt_P (l : Bs) (a : Nat) (h : a ≤ l.length) : (skipAt l a).1 = l.length - (skipF (l.drop a)).1.length ∧ (skipAt l a).2 = (skipF (l.drop a)).2 ∧ l.drop (skipAt l a).1 = (skipF (l.drop a)).1 :=
  skipL_P _ l a h (by omega)

/-- What may stand between two tokens. -/
inductive Gap : Bs → Prop
  | nil : Gap []
  | blank (c : UInt8) (g : Bs) : blankB c = true → Gap g → Gap (c :: g)
  | line (m g : Bs) : (∀ x ∈ m, x ≠ 10) → Gap g → Gap (47 :: 47 :: (m ++ 10 :: g))
  | block (m g : Bs) : Lib.index (m ++ [42, 47]) [42, 47] = m.length → Gap g → Gap (47 :: 42 :: (m ++ 42 :: 47 :: g))
/-- What may stand behind the last token. -/
def GapE (g : Bs) : Prop := Gap g ∨ ∃ g1 m : Bs, g = g1 ++ 47 :: 47 :: m ∧ Gap g1 ∧ ∀ x ∈ m, x ≠ 10

theorem index_append (sub : Bs) : ∀ (s t : Bs), 0 ≤ Lib.index s sub → Lib.index (s ++ t) sub = Lib.index s sub := by
  intro s
  induction s with
  | nil =>
    intro t h
    unfold Lib.index at h
    split at h
    · rename_i h1
      rw [List.isEmpty_iff] at h1; subst h1
      rw [Lib.index_empty, Lib.index_empty]
    · omega
  | cons b l ih =>
    intro t h
    by_cases hp : sub.isPrefixOf (b :: l) = true
    · have hp2 : sub.isPrefixOf (b :: (l ++ t)) = true := by
        rw [List.isPrefixOf_iff_prefix] at hp ⊢
        exact hp.trans (List.prefix_append (b :: l) t)
      rw [List.cons_append, Lib.index, if_pos hp2, Lib.index, if_pos hp]
    · have h1 : Lib.index (b :: l) sub = if Lib.index l sub == -1 then -1 else Lib.index l sub + 1 := by rw [Lib.index, if_neg hp]
      rw [h1] at h
      have hge := Lib.index_ge l sub
      have hne : ¬ Lib.index l sub = -1 := by
        intro e; rw [e] at h; simp at h
      have hl : 0 ≤ Lib.index l sub := by omega
      have hp2 : ¬ sub.isPrefixOf (b :: (l ++ t)) = true := by
        intro hq
        apply hp
        rw [List.isPrefixOf_iff_prefix] at hq ⊢
        rcases Nat.eq_zero_or_pos sub.length with h0 | h0
        · rw [List.length_eq_zero_iff] at h0; subst h0; exact List.nil_prefix
        · have := index_room sub h0 l hl
          rw [← List.cons_append] at hq
          exact List.prefix_of_prefix_length_le hq (List.prefix_append (b :: l) t) (by rw [List.length_cons]; omega)
      rw [List.cons_append, Lib.index, if_neg hp2, h1, ih t hl]

theorem indexByte_at (m x : Bs) (h : ∀ y ∈ m, y ≠ 10) : Lib.indexByte (m ++ 10 :: x) 10 = m.length := by
  induction m with
  | nil => simp [Lib.indexByte]
  | cons y m ih =>
    have hy : y ≠ 10 := h y (by simp)
    have := ih fun z hz => h z (by simp [hz])
    rw [List.cons_append, Lib.indexByte, if_neg (by simpa using hy), this]
    simp only [beq_iff_eq, List.length_cons]
    split
    · omega
    · omega
theorem indexByte_not (m : Bs) (h : ∀ y ∈ m, y ≠ 10) : Lib.indexByte m 10 = -1 := by
  induction m with
  | nil => rfl
  | cons y m ih =>
    have hy : y ≠ 10 := h y (by simp)
    have := ih fun z hz => h z (by simp [hz])
    rw [Lib.indexByte, if_neg (by simpa using hy), this]
    rfl
theorem lineLen_at (m x : Bs) (h : ∀ y ∈ m, y ≠ 10) : lineLen (m ++ 10 :: x) = m.length := by
  unfold lineLen; rw [indexByte_at m x h, if_pos (by omega)]; omega
theorem lineLen_not (m : Bs) (h : ∀ y ∈ m, y ≠ 10) : lineLen m = m.length := by
  unfold lineLen; rw [indexByte_not m h, if_neg (by omega)]
theorem cc_not {m : Bs} (h : ∀ y ∈ m, y ≠ 10) : ∀ y ∈ (47 : UInt8) :: 47 :: m, y ≠ 10 := by
  intro y hy
  simp only [List.mem_cons] at hy
  rcases hy with rfl | rfl | hy
  · decide
  · decide
  · exact h y hy
theorem blank47 : blankB 47 = false := by decide
theorem blank10 : blankB 10 = true := by decide
theorem pre_cc (x : Bs) : Lib.hasPrefix (47 :: 47 :: x) [47, 47] = true := by simp [Lib.hasPrefix]
theorem pre_cs (x : Bs) : Lib.hasPrefix (47 :: 42 :: x) [47, 47] = false ∧ Lib.hasPrefix (47 :: 42 :: x) [47, 42] = true := by constructor <;> rfl

theorem gap_skip {g : Bs} (h : Gap g) (y : Bs) : skipF (g ++ y) = skipF y := by
  induction h with
  | nil => rfl
  | blank c g hc _ ih => rw [List.cons_append, skipF_blank hc, ih]
  | line m g hm _ ih =>
    have e : (47 :: 47 :: (m ++ 10 :: g)) ++ y = (47 :: 47 :: m) ++ 10 :: (g ++ y) := by simp
    have hl := lineLen_at (47 :: 47 :: m) (g ++ y) (cc_not hm)
    rw [e]
    have e2 : (47 :: 47 :: m) ++ 10 :: (g ++ y) = 47 :: (47 :: (m ++ 10 :: (g ++ y))) := by simp
    rw [e2] at hl ⊢
    rw [skipF_line blank47 (pre_cc _), hl, ← e2, List.drop_left, skipF_blank blank10, ih]
  | block m g hm _ ih =>
    have e : (47 :: 42 :: (m ++ 42 :: 47 :: g)) ++ y = 47 :: (42 :: (m ++ 42 :: 47 :: (g ++ y))) := by simp
    have hi : Lib.index ((47 :: (42 :: (m ++ 42 :: 47 :: (g ++ y))) : Bs).drop 2) [42, 47] = m.length := by
      show Lib.index (m ++ 42 :: 47 :: (g ++ y)) [42, 47] = m.length
      have e3 : m ++ 42 :: 47 :: (g ++ y) = (m ++ [42, 47]) ++ (g ++ y) := by simp
      rw [e3, index_append _ _ _ (by rw [hm]; omega), hm]
    rw [e, skipF_shut blank47 (pre_cs _).1 (pre_cs _).2 (by rw [hi]; omega), hi, Int.toNat_natCast]
    have e4 : (47 :: (42 :: (m ++ 42 :: 47 :: (g ++ y))) : Bs) = (47 :: 42 :: (m ++ [42, 47])) ++ (g ++ y) := by simp
    rw [e4, List.drop_left' (by simp; omega), ih]
theorem gapE_skip {g : Bs} (h : GapE g) (y : Bs) : skipF (g ++ 10 :: y) = skipF y := by
  rcases h with h | ⟨g1, m, rfl, h1, hm⟩
  · rw [gap_skip h, skipF_blank blank10]
  · rw [List.append_assoc, gap_skip h1]
    have hl := lineLen_at (47 :: 47 :: m) y (cc_not hm)
    have e2 : (47 :: 47 :: m) ++ 10 :: y = 47 :: (47 :: (m ++ 10 :: y)) := by simp
    rw [e2] at hl ⊢
    rw [skipF_line blank47 (pre_cc _), hl, ← e2, List.drop_left, skipF_blank blank10]
theorem gapE_end {g : Bs} (h : GapE g) : skipF g = ([], 0) := by
  rcases h with h | ⟨g1, m, rfl, h1, hm⟩
  · have := gap_skip h []; simpa [skipF_nil] using this
  · rw [gap_skip h1]
    have hl := lineLen_not (47 :: 47 :: m) (cc_not hm)
    rw [skipF_line blank47 (pre_cc _), hl, List.drop_length, skipF_nil]

def Stops (r : Bs) : Prop := ∃ c t, r = c :: t ∧ blankB c = false ∧ Lib.hasPrefix r [47, 47] = false ∧ Lib.hasPrefix r [47, 42] = false
def Opens (r : Bs) : Prop := ∃ t, r = 47 :: 42 :: t ∧ Lib.index t [42, 47] < 0
theorem Stops.skip {r : Bs} (h : Stops r) : skipF r = (r, 0) := by
  obtain ⟨c, t, rfl, h1, h2, h3⟩ := h; exact skipF_stop h1 h2 h3
theorem Opens.skip {r : Bs} (h : Opens r) : skipF r = (r, 13) := by
  obtain ⟨t, rfl, h1⟩ := h; exact skipF_open blank47 (pre_cs _).1 (pre_cs _).2 h1
theorem split10 : ∀ m : Bs, (∀ y ∈ m, y ≠ 10) ∨ ∃ a b : Bs, m = a ++ 10 :: b ∧ ∀ y ∈ a, y ≠ 10 := by
  intro m
  induction m with
  | nil => left; simp
  | cons x m ih =>
    by_cases hx : x = 10
    · right; exact ⟨[], m, by simp [hx], by simp⟩
    · rcases ih with h | ⟨a, b, rfl, h⟩
      · left; intro y hy; simp only [List.mem_cons] at hy; (rcases hy with rfl | hy); exact hx; exact h y hy
      · right; exact ⟨x :: a, b, by simp, by intro y hy; simp only [List.mem_cons] at hy; (rcases hy with rfl | hy); exact hx; exact h y hy⟩
theorem pre_two {a b : UInt8} {r : Bs} (h : Lib.hasPrefix r [a, b] = true) : ∃ t, r = a :: b :: t := by
  unfold Lib.hasPrefix at h
  obtain ⟨t, ht⟩ := List.isPrefixOf_iff_prefix.1 h
  exact ⟨t, by rw [← ht]; rfl⟩
theorem index_split {t : Bs} (h : 0 ≤ Lib.index t [42, 47]) : ∃ m g : Bs, t = m ++ 42 :: 47 :: g ∧ Lib.index (m ++ [42, 47]) [42, 47] = m.length := by
  induction t with
  | nil => exact absurd h (by decide)
  | cons b l ih =>
    by_cases hp : ([42, 47] : Bs).isPrefixOf (b :: l) = true
    · obtain ⟨g, hg⟩ := List.isPrefixOf_iff_prefix.1 hp
      exact ⟨[], g, by rw [← hg]; rfl, by decide⟩
    · have h1 : Lib.index (b :: l) [42, 47] = if Lib.index l [42, 47] == -1 then -1 else Lib.index l [42, 47] + 1 := by rw [Lib.index, if_neg hp]
      rw [h1] at h
      have hge := Lib.index_ge l [42, 47]
      have hne : ¬ Lib.index l [42, 47] = -1 := by
        intro e; rw [e] at h; simp at h
      obtain ⟨m, g, rfl, hm⟩ := ih (by omega)
      refine ⟨b :: m, g, by simp, ?_⟩
      have hp2 : ¬ ([42, 47] : Bs).isPrefixOf (b :: (m ++ [42, 47])) = true := by
        intro hq
        apply hp
        rw [List.isPrefixOf_iff_prefix] at hq ⊢
        have e3 : b :: (m ++ 42 :: 47 :: g) = (b :: (m ++ [42, 47])) ++ g := by simp
        rw [e3]
        exact hq.trans (List.prefix_append _ _)
      rw [List.cons_append, Lib.index, if_neg hp2, hm]
      simp only [beq_iff_eq, List.length_cons]
      split
      · omega
      · omega

/-- What a skip comes to. -/
theorem skip_cases : ∀ (n : Nat) (r : Bs), r.length ≤ n → (∃ g r', r = g ++ r' ∧ Gap g ∧ (Stops r' ∨ Opens r')) ∨ GapE r := by
  intro n
  induction n with
  | zero =>
    intro r h
    have : r = [] := List.eq_nil_of_length_eq_zero (by omega)
    subst this
    exact .inr (.inl .nil)
  | succ n ih =>
    intro r h
    cases r with
    | nil => exact .inr (.inl .nil)
    | cons c t =>
      simp only [List.length_cons] at h
      cases hb : blankB c with
      | true =>
        rcases ih t (by omega) with ⟨g, r', rfl, hg, hs⟩ | hg | ⟨g1, m, rfl, hg, hm⟩
        · exact .inl ⟨c :: g, r', rfl, .blank c g hb hg, hs⟩
        · exact .inr (.inl (.blank c t hb hg))
        · exact .inr (.inr ⟨c :: g1, m, rfl, .blank c g1 hb hg, hm⟩)
      | false =>
        cases h1 : Lib.hasPrefix (c :: t) [47, 47] with
        | true =>
          obtain ⟨u, hu⟩ := pre_two h1
          injection hu with hc ht
          subst hc ht
          rcases split10 u with hn | ⟨a, b, rfl, ha⟩
          · exact .inr (.inr ⟨[], u, rfl, .nil, hn⟩)
          · simp only [List.length_cons, List.length_append] at h
            rcases ih b (by omega) with ⟨g, r', rfl, hg, hs⟩ | hg | ⟨g1, m, rfl, hg, hm⟩
            · exact .inl ⟨47 :: 47 :: (a ++ 10 :: g), r', by simp, .line a g ha hg, hs⟩
            · exact .inr (.inl (.line a b ha hg))
            · exact .inr (.inr ⟨47 :: 47 :: (a ++ 10 :: g1), m, by simp, .line a g1 ha hg, hm⟩)
        | false =>
          cases h2 : Lib.hasPrefix (c :: t) [47, 42] with
          | true =>
            obtain ⟨u, hu⟩ := pre_two h2
            injection hu with hc ht
            subst hc ht
            by_cases h3 : Lib.index u [42, 47] < 0
            · exact .inl ⟨[], _, rfl, .nil, .inr ⟨u, rfl, h3⟩⟩
            · obtain ⟨m0, b, rfl, hm0⟩ := index_split (t := u) (by omega)
              simp only [List.length_cons, List.length_append] at h
              rcases ih b (by omega) with ⟨g, r', rfl, hg, hs⟩ | hg | ⟨g1, m, rfl, hg, hm⟩
              · exact .inl ⟨47 :: 42 :: (m0 ++ 42 :: 47 :: g), r', by simp, .block m0 g hm0 hg, hs⟩
              · exact .inr (.inl (.block m0 b hm0 hg))
              · exact .inr (.inr ⟨47 :: 42 :: (m0 ++ 42 :: 47 :: g1), m, by simp, .block m0 g1 hm0 hg, hm⟩)
          | false => exact .inl ⟨[], _, rfl, .nil, .inl ⟨c, t, rfl, hb, h1, h2⟩⟩
end Go.Proofs.YteggenldmkbhiaaDoor
namespace Go.Proofs.YteggenldmkbhiaaDoor

/-- What may stand behind a token in the place of y: y's own first byte, or a blank. -/
def Behind (y z : Bs) : Prop := z.head? = y.head? ∨ ∃ c t, z = c :: t ∧ blankB c = true

theorem blank_facts {c : UInt8} (h : blankB c = true) : (9 ≤ c.toNat ∧ c.toNat ≤ 13) ∨ c.toNat = 32 := by
  unfold blankB at h
  have := of_decide_eq_true h
  omega
theorem blank_word {c : UInt8} (h : blankB c = true) : wordB c = false := by
  have := blank_facts h
  unfold wordB letterB digitB
  rw [Bool.or_eq_false_iff]
  constructor <;> (apply decide_eq_false; omega)

theorem run_split : ∀ (x y : Bs), runLen (x ++ y) = x.length → (∀ c ∈ x, wordB c = true) ∧ runLen y = 0 := by
  intro x
  induction x with
  | nil => intro y h; exact ⟨by simp, h⟩
  | cons c x ih =>
    intro y h
    cases hc : wordB c with
    | false => unfold runLen at h; rw [List.cons_append, List.takeWhile_cons, hc] at h; simp at h
    | true =>
      unfold runLen at h
      rw [List.cons_append, List.takeWhile_cons, hc] at h
      simp only [if_true, List.length_cons, Nat.add_right_cancel_iff] at h
      obtain ⟨h1, h2⟩ := ih y h
      exact ⟨by intro d hd; simp only [List.mem_cons] at hd; rcases hd with rfl | hd; exact hc; exact h1 d hd, h2⟩
theorem run_join : ∀ (x z : Bs), (∀ c ∈ x, wordB c = true) → runLen z = 0 → runLen (x ++ z) = x.length := by
  intro x
  induction x with
  | nil => intro z _ h; exact h
  | cons c x ih =>
    intro z h hz
    unfold runLen
    rw [List.cons_append, List.takeWhile_cons, h c (by simp)]
    simp only [if_true, List.length_cons, Nat.add_right_cancel_iff]
    exact ih z (fun d hd => h d (by simp [hd])) hz
theorem run_behind {y z : Bs} (h : Behind y z) (hy : runLen y = 0) : runLen z = 0 := by
  rcases h with h | ⟨c, t, rfl, hc⟩
  · cases z with
    | nil => rfl
    | cons c t =>
      cases y with
      | nil => simp at h
      | cons d u =>
        simp only [List.head?_cons, Option.some.injEq] at h
        subst h
        unfold runLen at hy ⊢
        rw [List.takeWhile_cons] at hy ⊢
        split at hy
        · simp at hy
        · rename_i hn; rw [if_neg hn]; rfl
  · unfold runLen; rw [List.takeWhile_cons, blank_word hc]; rfl

theorem byteL_left (x y : Bs) (k : Nat) (h : k < x.length) : byteL (x ++ y) k = byteL x k := by
  unfold byteL; simp only [List.getD]; rw [List.getElem?_append_left h]
theorem byteL_right (x y : Bs) : byteL (x ++ y) x.length = byteL y 0 := by
  unfold byteL; simp only [List.getD]; rw [List.getElem?_append_right (Nat.le_refl _), Nat.sub_self]
theorem byteL_head {y z : Bs} (h : z.head? = y.head?) : byteL z 0 = byteL y 0 := by
  unfold byteL; simp only [List.getD]; rw [← List.head?_eq_getElem?, ← List.head?_eq_getElem?, h]
theorem byteL_blank {c : UInt8} {t : Bs} : byteL (c :: t) 0 = c.toNat := rfl

theorem getD0 (x y : Bs) (h : 0 < x.length) : (x ++ y).getD 0 0 = x.getD 0 0 := by
  simp only [List.getD]; rw [List.getElem?_append_left h]

/-- A sign of a, b, c: what it hangs on. -/
theorem signN_stop (a b c b' c' : Int) (n : Nat) (hn : signN a b c = n) (_h0 : n ≠ 0) (h1 : n = 1 → (b' = b ∨ (b' ≠ a ∧ b' ≠ 61))) (h2 : 2 ≤ n → b' = b) (h3 : n = 2 → (c' = c ∨ c' ≠ 61)) (h4 : 3 ≤ n → c' = c) : signN a b' c' = n := by
  unfold signN at hn ⊢
  have : n ≤ 3 := by
    revert hn
    repeat' split
    all_goals omega
  repeat' split at hn
  all_goals (repeat' split)
  all_goals omega

theorem signL_stop (x y z : Bs) (hx : 0 < x.length) (h : signL (x ++ y) = x.length) (hb : Behind y z) (hblank : ∀ c t, z = c :: t → blankB c = true → (c.toNat : Int) ≠ byteL x 0) : signL (x ++ z) = x.length := by
  have hz : byteL z 0 = byteL y 0 ∨ ((byteL z 0 : Int) ≠ byteL x 0 ∧ (byteL z 0 : Int) ≠ 61) := by
    rcases hb with h | ⟨c, t, rfl, hc⟩
    · exact .inl (byteL_head h)
    · right
      have := blank_facts hc
      exact ⟨hblank c t rfl hc, by show ((c.toNat : Nat) : Int) ≠ 61; omega⟩
  unfold signL at h ⊢
  rw [byteL_left x y 0 hx] at h
  rw [byteL_left x z 0 hx]
  refine signN_stop _ _ _ _ _ x.length h (by omega) ?_ ?_ ?_ ?_
  · intro h1
    rw [← h1, byteL_right, byteL_right]
    rcases hz with hz | hz
    · left; rw [hz]
    · right; exact hz
  · intro h2
    rw [byteL_left x y 1 (by omega), byteL_left x z 1 (by omega)]
  · intro h2
    rw [← h2, byteL_right, byteL_right]
    rcases hz with hz | hz
    · left; rw [hz]
    · right; exact hz.2
  · intro h3
    rw [byteL_left x y 2 (by omega), byteL_left x z 2 (by omega)]

theorem sign_first {a b c : Int} (h : signN a b c ≠ 0) : ¬ (9 ≤ a ∧ a ≤ 13) ∧ a ≠ 32 := by
  unfold signN at h
  repeat' split at h
  all_goals omega
theorem nameL_len {l : Bs} {t : Tok} {n : Nat} (h : nameL l = (t, n, 0)) : runLen l = n ∧ (isWordL (l.take n) = true ∧ t = ⟨3, l.take n, 0, false⟩ ∨ isWordL (l.take n) = false ∧ n ≤ 31 ∧ t = ⟨1, l.take n, 0, false⟩) := by
  unfold nameL at h
  split at h
  · rename_i hw
    injection h with h1 h2; injection h2 with h2 _
    subst h2; exact ⟨rfl, .inl ⟨hw, h1.symm⟩⟩
  · rename_i hw
    split at h
    · injection h with _ h2; injection h2 with _ h3; cases h3
    · injection h with h1 h2; injection h2 with h2 _
      subst h2; exact ⟨rfl, .inr ⟨by simpa using hw, by omega, h1.symm⟩⟩
theorem nameL_of {l : Bs} {n : Nat} (h : runLen l = n) (hn : n ≤ 31) (hw : isWordL (l.take n) = false) : nameL l = (⟨1, l.take n, 0, false⟩, n, 0) := by
  unfold nameL; rw [h, hw, if_neg (by simp), if_neg (by omega)]
theorem nameL_word {l : Bs} {n : Nat} (h : runLen l = n) (hw : isWordL (l.take n) = true) : nameL l = (⟨3, l.take n, 0, false⟩, n, 0) := by
  unfold nameL; rw [h, hw, if_pos rfl]

def One (l : Bs) : Prop := 3 ≤ l.length ∧ byteL l 1 ≠ 39 ∧ byteL l 1 ≠ 92 ∧ byteL l 1 ≠ 10 ∧ byteL l 2 = 39
def Esc (l : Bs) : Prop := 4 ≤ l.length ∧ byteL l 1 = 92 ∧ byteL l 3 = 39 ∧ (escN (byteL l 2 : Int)).2 = true
theorem charL_one {l : Bs} (h : One l) : charL l = ((byteL l 1 : Int), 3) := by
  unfold One at h
  unfold charL; rw [if_pos h]
theorem charL_esc {l : Bs} (h : Esc l) : charL l = ((escN (byteL l 2 : Int)).1, 4) := by
  obtain ⟨h1, h2, h3, h4⟩ := h
  unfold charL; rw [if_neg (fun h => h.2.2.1 h2), if_pos ⟨h1, h2, h3⟩, if_pos h4]
theorem charL_none {l : Bs} (h : ¬ One l) (h' : ¬ Esc l) : charL l = (0, 0) := by
  unfold One at h
  unfold charL
  rw [if_neg h]
  by_cases hd : 4 ≤ l.length ∧ byteL l 1 = 92 ∧ byteL l 3 = 39
  · rw [if_pos hd, if_neg (fun he => h' ⟨hd.1, hd.2.1, hd.2.2, he⟩)]
  · rw [if_neg hd]

/-- What has been read is read again, whatever stands behind, if its first byte is as it was or blank. -/
theorem readL_stop {x y z : Bs} {t : Tok} (hx : 0 < x.length) (h : readL (x ++ y) = (t, x.length, 0)) (hb : Behind y z) : readL (x ++ z) = (t, x.length, 0) := by
  have hty : (x ++ y).take x.length = x := by simp
  have htz : (x ++ z).take x.length = x := by simp
  unfold readL at h ⊢
  rw [getD0 x y hx, byteL_left x y 0 hx] at h
  rw [getD0 x z hx, byteL_left x z 0 hx]
  split
  · rename_i hl
    rw [if_pos hl] at h
    obtain ⟨h1, h2⟩ := nameL_len h
    obtain ⟨h3, h4⟩ := run_split x y h1
    have h5 := run_join x z h3 (run_behind hb h4)
    rw [hty] at h2
    rcases h2 with ⟨h6, h7⟩ | ⟨h6, h7, h8⟩
    · rw [nameL_word h5 (by rw [htz]; exact h6), htz, h7]
    · rw [nameL_of h5 h7 (by rw [htz]; exact h6), htz, h8]
  · rename_i hl
    rw [if_neg hl] at h
    split
    · rename_i hd
      rw [if_pos hd] at h
      unfold nmbL at h ⊢
      have h1 : runLen (x ++ y) = x.length := by
        split at h
        · injection h with _ h2; injection h2 with h2 _
        · injection h with _ h2; injection h2 with _ h3; cases h3
      obtain ⟨h3, h4⟩ := run_split x y h1
      have h5 := run_join x z h3 (run_behind hb h4)
      rw [h5, htz]
      rw [h1, hty] at h
      exact h
    · rename_i hd
      rw [if_neg hd] at h
      split
      · rename_i hq
        rw [if_pos hq] at h
        unfold chrL at h ⊢
        have h1 : (charL (x ++ y)).2.toNat = x.length ∧ (charL (x ++ y)).2 ≠ 0 := by
          split at h
          · injection h with _ h2; injection h2 with _ h3; cases h3
          · rename_i h0; injection h with _ h2; injection h2 with h2 _; exact ⟨h2, h0⟩
        have h2 : charL (x ++ z) = charL (x ++ y) := by
          have h3 := charL_len h1.2
          have hlz : (x ++ z).length = x.length + z.length := by simp
          have e1 := byteL_left x y 1 (by omega)
          have e2 := byteL_left x y 2 (by omega)
          have f1 := byteL_left x z 1 (by omega)
          have f2 := byteL_left x z 2 (by omega)
          by_cases hc : One (x ++ y)
          · rw [charL_one hc]
            obtain ⟨c1, c2, c3, c4, c5⟩ := hc
            rw [charL_one ⟨by omega, by omega, by omega, by omega, by omega⟩, e1, f1]
          · by_cases hd : Esc (x ++ y)
            · have h5 := h1.1
              rw [charL_esc hd] at h5 ⊢
              have h4 : x.length = 4 := h5.symm
              obtain ⟨c1, c2, c3, c4⟩ := hd
              have e3 := byteL_left x y 3 (by omega)
              have f3 := byteL_left x z 3 (by omega)
              rw [charL_esc ⟨by omega, by omega, by omega, by rw [f2, ← e2]; exact c4⟩, e2, f2]
            · rw [charL_none hc hd] at h1; exact absurd rfl h1.2
        rw [h2]
        exact h
      · rename_i hq
        rw [if_neg hq] at h
        unfold sgnL at h ⊢
        have h1 : signL (x ++ y) = x.length ∧ signL (x ++ y) ≠ 0 := by
          have hr := signL_range (x ++ y) (by simp; omega)
          split at h
          · injection h with _ h2; injection h2 with _ h3; cases h3
          · rename_i h0; injection h with _ h2; injection h2 with h2 _; exact ⟨by omega, h0⟩
        have hf := sign_first (show signN (byteL (x ++ y) 0) (byteL (x ++ y) 1) (byteL (x ++ y) 2) ≠ 0 from h1.2)
        rw [byteL_left x y 0 hx] at hf
        have h2 := signL_stop x y z hx h1.1 hb (fun c u hz hc => by have := blank_facts hc; omega)
        rw [h2, Int.toNat_natCast, htz]
        rw [h1.1, Int.toNat_natCast, hty] at h
        exact h

theorem run_blank {c : UInt8} (hc : blankB c = true) : ∀ r : Bs, runLen (r ++ [c]) = runLen r := by
  intro r
  induction r with
  | nil => unfold runLen; simp [blank_word hc]
  | cons d r ih =>
    unfold runLen at ih ⊢
    rw [List.cons_append, List.takeWhile_cons, List.takeWhile_cons]
    split
    · simp only [List.length_cons]; rw [ih]
    · rfl
theorem byteL_snoc (r : Bs) (c : UInt8) (k : Nat) : byteL (r ++ [c]) k = byteL r k ∨ (k = r.length ∧ byteL (r ++ [c]) k = c.toNat ∧ byteL r k = 0) := by
  rcases Nat.lt_trichotomy k r.length with h | h | h
  · left; exact byteL_left r [c] k h
  · right; subst h
    refine ⟨rfl, by rw [byteL_right]; rfl, ?_⟩
    unfold byteL; simp only [List.getD]; rw [List.getElem?_eq_none (Nat.le_refl _)]; rfl
  · left
    unfold byteL; simp only [List.getD]
    rw [List.getElem?_eq_none (by simp; omega), List.getElem?_eq_none (by omega)]
theorem signN_same {a b c b' c' : Int} (hb : b' = b ∨ (b' ≠ 61 ∧ b ≠ 61 ∧ (b' = a → ((9 ≤ a ∧ a ≤ 13) ∨ a = 32 ∨ a = 0)) ∧ (b = a → ((9 ≤ a ∧ a ≤ 13) ∨ a = 32 ∨ a = 0)))) (hc : c' = c ∨ (c' ≠ 61 ∧ c ≠ 61)) : signN a b' c' = signN a b c := by
  unfold signN
  repeat' split
  all_goals omega

/-- A blank behind a text changes nothing of what is read at its beginning. -/
theorem readL_blank {r : Bs} {c : UInt8} (hr : 0 < r.length) (hc : blankB c = true) : readL (r ++ [c]) = readL r := by
  have hf := blank_facts hc
  have ht : (r ++ [c]).take (runLen r) = r.take (runLen r) := List.take_append_of_le_length (runL_le r)
  have hrun := run_blank hc r
  have b1 := byteL_snoc r c 1
  have b2 := byteL_snoc r c 2
  have b3 := byteL_snoc r c 3
  have i2 : byteL r 2 = 0 ∨ 2 < r.length := by
    by_cases h : byteL r 2 = 0
    · exact .inl h
    · exact .inr (byteL_in h)
  have i3 : byteL r 3 = 0 ∨ 3 < r.length := by
    by_cases h : byteL r 3 = 0
    · exact .inl h
    · exact .inr (byteL_in h)
  have h0 := byteL_left r [c] 0 hr
  have hlen : (r ++ [c]).length = r.length + 1 := by simp
  have hch : charL (r ++ [c]) = charL r := by
    by_cases ho : One r
    · have ho' : One (r ++ [c]) := by unfold One at ho ⊢; omega
      rw [charL_one ho, charL_one ho']
      have : byteL (r ++ [c]) 1 = byteL r 1 := by unfold One at ho; omega
      rw [this]
    · have ho' : ¬ One (r ++ [c]) := by unfold One at ho ⊢; omega
      by_cases he : Esc r
      · have e2 : byteL (r ++ [c]) 2 = byteL r 2 := by unfold Esc at he; omega
        have he' : Esc (r ++ [c]) := by
          unfold Esc at he ⊢
          rw [e2]
          exact ⟨by omega, by omega, by omega, he.2.2.2⟩
        rw [charL_esc he, charL_esc he', e2]
      · have he' : ¬ Esc (r ++ [c]) := by
          intro h
          apply he
          have e2 : byteL (r ++ [c]) 2 = byteL r 2 := by unfold Esc at h; omega
          unfold Esc at h ⊢
          rw [e2] at h
          exact ⟨by omega, by omega, by omega, h.2.2.2⟩
        rw [charL_none ho he, charL_none ho' he']
  have hsg : signL (r ++ [c]) = signL r := by
    unfold signL
    rw [h0]
    refine signN_same ?_ ?_
    · rcases b1 with h | ⟨_, h, h'⟩
      · left; rw [h]
      · right; rw [h, h']; exact ⟨by omega, by omega, fun e => by omega, fun e => by omega⟩
    · rcases b2 with h | ⟨_, h, h'⟩
      · left; rw [h]
      · right; rw [h, h']; omega
  have hst : signL r ≠ 0 → (r ++ [c]).take (signL r).toNat = r.take (signL r).toNat := by
    intro h
    have := signL_range r hr
    exact List.take_append_of_le_length (by omega)
  unfold readL nameL nmbL chrL sgnL
  rw [getD0 r [c] hr, hrun, ht, hch, h0, hsg]
  by_cases h : signL r = 0
  · rw [h]; rfl
  · rw [hst h]
end Go.Proofs.YteggenldmkbhiaaDoor
namespace Go.Proofs.YteggenldmkbhiaaDoor

/-- The tokens of a text that has no error. -/
inductive Lx : Bs → List Tok → Prop
  | fin (l : Bs) : GapE l → Lx l []
  | tok (g x y : Bs) (t : Tok) (ts : List Tok) : Gap g → Stops (x ++ y) → 0 < x.length → readL (x ++ y) = (t, x.length, 0) → Lx y ts → Lx (g ++ (x ++ y)) (t :: ts)
/-- The same from a place on, with places. -/
inductive Lp (l : Bs) : Nat → List PTok → Prop
  | fin (a : Nat) : a ≤ l.length → GapE (l.drop a) → Lp l a []
  | tok (a b n : Nat) (t : Tok) (ts : List PTok) : a ≤ b → b + n ≤ l.length → 0 < n → Gap ((l.drop a).take (b - a)) → Stops (l.drop b) → readL (l.drop b) = (t, n, 0) → Lp l (b + n) ts → Lp l a ((t, b) :: ts)

theorem Stops.ne {r : Bs} (h : Stops r) : r ≠ [] := by
  obtain ⟨c, t, rfl, _⟩ := h; simp
theorem gap_append {a b : Bs} (ha : Gap a) (hb : Gap b) : Gap (a ++ b) := by
  induction ha with
  | nil => exact hb
  | blank c g hc _ ih => exact .blank c _ hc ih
  | line m g hm _ ih =>
    have e : (47 :: 47 :: (m ++ 10 :: g)) ++ b = 47 :: 47 :: (m ++ 10 :: (g ++ b)) := by simp
    rw [e]; exact .line m _ hm ih
  | block m g hm _ ih =>
    have e : (47 :: 42 :: (m ++ 42 :: 47 :: g)) ++ b = 47 :: 42 :: (m ++ 42 :: 47 :: (g ++ b)) := by simp
    rw [e]; exact .block m _ hm ih
theorem gapE_gap {a b : Bs} (ha : GapE a) (hb : Gap b) : Gap (a ++ 10 :: b) := by
  rcases ha with ha | ⟨g, m, rfl, hg, hm⟩
  · exact gap_append ha (.blank 10 b blank10 hb)
  · rw [List.append_assoc]
    exact gap_append hg (.line m b hm hb)
theorem gapE_gapE {a b : Bs} (ha : GapE a) (hb : GapE b) : GapE (a ++ 10 :: b) := by
  rcases hb with hb | ⟨g, m, rfl, hg, hm⟩
  · exact .inl (gapE_gap ha hb)
  · exact .inr ⟨a ++ 10 :: g, m, by simp, gapE_gap ha hg, hm⟩

theorem skip_tok {l : Bs} {a b : Nat} (ha : a ≤ b) (hb : b ≤ l.length) (hg : Gap ((l.drop a).take (b - a))) (hs : Stops (l.drop b)) : skipAt l a = (b, 0) := by
  have h1 : l.drop a = (l.drop a).take (b - a) ++ l.drop b := by
    have := (List.take_append_drop (b - a) (l.drop a)).symm
    rw [List.drop_drop, show a + (b - a) = b by omega] at this
    exact this
  obtain ⟨e1, e2, _⟩ := skipAt_P l a (by omega)
  have h2 : skipF (l.drop a) = (l.drop b, 0) := by rw [h1, gap_skip hg, hs.skip]
  rw [h2] at e1 e2
  simp only [List.length_drop] at e1
  ext
  · rw [e1]; show l.length - (l.length - b) = b; omega
  · exact e2
theorem skip_fin {l : Bs} {a : Nat} (ha : a ≤ l.length) (hg : GapE (l.drop a)) : skipAt l a = (l.length, 0) := by
  obtain ⟨e1, e2, _⟩ := skipAt_P l a ha
  rw [gapE_end hg] at e1 e2
  ext
  · rw [e1]; simp
  · exact e2

theorem lp_lex {l : Bs} : ∀ {a : Nat} {us : List PTok}, Lp l a us → ∀ (f : Nat) (ts : List PTok), l.length - a < f → ts.length + us.length ≤ 3999 → lexL f l a ts = (ts ++ us ++ [(endTok, l.length)], 0, 0) := by
  intro a us h
  induction h with
  | fin a ha hg =>
    intro f ts hf _
    obtain ⟨g, rfl⟩ : ∃ g, f = g + 1 := ⟨f - 1, by omega⟩
    rw [lex_end (skip_fin ha hg)]
    simp
  | tok a b n t us hab hbn hn hg hs hr _ ih =>
    intro f ts hf hlen
    obtain ⟨g, rfl⟩ : ∃ g, f = g + 1 := ⟨f - 1, by omega⟩
    simp only [List.length_cons] at hlen
    have hsk := skip_tok hab (by omega) hg hs
    rw [lex_on hsk (by omega) (by rw [hr]) (by omega), hr]
    rw [ih g (ts ++ [(t, b)]) (by omega) (by simp; omega)]
    simp

theorem lex_lp (l : Bs) : ∀ (f a : Nat) (ts : List PTok), a ≤ l.length → (lexL f l a ts).2.2 = 0 → ∃ us, (lexL f l a ts).1 = ts ++ us ++ [(endTok, l.length)] ∧ Lp l a us := by
  intro f
  induction f with
  | zero => intro a ts _ h; simp [lexL] at h
  | succ f ih =>
    intro a ts ha h
    obtain ⟨e1, e2, e3⟩ := skipAt_P l a ha
    rcases skip_cases _ (l.drop a) (Nat.le_refl _) with ⟨g, r', hr, hg, hs | ho⟩ | hg
    · have hF : skipF (l.drop a) = (r', 0) := by rw [hr, gap_skip hg, hs.skip]
      rw [hF] at e1 e2 e3
      simp only at e1 e2 e3
      have hlen : (l.drop a).length = g.length + r'.length := by rw [hr]; simp
      rw [List.length_drop] at hlen
      have hr0 : 0 < r'.length := List.length_pos_iff.2 hs.ne
      obtain ⟨b, hb⟩ : ∃ b, (skipAt l a).1 = b := ⟨_, rfl⟩
      rw [hb] at e1 e3
      have hsk : skipAt l a = (b, 0) := by ext; exact hb; exact e2
      by_cases he : (readL (l.drop b)).2.2 = 0
      · by_cases hm : ts.length = 3999
        · rw [lex_many hsk (by omega) he hm] at h; simp at h
        · rw [lex_on hsk (by omega) he hm] at h ⊢
          have hl := readL_len (l := l.drop b) (by rw [e3]; exact hr0) he
          rw [List.length_drop] at hl
          obtain ⟨us, h1, h2⟩ := ih _ _ (by omega) h
          refine ⟨((readL (l.drop b)).1, b) :: us, by rw [h1]; simp, ?_⟩
          refine .tok a b (readL (l.drop b)).2.1 _ us (by omega) (by omega) hl.1 ?_ (by rw [e3]; exact hs) (by ext <;> first | rfl | exact he) h2
          rw [hr, show b - a = g.length by omega, List.take_left]
          exact hg
      · rw [lex_err hsk (by omega) he] at h; exact absurd h he
    · have hF : skipF (l.drop a) = (r', 13) := by rw [hr, gap_skip hg, ho.skip]
      rw [hF] at e2
      have hsk : skipAt l a = ((skipAt l a).1, 13) := by ext; rfl; exact e2
      rw [lex_skipErr hsk] at h; simp at h
    · rw [lex_end (skip_fin ha hg)]
      exact ⟨[], by simp, .fin a ha hg⟩

theorem lp_lx {l : Bs} : ∀ {a : Nat} {us : List PTok}, Lp l a us → Lx (l.drop a) (us.map (·.1)) := by
  intro a us h
  induction h with
  | fin a ha hg => exact .fin _ hg
  | tok a b n t us hab hbn hn hg hs hr _ ih =>
    have h1 : l.drop a = (l.drop a).take (b - a) ++ l.drop b := by
      have := (List.take_append_drop (b - a) (l.drop a)).symm
      rw [List.drop_drop, show a + (b - a) = b by omega] at this
      exact this
    have h2 : l.drop b = (l.drop b).take n ++ l.drop (b + n) := by
      have := (List.take_append_drop n (l.drop b)).symm
      rw [List.drop_drop] at this
      exact this
    have h3 : ((l.drop b).take n).length = n := by rw [List.length_take, List.length_drop]; omega
    rw [h1, h2]
    refine .tok _ _ _ t _ hg ?_ (by rw [h3]; exact hn) ?_ ih
    · rw [← h2]; exact hs
    · rw [← h2, h3]; exact hr
theorem lx_lp {r : Bs} {us : List Tok} (h : Lx r us) : ∀ pre : Bs, ∃ ps : List PTok, ps.map (·.1) = us ∧ Lp (pre ++ r) pre.length ps := by
  induction h with
  | fin l hg => intro pre; exact ⟨[], rfl, .fin _ (by simp) (by rw [List.drop_left]; exact hg)⟩
  | tok g x y t ts hg hs hx hr _ ih =>
    intro pre
    obtain ⟨ps, h1, h2⟩ := ih (pre ++ g ++ x)
    have e : pre ++ g ++ x ++ y = pre ++ (g ++ (x ++ y)) := by simp
    rw [e] at h2
    have e2 : (pre ++ (g ++ (x ++ y))).drop (pre.length + g.length) = x ++ y := by
      rw [← List.append_assoc, List.drop_left' (by simp)]
    refine ⟨(t, pre.length + g.length) :: ps, by simp [h1], ?_⟩
    refine .tok _ _ x.length t ps (by omega) (by simp; omega) hx ?_ (by rw [e2]; exact hs) (by rw [e2]; exact hr) ?_
    · rw [List.drop_left, show pre.length + g.length - pre.length = g.length by omega, List.take_left]; exact hg
    · have e3 : (pre ++ g ++ x).length = pre.length + g.length + x.length := by simp; omega
      rw [e3] at h2; exact h2

/-- Lex of a text with no error, and back. -/
theorem lexAll_lp {l : Bs} (h : (lexAll l).2.2 = 0) : ∃ us, (lexAll l).1 = us ++ [(endTok, l.length)] ∧ (lexAll l).2.1 = 0 ∧ Lp l 0 us ∧ l.length ≤ 20000 ∧ us.length ≤ 3999 := by
  have hlen := lexAll_len l
  have hA := lexAll_answer l
  have hA1 : (lexAll l).2.1 = 0 := by
    rcases hA with ⟨_, h2, _⟩ | ⟨h1, _⟩
    · exact h2
    · exact absurd h h1
  unfold lexAll at h hlen ⊢
  split at h
  · simp at h
  · rename_i hl
    rw [if_neg hl] at hlen ⊢
    obtain ⟨us, h1, h2⟩ := lex_lp l _ 0 [] (Nat.zero_le _) h
    rw [h1] at hlen ⊢
    simp only [List.nil_append, List.length_append, List.length_cons, List.length_nil] at hlen
    refine ⟨us, by simp, ?_, h2, by omega, by omega⟩
    unfold lexAll at hA1; rw [if_neg hl] at hA1; exact hA1
theorem lx_lexAll {l : Bs} {us : List Tok} (h : Lx l us) (hl : l.length ≤ 20000) (hu : us.length ≤ 3999) : ∃ ts, lexAll l = (ts, 0, 0) ∧ ts.map (·.1) = us ++ [endTok] := by
  obtain ⟨ps, h1, h2⟩ := lx_lp h []
  simp only [List.nil_append, List.length_nil] at h2
  have hp : ps.length = us.length := by rw [← h1]; simp
  refine ⟨ps ++ [(endTok, l.length)], ?_, by simp [h1]⟩
  unfold lexAll
  rw [if_neg (by omega), lp_lex h2 _ [] (by omega) (by simp; omega)]
  simp

theorem stops_behind {x y z : Bs} (h : Stops (x ++ y)) (hx : 0 < x.length) (hb : Behind y z) : Stops (x ++ z) := by
  obtain ⟨c, t, he, h1, h2, h3⟩ := h
  cases x with
  | nil => simp at hx
  | cons d x =>
    rw [List.cons_append] at he
    injection he with hd ht
    subst hd
    refine ⟨d, x ++ z, rfl, h1, ?_, ?_⟩
    all_goals
      cases x with
      | cons e x =>
        simp only [Lib.hasPrefix, List.cons_append, List.isPrefixOf_cons_cons, List.isPrefixOf_nil_left, Bool.and_true] at h2 h3 ⊢
        first | exact h2 | exact h3
      | nil =>
        rcases hb with hb | ⟨e, u, rfl, he⟩
        · cases z with
          | nil =>
            cases y with
            | nil => first | exact h2 | exact h3
            | cons f y => simp at hb
          | cons e z =>
            cases y with
            | nil => simp at hb
            | cons f y =>
              simp only [List.head?_cons, Option.some.injEq] at hb
              subst hb
              simp only [Lib.hasPrefix, List.cons_append, List.nil_append, List.isPrefixOf_cons_cons, List.isPrefixOf_nil_left, Bool.and_true] at h2 h3 ⊢
              first | exact h2 | exact h3
        · have := blank_facts he
          simp only [Lib.hasPrefix, List.cons_append, List.nil_append, List.isPrefixOf_cons_cons, List.isPrefixOf_nil_left, Bool.and_true]
          rw [Bool.and_eq_false_iff]
          right
          rw [beq_eq_false_iff_ne]
          intro hh
          subst hh
          simp at this
end Go.Proofs.YteggenldmkbhiaaDoor
namespace Go.Proofs.YteggenldmkbhiaaDoor

theorem behind_line (y z : Bs) : Behind y (y ++ 10 :: z) := by
  cases y with
  | nil => exact .inr ⟨10, z, rfl, blank10⟩
  | cons c y => exact .inl rfl
theorem lx_glue {a b : Bs} {us vs : List Tok} (ha : Lx a us) (hb : Lx b vs) : Lx (a ++ 10 :: b) (us ++ vs) := by
  induction ha with
  | fin a hg =>
    cases hb with
    | fin _ hg2 => exact .fin _ (gapE_gapE hg hg2)
    | tok g x y t ts hg2 hs hx hr h =>
      have e : a ++ 10 :: (g ++ (x ++ y)) = (a ++ 10 :: g) ++ (x ++ y) := by simp
      rw [e]
      exact .tok _ x y t ts (gapE_gap hg hg2) hs hx hr h
  | tok g x y t ts hg hs hx hr _ ih =>
    have e : g ++ (x ++ y) ++ 10 :: b = g ++ (x ++ (y ++ 10 :: b)) := by simp
    rw [e]
    exact .tok g x _ t _ hg (stops_behind hs hx (behind_line y b)) hx (readL_stop hx hr (behind_line y b)) ih

/-- Where the next token begins, or the text ends. -/
def nextOf (n : Nat) : List PTok → Nat
  | [] => n
  | (_, b) :: _ => b
/-- The pieces from token to token, each with s behind it. -/
def parts (l s : Bs) : List PTok → Bs
  | [] => []
  | (_, b) :: ps => (l.drop b).take (nextOf l.length ps - b) ++ s ++ parts l s ps

theorem lp_next {l : Bs} {a : Nat} {ps : List PTok} (h : Lp l a ps) : a ≤ nextOf l.length ps ∧ nextOf l.length ps ≤ l.length := by
  cases h with
  | fin a ha _ => exact ⟨ha, Nat.le_refl _⟩
  | tok a b n t ts hab hbn hn _ _ _ _ => exact ⟨hab, by show b ≤ l.length; omega⟩

theorem lx_parts {l s : Bs} (hs10 : Gap s) : ∀ {a : Nat} {ps : List PTok}, Lp l a ps →
    Lx ((l.drop a).take (nextOf l.length ps - a) ++ 10 :: s ++ parts l (10 :: s) ps) (ps.map (·.1)) ∧ Lx (parts l (10 :: s) ps) (ps.map (·.1)) := by
  intro a ps h
  induction h with
  | fin a ha hg =>
    refine ⟨?_, .fin _ (.inl .nil)⟩
    have e : (l.drop a).take (nextOf l.length [] - a) = l.drop a := by
      rw [List.take_of_length_le]; rw [List.length_drop]; exact Nat.le_refl _
    rw [e]
    have e2 : l.drop a ++ 10 :: s ++ parts l (10 :: s) [] = l.drop a ++ 10 :: s := by simp [parts]
    rw [e2]
    exact .fin _ (.inl (gapE_gap hg hs10))
  | tok a b n t us hab hbn hn hg hst hr hlp ih =>
    obtain ⟨ih, _⟩ := ih
    obtain ⟨hn1, hn2⟩ := lp_next hlp
    have h2 : l.drop b = (l.drop b).take n ++ l.drop (b + n) := by
      have := (List.take_append_drop n (l.drop b)).symm
      rw [List.drop_drop] at this
      exact this
    have h3 : ((l.drop b).take n).length = n := by rw [List.length_take, List.length_drop]; omega
    obtain ⟨G, hG⟩ : ∃ G, G = (l.drop (b + n)).take (nextOf l.length us - (b + n)) := ⟨_, rfl⟩
    have h4 : (l.drop b).take (nextOf l.length us - b) = (l.drop b).take n ++ G := by
      rw [hG]
      have e : nextOf l.length us - b = n + (nextOf l.length us - (b + n)) := by omega
      rw [e, List.take_add, List.drop_drop]
    have hb : Behind (l.drop (b + n)) (G ++ 10 :: s ++ parts l (10 :: s) us) := by
      cases G with
      | nil => exact .inr ⟨10, s ++ parts l (10 :: s) us, by simp, blank10⟩
      | cons c G =>
        left
        cases hd : l.drop (b + n) with
        | nil => rw [hd] at hG; simp at hG
        | cons d u =>
          rw [hd] at hG
          cases hk : nextOf l.length us - (b + n) with
          | zero => rw [hk] at hG; simp at hG
          | succ k =>
            rw [hk, List.take_succ_cons] at hG
            injection hG with hG _
            simp [hG]
    rw [← hG] at ih
    have hT : Lx ((l.drop b).take n ++ (G ++ 10 :: s ++ parts l (10 :: s) us)) (t :: us.map (·.1)) :=
      .tok [] _ _ t _ .nil (stops_behind (by rw [← h2]; exact hst) (by rw [h3]; exact hn) hb) (by rw [h3]; exact hn) (readL_stop (by rw [h3]; exact hn) (by rw [← h2, h3]; exact hr) hb) ih
    have e5 : parts l (10 :: s) ((t, b) :: us) = (l.drop b).take n ++ (G ++ 10 :: s ++ parts l (10 :: s) us) := by
      simp only [parts]; rw [h4]; simp
    refine ⟨?_, by rw [e5]; exact hT⟩
    have e6 : (l.drop a).take (nextOf l.length ((t, b) :: us) - a) = (l.drop a).take (b - a) := rfl
    rw [e5, e6]
    have hgs : Gap ((l.drop a).take (b - a) ++ 10 :: s) := gap_append hg (.blank 10 s blank10 hs10)
    exact .tok _ _ _ t _ hgs (stops_behind (by rw [← h2]; exact hst) (by rw [h3]; exact hn) hb) (by rw [h3]; exact hn) (readL_stop (by rw [h3]; exact hn) (by rw [← h2, h3]; exact hr) hb) ih

theorem parts_len {l s : Bs} : ∀ {a : Nat} {ps : List PTok}, Lp l a ps → (parts l s ps).length + nextOf l.length ps ≤ l.length + ps.length * s.length := by
  intro a ps h
  induction h with
  | fin a ha hg => simp [parts, nextOf]
  | tok a b n t us hab hbn hn hg hst hr hlp ih =>
    obtain ⟨hn1, hn2⟩ := lp_next hlp
    simp only [parts, List.length_append, List.length_take, List.length_drop, List.length_cons, Nat.add_mul, Nat.one_mul]
    show _ + b ≤ _
    omega

theorem index_snoc {c : UInt8} (hc : c ≠ 47) : ∀ t : Bs, Lib.index t [42, 47] < 0 → Lib.index (t ++ [c]) [42, 47] < 0 := by
  intro t
  induction t with
  | nil => intro _; rw [List.nil_append, Lib.index]; simp [List.isPrefixOf, Lib.index]
  | cons b l ih =>
    intro h
    have hp : ¬ ([42, 47] : Bs).isPrefixOf (b :: l) = true := by
      intro hp; rw [Lib.index, if_pos hp] at h; omega
    rw [Lib.index, if_neg hp] at h
    have hge := Lib.index_ge l [42, 47]
    have hl : Lib.index l [42, 47] < 0 := by
      rcases Int.lt_or_le (Lib.index l [42, 47]) 0 with h1 | h1
      · exact h1
      · rw [if_neg (by simp; omega)] at h; omega
    have h2 := ih hl
    have hge2 := Lib.index_ge (l ++ [c]) [42, 47]
    have hp2 : ¬ ([42, 47] : Bs).isPrefixOf (b :: (l ++ [c])) = true := by
      intro hq
      cases l with
      | nil =>
        simp only [List.nil_append, List.isPrefixOf_cons_cons, List.isPrefixOf_nil_left, Bool.and_true, Bool.and_eq_true, beq_iff_eq] at hq
        exact hc hq.2.symm
      | cons d l =>
        apply hp
        simpa only [List.cons_append, List.isPrefixOf_cons_cons, List.isPrefixOf_nil_left, Bool.and_true] using hq
    rw [List.cons_append, Lib.index, if_neg hp2, if_pos (by simp; omega)]
    omega

theorem blank_ne47 {c : UInt8} (hc : blankB c = true) : c ≠ 47 := by
  intro h; subst h; rw [blank47] at hc; cases hc
theorem stops_snoc {r : Bs} {c : UInt8} (h : Stops r) (hc : blankB c = true) : Stops (r ++ [c]) :=
  stops_behind (x := r) (y := []) (by simpa using h) (List.length_pos_iff.2 h.ne) (.inr ⟨c, [], rfl, hc⟩)
theorem opens_snoc {r : Bs} {c : UInt8} (h : Opens r) (hc : blankB c = true) : Opens (r ++ [c]) := by
  obtain ⟨t, rfl, h1⟩ := h
  exact ⟨t ++ [c], rfl, index_snoc (blank_ne47 hc) t h1⟩
theorem gapE_snoc {g : Bs} {c : UInt8} (h : GapE g) (hc : blankB c = true) : GapE (g ++ [c]) := by
  rcases h with h | ⟨g1, m, rfl, h1, hm⟩
  · exact .inl (gap_append h (.blank c [] hc .nil))
  · by_cases h10 : c = 10
    · subst h10
      have e : g1 ++ 47 :: 47 :: m ++ [10] = g1 ++ 47 :: 47 :: (m ++ 10 :: []) := by simp
      rw [e]
      exact .inl (gap_append h1 (.line m [] hm .nil))
    · refine .inr ⟨g1, m ++ [c], by simp, h1, ?_⟩
      intro x hx
      simp only [List.mem_append, List.mem_cons, List.not_mem_nil, or_false] at hx
      rcases hx with hx | rfl
      · exact hm x hx
      · exact h10

def AlikeR (R R' : List PTok × Nat × Nat) : Prop := R'.2 = R.2 ∧ R'.1.map (·.1) = R.1.map (·.1)

theorem lexL_blank {c : UInt8} (hc : blankB c = true) (l : Bs) : ∀ (f f' a : Nat) (ts ts' : List PTok), a ≤ l.length → l.length - a < f → l.length + 1 - a < f' → ts'.map (·.1) = ts.map (·.1) →
    AlikeR (lexL f l a ts) (lexL f' (l ++ [c]) a ts') := by
  intro f
  induction f with
  | zero => intro f' a ts ts' _ h; omega
  | succ f ih =>
    intro f' a ts ts' ha hf hf' hm
    obtain ⟨f', rfl⟩ : ∃ g, f' = g + 1 := ⟨f' - 1, by omega⟩
    have hml : ts'.length = ts.length := by simpa using congrArg List.length hm
    have hl' : (l ++ [c]).length = l.length + 1 := by simp
    have hd : (l ++ [c]).drop a = l.drop a ++ [c] := List.drop_append_of_le_length ha
    obtain ⟨e1, e2, e3⟩ := skipAt_P l a ha
    obtain ⟨d1, d2, d3⟩ := skipAt_P (l ++ [c]) a (by omega)
    rw [hd] at d1 d2 d3
    rcases skip_cases _ (l.drop a) (Nat.le_refl _) with ⟨g, r', hr, hg, hs⟩ | hg
    · have hlen : (l.drop a).length = g.length + r'.length := by rw [hr]; simp
      rw [List.length_drop] at hlen
      have hass : l.drop a ++ [c] = g ++ (r' ++ [c]) := by rw [hr]; simp
      rcases hs with hs | ho
      · have hF : skipF (l.drop a) = (r', 0) := by rw [hr, gap_skip hg, hs.skip]
        have hF' : skipF (l.drop a ++ [c]) = (r' ++ [c], 0) := by rw [hass, gap_skip hg, (stops_snoc hs hc).skip]
        rw [hF] at e1 e2 e3
        rw [hF'] at d1 d2 d3
        simp only [List.length_append, List.length_cons, List.length_nil] at e1 e2 e3 d1 d2 d3
        have hr0 : 0 < r'.length := List.length_pos_iff.2 hs.ne
        obtain ⟨b, hb⟩ : ∃ b, (skipAt l a).1 = b := ⟨_, rfl⟩
        rw [hb] at e1 e3
        have hb' : (skipAt (l ++ [c]) a).1 = b := by omega
        rw [hb'] at d3
        have hsk : skipAt l a = (b, 0) := by ext; exact hb; exact e2
        have hsk' : skipAt (l ++ [c]) a = (b, 0) := by ext; exact hb'; exact d2
        have hrd : readL ((l ++ [c]).drop b) = readL (l.drop b) := by rw [d3, e3, readL_blank hr0 hc]
        by_cases he : (readL (l.drop b)).2.2 = 0
        · by_cases hmn : ts.length = 3999
          · rw [lex_many hsk (by omega) he hmn, lex_many hsk' (by omega) (by rw [hrd]; exact he) (by omega)]
            exact ⟨rfl, rfl⟩
          · rw [lex_on hsk (by omega) he hmn, lex_on hsk' (by omega) (by rw [hrd]; exact he) (by omega), hrd]
            have hl := readL_len (l := l.drop b) (by rw [e3]; exact hr0) he
            rw [List.length_drop] at hl
            exact ih f' _ _ _ (by omega) (by omega) (by omega) (by simp [hm])
        · rw [lex_err hsk (by omega) he, lex_err hsk' (by omega) (by rw [hrd]; exact he), hrd]
          exact ⟨rfl, rfl⟩
      · have hF : skipF (l.drop a) = (r', 13) := by rw [hr, gap_skip hg, ho.skip]
        have hF' : skipF (l.drop a ++ [c]) = (r' ++ [c], 13) := by rw [hass, gap_skip hg, (opens_snoc ho hc).skip]
        rw [hF] at e1 e2
        rw [hF'] at d1 d2
        simp only [List.length_append, List.length_cons, List.length_nil] at e1 e2 d1 d2
        have hsk : skipAt l a = ((skipAt l a).1, 13) := by ext; rfl; exact e2
        have hsk' : skipAt (l ++ [c]) a = ((skipAt l a).1, 13) := by ext; omega; exact d2
        rw [lex_skipErr hsk, lex_skipErr hsk']
        exact ⟨rfl, rfl⟩
    · rw [lex_end (skip_fin ha hg), lex_end (skip_fin (by omega) (by rw [hd]; exact gapE_snoc hg hc))]
      exact ⟨rfl, by simp [hm]⟩
theorem lexAll_blank {c : UInt8} (hc : blankB c = true) (l : Bs) (h : l.length < 20000) : AlikeR (lexAll l) (lexAll (l ++ [c])) := by
  unfold lexAll
  rw [if_neg (by omega), if_neg (by simp; omega)]
  have hl' : (l ++ [c]).length = l.length + 1 := by simp
  exact lexL_blank hc l _ _ 0 [] [] (Nat.zero_le _) (by omega) (by omega) rfl
end Go.Proofs.YteggenldmkbhiaaDoor
