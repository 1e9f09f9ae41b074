/- The signs: the longest of the document's list with which a text begins is what lex finds. -/
import Derived.Test.YteggenldmkbhiaaDoorTA
import Derived.Test.YteggenldmkbhiaaDoorTB
namespace Go.Proofs.YteggenldmkbhiaaDoor
open Go.RowKit
/-- The longest sign of the list with which l begins; 0: none. -/
def refSign (l : Bs) : Int :=
  if 3 ≤ l.length ∧ isSignL (l.take 3) = true then 3 else if 2 ≤ l.length ∧ isSignL (l.take 2) = true then 2 else if 1 ≤ l.length ∧ isSignL (l.take 1) = true then 1 else 0
theorem nn (c : UInt8) (n : UInt8) : ((c.toNat : Int) = (n.toNat : Int)) ↔ c = n := by
  constructor
  · intro h; apply UInt8.toNat_inj.1; omega
  · rintro rfl; rfl
theorem n33 (c : UInt8) : ((c.toNat : Int) = 33) ↔ c = 33 := nn c 33
theorem n37 (c : UInt8) : ((c.toNat : Int) = 37) ↔ c = 37 := nn c 37
theorem n38 (c : UInt8) : ((c.toNat : Int) = 38) ↔ c = 38 := nn c 38
theorem n40 (c : UInt8) : ((c.toNat : Int) = 40) ↔ c = 40 := nn c 40
theorem n41 (c : UInt8) : ((c.toNat : Int) = 41) ↔ c = 41 := nn c 41
theorem n42 (c : UInt8) : ((c.toNat : Int) = 42) ↔ c = 42 := nn c 42
theorem n43 (c : UInt8) : ((c.toNat : Int) = 43) ↔ c = 43 := nn c 43
theorem n44 (c : UInt8) : ((c.toNat : Int) = 44) ↔ c = 44 := nn c 44
theorem n45 (c : UInt8) : ((c.toNat : Int) = 45) ↔ c = 45 := nn c 45
theorem n47 (c : UInt8) : ((c.toNat : Int) = 47) ↔ c = 47 := nn c 47
theorem n58 (c : UInt8) : ((c.toNat : Int) = 58) ↔ c = 58 := nn c 58
theorem n59 (c : UInt8) : ((c.toNat : Int) = 59) ↔ c = 59 := nn c 59
theorem n60 (c : UInt8) : ((c.toNat : Int) = 60) ↔ c = 60 := nn c 60
theorem n61 (c : UInt8) : ((c.toNat : Int) = 61) ↔ c = 61 := nn c 61
theorem n62 (c : UInt8) : ((c.toNat : Int) = 62) ↔ c = 62 := nn c 62
theorem n63 (c : UInt8) : ((c.toNat : Int) = 63) ↔ c = 63 := nn c 63
theorem n91 (c : UInt8) : ((c.toNat : Int) = 91) ↔ c = 91 := nn c 91
theorem n93 (c : UInt8) : ((c.toNat : Int) = 93) ↔ c = 93 := nn c 93
theorem n94 (c : UInt8) : ((c.toNat : Int) = 94) ↔ c = 94 := nn c 94
theorem n123 (c : UInt8) : ((c.toNat : Int) = 123) ↔ c = 123 := nn c 123
theorem n124 (c : UInt8) : ((c.toNat : Int) = 124) ↔ c = 124 := nn c 124
theorem n125 (c : UInt8) : ((c.toNat : Int) = 125) ↔ c = 125 := nn c 125
theorem n126 (c : UInt8) : ((c.toNat : Int) = 126) ↔ c = 126 := nn c 126
set_option maxHeartbeats 1000000 in
theorem sign1 (a : UInt8) : refSign [a] = signL [a] := by
  unfold refSign signL signN
  simp only [byteL, List.getD, List.getElem?_cons_zero, List.getElem?_cons_succ, List.getElem?_nil, Option.getD_some, Option.getD_none, nn, n33, n37, n38, n40, n41, n42, n43, n44, n45, n47, n58, n59, n60, n61, n62, n63, n91, n93, n94, n123, n124, n125, n126]
  simp only [isSignL, signsL, List.take, List.length_cons, List.length_nil]
  by_cases h33 : a = 33
  · subst h33
    simp_all
  by_cases h37 : a = 37
  · subst h37
    simp_all
  by_cases h38 : a = 38
  · subst h38
    simp_all
  by_cases h40 : a = 40
  · subst h40
    simp_all
  by_cases h41 : a = 41
  · subst h41
    simp_all
  by_cases h42 : a = 42
  · subst h42
    simp_all
  by_cases h43 : a = 43
  · subst h43
    simp_all
  by_cases h44 : a = 44
  · subst h44
    simp_all
  by_cases h45 : a = 45
  · subst h45
    simp_all
  by_cases h47 : a = 47
  · subst h47
    simp_all
  by_cases h58 : a = 58
  · subst h58
    simp_all
  by_cases h59 : a = 59
  · subst h59
    simp_all
  by_cases h60 : a = 60
  · subst h60
    simp_all
  by_cases h61 : a = 61
  · subst h61
    simp_all
  by_cases h62 : a = 62
  · subst h62
    simp_all
  by_cases h63 : a = 63
  · subst h63
    simp_all
  by_cases h91 : a = 91
  · subst h91
    simp_all
  by_cases h93 : a = 93
  · subst h93
    simp_all
  by_cases h94 : a = 94
  · subst h94
    simp_all
  by_cases h123 : a = 123
  · subst h123
    simp_all
  by_cases h124 : a = 124
  · subst h124
    simp_all
  by_cases h125 : a = 125
  · subst h125
    simp_all
  by_cases h126 : a = 126
  · subst h126
    simp_all
  simp_all
set_option maxHeartbeats 1000000 in
theorem sign2 (a b : UInt8) : refSign [a, b] = signL [a, b] := by
  unfold refSign signL signN
  simp only [byteL, List.getD, List.getElem?_cons_zero, List.getElem?_cons_succ, List.getElem?_nil, Option.getD_some, Option.getD_none, nn, n33, n37, n38, n40, n41, n42, n43, n44, n45, n47, n58, n59, n60, n61, n62, n63, n91, n93, n94, n123, n124, n125, n126]
  simp only [isSignL, signsL, List.take, List.length_cons, List.length_nil]
  by_cases h33 : a = 33
  · subst h33
    by_cases b = 61 <;> simp_all
  by_cases h37 : a = 37
  · subst h37
    by_cases b = 61 <;> simp_all
  by_cases h38 : a = 38
  · subst h38
    by_cases b = 38 <;> by_cases b = 61 <;> simp_all
  by_cases h40 : a = 40
  · subst h40
    simp_all
  by_cases h41 : a = 41
  · subst h41
    simp_all
  by_cases h42 : a = 42
  · subst h42
    by_cases b = 61 <;> simp_all
  by_cases h43 : a = 43
  · subst h43
    by_cases b = 43 <;> by_cases b = 61 <;> simp_all
  by_cases h44 : a = 44
  · subst h44
    simp_all
  by_cases h45 : a = 45
  · subst h45
    by_cases b = 45 <;> by_cases b = 61 <;> simp_all
  by_cases h47 : a = 47
  · subst h47
    by_cases b = 61 <;> simp_all
  by_cases h58 : a = 58
  · subst h58
    simp_all
  by_cases h59 : a = 59
  · subst h59
    simp_all
  by_cases h60 : a = 60
  · subst h60
    by_cases b = 60 <;> by_cases b = 61 <;> simp_all
  by_cases h61 : a = 61
  · subst h61
    by_cases b = 61 <;> simp_all
  by_cases h62 : a = 62
  · subst h62
    by_cases b = 61 <;> by_cases b = 62 <;> simp_all
  by_cases h63 : a = 63
  · subst h63
    simp_all
  by_cases h91 : a = 91
  · subst h91
    simp_all
  by_cases h93 : a = 93
  · subst h93
    simp_all
  by_cases h94 : a = 94
  · subst h94
    by_cases b = 61 <;> simp_all
  by_cases h123 : a = 123
  · subst h123
    simp_all
  by_cases h124 : a = 124
  · subst h124
    by_cases b = 61 <;> by_cases b = 124 <;> simp_all
  by_cases h125 : a = 125
  · subst h125
    simp_all
  by_cases h126 : a = 126
  · subst h126
    simp_all
  simp_all
set_option maxHeartbeats 1000000 in
theorem sign3 (a b c : UInt8) (t : Bs) : refSign (a :: b :: c :: t) = signL (a :: b :: c :: t) := by
  unfold refSign signL signN
  simp only [byteL, List.getD, List.getElem?_cons_zero, List.getElem?_cons_succ, Option.getD_some, nn, n33, n37, n38, n40, n41, n42, n43, n44, n45, n47, n58, n59, n60, n61, n62, n63, n91, n93, n94, n123, n124, n125, n126]
  simp only [isSignL, signsL, List.take, List.length_cons]
  by_cases h33 : a = 33
  · subst h33
    by_cases b = 61 <;> simp_all
  by_cases h37 : a = 37
  · subst h37
    by_cases b = 61 <;> simp_all
  by_cases h38 : a = 38
  · subst h38
    by_cases b = 38 <;> by_cases b = 61 <;> simp_all
  by_cases h40 : a = 40
  · subst h40
    simp_all
  by_cases h41 : a = 41
  · subst h41
    simp_all
  by_cases h42 : a = 42
  · subst h42
    by_cases b = 61 <;> simp_all
  by_cases h43 : a = 43
  · subst h43
    by_cases b = 43 <;> by_cases b = 61 <;> simp_all
  by_cases h44 : a = 44
  · subst h44
    simp_all
  by_cases h45 : a = 45
  · subst h45
    by_cases b = 45 <;> by_cases b = 61 <;> simp_all
  by_cases h47 : a = 47
  · subst h47
    by_cases b = 61 <;> simp_all
  by_cases h58 : a = 58
  · subst h58
    simp_all
  by_cases h59 : a = 59
  · subst h59
    simp_all
  by_cases h60 : a = 60
  · subst h60
    by_cases b = 60 <;> by_cases b = 61 <;> by_cases c = 61 <;> simp_all
  by_cases h61 : a = 61
  · subst h61
    by_cases b = 61 <;> simp_all
  by_cases h62 : a = 62
  · subst h62
    by_cases b = 61 <;> by_cases b = 62 <;> by_cases c = 61 <;> simp_all
  by_cases h63 : a = 63
  · subst h63
    simp_all
  by_cases h91 : a = 91
  · subst h91
    simp_all
  by_cases h93 : a = 93
  · subst h93
    simp_all
  by_cases h94 : a = 94
  · subst h94
    by_cases b = 61 <;> simp_all
  by_cases h123 : a = 123
  · subst h123
    simp_all
  by_cases h124 : a = 124
  · subst h124
    by_cases b = 61 <;> by_cases b = 124 <;> simp_all
  by_cases h125 : a = 125
  · subst h125
    simp_all
  by_cases h126 : a = 126
  · subst h126
    simp_all
  simp_all
theorem refSign_eq (l : Bs) : refSign l = signL l := by
  match l with
  | [] => rfl
  | [a] => exact sign1 a
  | [a, b] => exact sign2 a b
  | a :: b :: c :: t => exact sign3 a b c t
end Go.Proofs.YteggenldmkbhiaaDoor
namespace Go.Proofs.YteggenldmkbhiaaDoor
open Go.RowKit
/-- What the answer's token says: the token at its place and its end, or the error alone. -/
def TokEnd (r : Tok × Nat × Nat) (a : Nat) (e : Ending) : Prop :=
  ∃ (t : Tok) (n : Int), e = .returned (.tuple #[aggT t a, .int .i64 n, .int .i64 r.2.2]) ∧ (r.2.2 = 0 → t = r.1 ∧ n = a + r.2.1)
theorem ext_at (s : ByteArray) (a n : Nat) (_h : a + n ≤ s.size) : s.extract a (a + n) = ⟨((s.data.toList.drop a).take n).toArray⟩ := by
  have h1 : (s.extract a (a + n)).data.toList = (s.data.toList.drop a).take n := by
    rw [Lib.extract_data]; congr 1; omega
  have h2 : (s.extract a (a + n)).data = ((s.data.toList.drop a).take n).toArray := by rw [← h1]
  rw [← h2]
theorem word_short {l : Bs} (h : isWordL l = true) : l.length ≤ 8 := by
  unfold isWordL wordsL at h
  rw [decide_eq_true_iff] at h
  simp only [List.mem_cons, List.not_mem_nil, or_false] at h
  rcases h with rfl | rfl | rfl | rfl | rfl | rfl | rfl | rfl | rfl | rfl | rfl | rfl | rfl | rfl | rfl | rfl | rfl <;> decide
theorem run_at_le (s : ByteArray) (a : Nat) (ha : a ≤ s.size) : a + runLen (s.data.toList.drop a) ≤ s.size := by
  have := runL_le (s.data.toList.drop a)
  rw [List.length_drop, ← Lib.size_eq] at this
  omega
theorem below_two (w : World) (o o' : Obj) : Below w.heap.size w ((w.alloc o).alloc o') := (below_one w o).alloc (by rw [World.size_alloc]; omega) o'
theorem getD_drop (s : ByteArray) (a : Nat) (h : a < s.size) : (s.data.toList.drop a).getD 0 0 = s[a] := by
  rw [drop_cons s a h]; rfl

set_option maxHeartbeats 1000000 in
theorem rTokName (s : ByteArray) (a : Nat) (ha : a < s.size) (w : World) (hs : s.size ≤ 20000) (hl : letterB s[a] = true) :
    Calls Tryd.prog 23 #[.string s, .int .i64 a] w fun e w' => TokEnd (readL (s.data.toList.drop a)) a e ∧ Below w.heap.size w w' := by
  have hle := run_at_le s a (by omega)
  have hrn := fun w => rRun_any s a (by omega) w hs
  have hx := ext_at s a (runLen (s.data.toList.drop a)) hle
  have hV : readL (s.data.toList.drop a) = nameL (s.data.toList.drop a) := by unfold readL; rw [getD_drop s a ha, hl, if_pos rfl]
  rw [hV]
  unfold nameL
  have hw := rWord_any (s.extract a (a + runLen (s.data.toList.drop a)))
  have hxl : (s.extract a (a + runLen (s.data.toList.drop a))).data.toList = (s.data.toList.drop a).take (runLen (s.data.toList.drop a)) := by rw [hx]
  rw [hxl] at hw
  have hlen : ((s.data.toList.drop a).take (runLen (s.data.toList.drop a))).length = runLen (s.data.toList.drop a) := by
    rw [List.length_take]; exact Nat.min_eq_left (runL_le _)
  clear hV hxl
  generalize runLen (s.data.toList.drop a) = n at *
  generalize (s.data.toList.drop a).take n = X at *
  have i1 : (a : Int) < s.size := by omega
  have i2 : (a : Int) + n ≤ s.size := by omega
  have HX := Lib.hid hx
  have HR := Lib.hid hrn
  clear hx hrn
  cases hword : isWordL X with
  | true =>
    have h31 := word_short hword
    rw [hlen] at h31
    rw [hword] at hw
    have HW := Lib.hid hw
    rw [if_pos rfl]
    clear hw hword hlen
    go_enter Tryd.func23, Tryd.ntmps23
    go_wp2_with (first | (go_at_call 27; refine (rLetter_any _ _).mono ?_; rintro e w' ⟨rfl, rfl⟩) | (go_at_call 28; refine (HR.out _).mono ?_; rintro e w' ⟨rfl, rfl⟩) | (go_at_call 29; refine (HW.out _).mono ?_; rintro e w' ⟨rfl, rfl⟩))
    exact bodyPost_ret (v := .tuple #[.agg #[.int .i64 3, .int .i64 a, .string (s.extract a (a + n)), .int .u32 0, .bool false], .int .i64 (a + n), .int .i64 0]) (by simp [results, Tryd.results23, go_sem]) rfl ⟨⟨⟨3, X, 0, false⟩, a + n, by rw [HX.out]; rfl, fun _ => ⟨rfl, rfl⟩⟩, below_two _ _ _⟩
  | false =>
    rw [hword] at hw
    have HW := Lib.hid hw
    rw [if_neg (by simp)]
    clear hw hword hlen
    by_cases h31 : 31 < n
    · rw [if_pos h31]
      go_enter Tryd.func23, Tryd.ntmps23
      go_wp2_with (first | (go_at_call 27; refine (rLetter_any _ _).mono ?_; rintro e w' ⟨rfl, rfl⟩) | (go_at_call 28; refine (HR.out _).mono ?_; rintro e w' ⟨rfl, rfl⟩) | (go_at_call 29; refine (HW.out _).mono ?_; rintro e w' ⟨rfl, rfl⟩))
      exact bodyPost_ret (v := .tuple #[.agg #[.int .i64 1, .int .i64 a, .string (s.extract a (a + n)), .int .u32 0, .bool false], .int .i64 (a + n), .int .i64 10]) (by simp [results, Tryd.results23, go_sem]) rfl ⟨⟨⟨1, X, 0, false⟩, a + n, by rw [HX.out]; rfl, fun h => by simp at h⟩, below_two _ _ _⟩
    · rw [if_neg h31]
      go_enter Tryd.func23, Tryd.ntmps23
      go_wp2_with (first | (go_at_call 27; refine (rLetter_any _ _).mono ?_; rintro e w' ⟨rfl, rfl⟩) | (go_at_call 28; refine (HR.out _).mono ?_; rintro e w' ⟨rfl, rfl⟩) | (go_at_call 29; refine (HW.out _).mono ?_; rintro e w' ⟨rfl, rfl⟩))
      exact bodyPost_ret (v := .tuple #[.agg #[.int .i64 1, .int .i64 a, .string (s.extract a (a + n)), .int .u32 0, .bool false], .int .i64 (a + n), .int .i64 0]) (by simp [results, Tryd.results23, go_sem]) rfl ⟨⟨⟨1, X, 0, false⟩, a + n, by rw [HX.out]; rfl, fun _ => ⟨rfl, rfl⟩⟩, below_two _ _ _⟩

set_option maxHeartbeats 1000000 in
theorem rTokChar (s : ByteArray) (a : Nat) (ha : a < s.size) (w : World) (hs : s.size ≤ 20000) (hl : letterB s[a] = false) (hd : digitB s[a] = false) (hq : (s[a].toNat : Int) = 39) :
    Calls Tryd.prog 23 #[.string s, .int .i64 a] w fun e w' => TokEnd (readL (s.data.toList.drop a)) a e ∧ Below w.heap.size w w' := by
  have hrn := fun w => rCharacter_any s a ha w hs
  have hb0 : byteL (s.data.toList.drop a) 0 = 39 := by have := byteL_drop s a 0 ha; simp only [Nat.add_zero] at this; omega
  have hV : readL (s.data.toList.drop a) = chrL (s.data.toList.drop a) := by unfold readL; rw [getD_drop s a ha, hl, if_neg (by simp), hd, if_neg (by simp), if_pos hb0]
  rw [hV]
  unfold chrL
  have hr := charL_range (s.data.toList.drop a)
  unfold chrEnd at hrn
  obtain ⟨⟨hx0, hx1⟩, hn0, hn1⟩ := hr
  generalize (charL (s.data.toList.drop a)).1 = x at *
  generalize (charL (s.data.toList.drop a)).2 = n at *
  have i1 : (a : Int) < s.size := by omega
  have gq : ((s[a].toNat : Int) == 39) = true := by simpa using hq
  clear hV hb0 hq
  by_cases hn : n = 0
  · rw [if_pos hn] at hrn ⊢
    have HR := Lib.hid hrn
    clear hrn
    go_enter Tryd.func23, Tryd.ntmps23
    go_wp2_with (first | (go_at_call 27; refine (rLetter_any _ _).mono ?_; rintro e w' ⟨rfl, rfl⟩) | (go_at_call 30; refine (rDigit_any _ _).mono ?_; rintro e w' ⟨rfl, rfl⟩) | (go_at_call 32; refine (HR.out _).mono ?_; rintro e w' ⟨rfl, rfl⟩))
    exact bodyPost_ret (v := .tuple #[.agg #[.int .i64 2, .int .i64 a, .string ⟨#[]⟩, .int .u32 x, .bool false], .int .i64 a, .int .i64 12]) (by simp [results, Tryd.results23, go_sem]) rfl ⟨⟨⟨2, [], x.toNat, false⟩, a, by simp [aggT, Int.toNat_of_nonneg hx0], fun h => by simp at h⟩, below_two _ _ _⟩
  · rw [if_neg hn] at hrn ⊢
    have HR := Lib.hid hrn
    clear hrn
    go_enter Tryd.func23, Tryd.ntmps23
    go_wp2_with (first | (go_at_call 27; refine (rLetter_any _ _).mono ?_; rintro e w' ⟨rfl, rfl⟩) | (go_at_call 30; refine (rDigit_any _ _).mono ?_; rintro e w' ⟨rfl, rfl⟩) | (go_at_call 32; refine (HR.out _).mono ?_; rintro e w' ⟨rfl, rfl⟩))
    exact bodyPost_ret (v := .tuple #[.agg #[.int .i64 2, .int .i64 a, .string ⟨#[]⟩, .int .u32 x, .bool false], .int .i64 (a + n), .int .i64 0]) (by simp [results, Tryd.results23, go_sem]) rfl ⟨⟨⟨2, [], x.toNat, false⟩, a + n, by simp [aggT, Int.toNat_of_nonneg hx0], fun _ => ⟨rfl, by simp only []; omega⟩⟩, below_two _ _ _⟩
end Go.Proofs.YteggenldmkbhiaaDoor
namespace Go.Proofs.YteggenldmkbhiaaDoor
open Go.RowKit
/-- The longest sign of at most k bytes. -/
def sf (l : Bs) : Nat → Int
  | 0 => 0
  | k + 1 => if k + 1 ≤ l.length ∧ isSignL (l.take (k + 1)) = true then ((k + 1 : Nat) : Int) else sf l k
theorem sf3 (l : Bs) : sf l 3 = signL l := by
  rw [← refSign_eq]; rfl
theorem sf_hit {l : Bs} {k : Nat} (h : k + 1 ≤ l.length) (hs : isSignL (l.take (k + 1)) = true) : sf l (k + 1) = ((k + 1 : Nat) : Int) := by rw [sf, if_pos ⟨h, hs⟩]
theorem sf_no {l : Bs} {k : Nat} (hs : isSignL (l.take (k + 1)) = false) : sf l (k + 1) = sf l k := by rw [sf, if_neg (by rw [hs]; simp)]
theorem sf_out {l : Bs} {k : Nat} (h : ¬ k + 1 ≤ l.length) : sf l (k + 1) = sf l k := by rw [sf, if_neg (fun h1 => h h1.1)]

set_option maxHeartbeats 2000000 in
theorem rTokSign (s : ByteArray) (a : Nat) (ha : a < s.size) (w : World) (hs : s.size ≤ 20000) (hl : letterB s[a] = false) (hd : digitB s[a] = false) (hq : ¬ (s[a].toNat : Int) = 39) :
    Calls Tryd.prog 23 #[.string s, .int .i64 a] w fun e w' => TokEnd (readL (s.data.toList.drop a)) a e ∧ Below w.heap.size w w' := by
  have hb0 : ¬ byteL (s.data.toList.drop a) 0 = 39 := by have := byteL_drop s a 0 ha; simp only [Nat.add_zero] at this; omega
  have hV : readL (s.data.toList.drop a) = sgnL (s.data.toList.drop a) := by unfold readL; rw [getD_drop s a ha, hl, if_neg (by simp), hd, if_neg (by simp), if_neg hb0]
  rw [hV]
  have hS0 := (sf3 (s.data.toList.drop a)).symm
  have hlen : (s.data.toList.drop a).length = s.size - a := by rw [List.length_drop, ← Lib.size_eq]
  obtain ⟨G, hG⟩ : ∃ G, G = signL (s.data.toList.drop a) := ⟨_, rfl⟩
  have hR : sgnL (s.data.toList.drop a) = if G = 0 then (zeroTok, 0, 14) else (⟨4, (s.data.toList.drop a).take G.toNat, 0, false⟩, G.toNat, 0) := by rw [hG]; rfl
  obtain ⟨R, hRR⟩ : ∃ R, R = sgnL (s.data.toList.drop a) := ⟨_, rfl⟩
  rw [← hRR] at hR ⊢
  have HR := Lib.hid hR
  rw [← hG] at hS0
  have HS0 := Lib.hid hS0
  have HN := Lib.hid hlen
  have i1 : (a : Int) < s.size := by omega
  have gq : ((s[a].toNat : Int) == 39) = false := by simpa using hq
  clear hV hb0 hq hR hRR hG hS0 hlen
  go_enter Tryd.func23, Tryd.ntmps23
  go_wp2_with (first | (go_at_call 27; refine (rLetter_any _ _).mono ?_; rintro e w' ⟨rfl, rfl⟩) | (go_at_call 30; refine (rDigit_any _ _).mono ?_; rintro e w' ⟨rfl, rfl⟩))
  go_loop [17] (fun i => ∃ k : Nat, k ≤ 3 ∧ i = .int .i64 k ∧ Hid (G = sf (s.data.toList.drop a) k)) (fun i => (intOf i).toNat)
  case atStart => exact ⟨3, by omega, rfl, HS0⟩
  case round =>
    obtain ⟨k, hk, rfl, hh⟩ := hrel
    cases k with
    | zero =>
      have HG : Hid (R = (zeroTok, 0, 14)) := Lib.hid (by have h00 : G = 0 := hh.out; rw [HR.out, if_pos h00])
      clear hh HS0
      go_wp2
      exact bodyPost_ret (v := .tuple #[.agg #[.int .i64 0, .int .i64 a, .string ⟨#[]⟩, .int .u32 0, .bool false], .int .i64 a, .int .i64 14]) (by simp [results, Tryd.results23, go_sem]) rfl ⟨⟨zeroTok, a, by rw [HG.out]; rfl, fun h => by rw [HG.out] at h; simp at h⟩, below_two _ _ _⟩
    | succ k =>
      by_cases hfit : a + (k + 1) ≤ s.size
      · have hx := ext_at s a (k + 1) hfit
        have hsg := rSign_any (s.extract a (a + (k + 1)))
        have hxl : (s.extract a (a + (k + 1))).data.toList = (s.data.toList.drop a).take (k + 1) := by rw [hx]
        rw [hxl] at hsg
        have j0 : (0 : Int) ≤ a := by omega
        cases hsign : isSignL ((s.data.toList.drop a).take (k + 1)) with
        | true =>
          rw [hsign] at hsg
          have hg := hh.out.trans (sf_hit (by rw [HN.out]; omega) hsign)
          have HG : Hid (R = (⟨4, (s.data.toList.drop a).take (k + 1), 0, false⟩, k + 1, 0)) := Lib.hid (by rw [HR.out, if_neg (by omega), hg, Int.toNat_natCast])
          have HX := Lib.hid hx
          have HC := Lib.hid hsg
          clear hh HS0 hsg hx hxl hsign hg
          go_wp2_with (first | (go_at_call 33; refine (HC.out _).mono ?_; rintro e w' ⟨rfl, rfl⟩))
          exact bodyPost_ret (v := .tuple #[.agg #[.int .i64 4, .int .i64 a, .string (s.extract a (a + (k + 1))), .int .u32 0, .bool false], .int .i64 (a + (k + 1)), .int .i64 0]) (by simp [results, Tryd.results23, go_sem]) rfl ⟨⟨⟨4, (s.data.toList.drop a).take (k + 1), 0, false⟩, a + (k + 1), by rw [HG.out, HX.out]; rfl, fun _ => by rw [HG.out]; exact ⟨rfl, by simp only []; omega⟩⟩, below_two _ _ _⟩
        | false =>
          rw [hsign] at hsg
          have HG := Lib.hid (hh.out.trans (sf_no hsign))
          have HC := Lib.hid hsg
          clear hh HS0 hsg hx hxl hsign
          go_wp2_with (first | (go_at_call 33; refine (HC.out _).mono ?_; rintro e w' ⟨rfl, rfl⟩))
          go_round
          case rel => exact ⟨k, by omega, by first | rfl | go_num, HG⟩
          case measure => simp [intOf] <;> omega
      · have HG := Lib.hid (hh.out.trans (sf_out (by rw [HN.out]; omega)))
        clear hh HS0
        go_wp2
        go_round
        case rel => exact ⟨k, by omega, by first | rfl | go_num, HG⟩
        case measure => simp [intOf] <;> omega
end Go.Proofs.YteggenldmkbhiaaDoor
