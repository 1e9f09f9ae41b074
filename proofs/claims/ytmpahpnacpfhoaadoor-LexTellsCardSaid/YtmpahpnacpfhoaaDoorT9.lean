/- The document's own answer for one token, but for numbers. -/
import Derived.Test.YtmpahpnacpfhoaaDoorT2
import Derived.Test.YtmpahpnacpfhoaaDoorT3
import Derived.Test.YtmpahpnacpfhoaaDoorT4
import Derived.Test.YtmpahpnacpfhoaaDoorT8
namespace Go.Proofs.YtmpahpnacpfhoaaDoor
open Go.RowKit
/-- What the answer's token says: the token at its place and its end, or the error alone. -/
def TokEnd (r : Tok × Nat × Nat) (a : Nat) (e : Ending) : Prop :=
  ∃ (t : Tok) (n : Int), e = .returned (.tuple #[aggT t a, .int .i64 n, .int .i64 r.2.2]) ∧ (r.2.2 = 0 → t = r.1 ∧ n = a + r.2.1)
theorem ext_at (s : ByteArray) (a n : Nat) (_h : a + n ≤ s.size) : s.extract a (a + n) = ⟨((s.data.toList.drop a).take n).toArray⟩ := by
  have h1 : (s.extract a (a + n)).data.toList = (s.data.toList.drop a).take n := by
    rw [Lib.extract_data]; congr 1; omega
  have h2 : (s.extract a (a + n)).data = ((s.data.toList.drop a).take n).toArray := by rw [← h1]
  rw [← h2]
theorem word_short {l : Bs} (h : isWordL l = true) : l.length ≤ 8 := by
  unfold isWordL wordsL at h
  rw [decide_eq_true_iff] at h
  simp only [List.mem_cons, List.not_mem_nil, or_false] at h
  rcases h with rfl | rfl | rfl | rfl | rfl | rfl | rfl | rfl | rfl | rfl | rfl | rfl | rfl | rfl | rfl | rfl | rfl <;> decide
theorem run_at_le (s : ByteArray) (a : Nat) (ha : a ≤ s.size) : a + runLen (s.data.toList.drop a) ≤ s.size := by
  have := runL_le (s.data.toList.drop a)
  rw [List.length_drop, ← Lib.size_eq] at this
  omega
theorem below_two (w : World) (o o' : Obj) : Below w.heap.size w ((w.alloc o).alloc o') := (below_one w o).alloc (by rw [World.size_alloc]; omega) o'
theorem getD_drop (s : ByteArray) (a : Nat) (h : a < s.size) : (s.data.toList.drop a).getD 0 0 = s[a] := by
  rw [drop_cons s a h]; rfl

set_option maxHeartbeats 1000000 in
theorem rTokName (s : ByteArray) (a : Nat) (ha : a < s.size) (w : World) (hs : s.size ≤ 20000) (hl : letterB s[a] = true) :
    Calls Tryd.prog 22 #[.string s, .int .i64 a] w fun e w' => TokEnd (readL (s.data.toList.drop a)) a e ∧ Below w.heap.size w w' := by
  have hle := run_at_le s a (by omega)
  have hrn := fun w => rRun_any s a (by omega) w hs
  have hx := ext_at s a (runLen (s.data.toList.drop a)) hle
  have hV : readL (s.data.toList.drop a) = nameL (s.data.toList.drop a) := by unfold readL; rw [getD_drop s a ha, hl, if_pos rfl]
  rw [hV]
  unfold nameL
  have hw := rWord_any (s.extract a (a + runLen (s.data.toList.drop a)))
  have hxl : (s.extract a (a + runLen (s.data.toList.drop a))).data.toList = (s.data.toList.drop a).take (runLen (s.data.toList.drop a)) := by rw [hx]
  rw [hxl] at hw
  have hlen : ((s.data.toList.drop a).take (runLen (s.data.toList.drop a))).length = runLen (s.data.toList.drop a) := by
    rw [List.length_take]; exact Nat.min_eq_left (runL_le _)
  clear hV hxl
  generalize runLen (s.data.toList.drop a) = n at *
  generalize (s.data.toList.drop a).take n = X at *
  have i1 : (a : Int) < s.size := by omega
  have i2 : (a : Int) + n ≤ s.size := by omega
  have HX := Lib.hid hx
  have HR := Lib.hid hrn
  clear hx hrn
  cases hword : isWordL X with
  | true =>
    have h31 := word_short hword
    rw [hlen] at h31
    rw [hword] at hw
    have HW := Lib.hid hw
    rw [if_pos rfl]
    clear hw hword hlen
    go_enter Tryd.func22, Tryd.ntmps22
    go_wp2_with (first | (go_at_call 34; refine (rLetter_any _ _).mono ?_; rintro e w' ⟨rfl, rfl⟩) | (go_at_call 35; refine (HR.out _).mono ?_; rintro e w' ⟨rfl, rfl⟩) | (go_at_call 36; refine (HW.out _).mono ?_; rintro e w' ⟨rfl, rfl⟩))
    exact bodyPost_ret (v := .tuple #[.agg #[.int .i64 3, .int .i64 a, .string (s.extract a (a + n)), .int .u32 0, .bool false], .int .i64 (a + n), .int .i64 0]) (by simp [results, Tryd.results22, go_sem]) rfl ⟨⟨⟨3, X, 0, false⟩, a + n, by rw [HX.out]; rfl, fun _ => ⟨rfl, rfl⟩⟩, below_two _ _ _⟩
  | false =>
    rw [hword] at hw
    have HW := Lib.hid hw
    rw [if_neg (by simp)]
    clear hw hword hlen
    by_cases h31 : 31 < n
    · rw [if_pos h31]
      go_enter Tryd.func22, Tryd.ntmps22
      go_wp2_with (first | (go_at_call 34; refine (rLetter_any _ _).mono ?_; rintro e w' ⟨rfl, rfl⟩) | (go_at_call 35; refine (HR.out _).mono ?_; rintro e w' ⟨rfl, rfl⟩) | (go_at_call 36; refine (HW.out _).mono ?_; rintro e w' ⟨rfl, rfl⟩))
      exact bodyPost_ret (v := .tuple #[.agg #[.int .i64 1, .int .i64 a, .string (s.extract a (a + n)), .int .u32 0, .bool false], .int .i64 (a + n), .int .i64 10]) (by simp [results, Tryd.results22, go_sem]) rfl ⟨⟨⟨1, X, 0, false⟩, a + n, by rw [HX.out]; rfl, fun h => by simp at h⟩, below_two _ _ _⟩
    · rw [if_neg h31]
      go_enter Tryd.func22, Tryd.ntmps22
      go_wp2_with (first | (go_at_call 34; refine (rLetter_any _ _).mono ?_; rintro e w' ⟨rfl, rfl⟩) | (go_at_call 35; refine (HR.out _).mono ?_; rintro e w' ⟨rfl, rfl⟩) | (go_at_call 36; refine (HW.out _).mono ?_; rintro e w' ⟨rfl, rfl⟩))
      exact bodyPost_ret (v := .tuple #[.agg #[.int .i64 1, .int .i64 a, .string (s.extract a (a + n)), .int .u32 0, .bool false], .int .i64 (a + n), .int .i64 0]) (by simp [results, Tryd.results22, go_sem]) rfl ⟨⟨⟨1, X, 0, false⟩, a + n, by rw [HX.out]; rfl, fun _ => ⟨rfl, rfl⟩⟩, below_two _ _ _⟩

set_option maxHeartbeats 1000000 in
theorem rTokChar (s : ByteArray) (a : Nat) (ha : a < s.size) (w : World) (hs : s.size ≤ 20000) (hl : letterB s[a] = false) (hd : digitB s[a] = false) (hq : (s[a].toNat : Int) = 39) :
    Calls Tryd.prog 22 #[.string s, .int .i64 a] w fun e w' => TokEnd (readL (s.data.toList.drop a)) a e ∧ Below w.heap.size w w' := by
  have hrn := fun w => rCharacter_any s a ha w hs
  have hb0 : byteL (s.data.toList.drop a) 0 = 39 := by have := byteL_drop s a 0 ha; simp only [Nat.add_zero] at this; omega
  have hV : readL (s.data.toList.drop a) = chrL (s.data.toList.drop a) := by unfold readL; rw [getD_drop s a ha, hl, if_neg (by simp), hd, if_neg (by simp), if_pos hb0]
  rw [hV]
  unfold chrL
  have hr := charL_range (s.data.toList.drop a)
  unfold chrEnd at hrn
  obtain ⟨⟨hx0, hx1⟩, hn0, hn1⟩ := hr
  generalize (charL (s.data.toList.drop a)).1 = x at *
  generalize (charL (s.data.toList.drop a)).2 = n at *
  have i1 : (a : Int) < s.size := by omega
  have gq : ((s[a].toNat : Int) == 39) = true := by simpa using hq
  clear hV hb0 hq
  by_cases hn : n = 0
  · rw [if_pos hn] at hrn ⊢
    have HR := Lib.hid hrn
    clear hrn
    go_enter Tryd.func22, Tryd.ntmps22
    go_wp2_with (first | (go_at_call 34; refine (rLetter_any _ _).mono ?_; rintro e w' ⟨rfl, rfl⟩) | (go_at_call 37; refine (rDigit_any _ _).mono ?_; rintro e w' ⟨rfl, rfl⟩) | (go_at_call 39; refine (HR.out _).mono ?_; rintro e w' ⟨rfl, rfl⟩))
    exact bodyPost_ret (v := .tuple #[.agg #[.int .i64 2, .int .i64 a, .string ⟨#[]⟩, .int .u32 x, .bool false], .int .i64 a, .int .i64 12]) (by simp [results, Tryd.results22, go_sem]) rfl ⟨⟨⟨2, [], x.toNat, false⟩, a, by simp [aggT, Int.toNat_of_nonneg hx0], fun h => by simp at h⟩, below_two _ _ _⟩
  · rw [if_neg hn] at hrn ⊢
    have HR := Lib.hid hrn
    clear hrn
    go_enter Tryd.func22, Tryd.ntmps22
    go_wp2_with (first | (go_at_call 34; refine (rLetter_any _ _).mono ?_; rintro e w' ⟨rfl, rfl⟩) | (go_at_call 37; refine (rDigit_any _ _).mono ?_; rintro e w' ⟨rfl, rfl⟩) | (go_at_call 39; refine (HR.out _).mono ?_; rintro e w' ⟨rfl, rfl⟩))
    exact bodyPost_ret (v := .tuple #[.agg #[.int .i64 2, .int .i64 a, .string ⟨#[]⟩, .int .u32 x, .bool false], .int .i64 (a + n), .int .i64 0]) (by simp [results, Tryd.results22, go_sem]) rfl ⟨⟨⟨2, [], x.toNat, false⟩, a + n, by simp [aggT, Int.toNat_of_nonneg hx0], fun _ => ⟨rfl, by simp only []; omega⟩⟩, below_two _ _ _⟩
end Go.Proofs.YtmpahpnacpfhoaaDoor
