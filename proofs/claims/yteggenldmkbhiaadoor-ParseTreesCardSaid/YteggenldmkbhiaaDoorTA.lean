/- The leaf functions of the document's own answer for package lex, each with what it returns. No condition. -/
import Derived.Test.YteggenldmkbhiaaDoorGA
import Derived.Test.YteggenldmkbhiaaDoorProg
namespace Go.Proofs.YteggenldmkbhiaaDoor
open Go.RowKit

set_option maxHeartbeats 400000 in
theorem rBlank_any (c : UInt8) (w : World) :
    Calls Tryd.prog 21 #[.int .u8 (c.toNat : Int)] w fun e w' => e = .returned (.bool (blankB c)) ∧ w = w' := by
  go_enter Tryd.func21, Tryd.ntmps21
  go_wp2
  all_goals go_ret
  all_goals exact ⟨ret_bool (by rw [Bool.eq_iff_iff]; simp_all [blankB]; try omega), rfl⟩
set_option maxHeartbeats 400000 in
theorem rLetter_any (c : UInt8) (w : World) :
    Calls Tryd.prog 27 #[.int .u8 (c.toNat : Int)] w fun e w' => e = .returned (.bool (letterB c)) ∧ w = w' := by
  go_enter Tryd.func27, Tryd.ntmps27
  go_wp2
  all_goals go_ret
  all_goals exact ⟨ret_bool (by rw [Bool.eq_iff_iff]; simp [letterB]; omega), rfl⟩
set_option maxHeartbeats 400000 in
theorem rDigit_any (c : UInt8) (w : World) :
    Calls Tryd.prog 30 #[.int .u8 (c.toNat : Int)] w fun e w' => e = .returned (.bool (digitB c)) ∧ w = w' := by
  go_enter Tryd.func30, Tryd.ntmps30
  go_wp2
  all_goals go_ret
  all_goals exact ⟨ret_bool (by rw [Bool.eq_iff_iff]; simp [digitB]; omega), rfl⟩
set_option maxHeartbeats 400000 in
theorem rWord_any (s : ByteArray) (w : World) :
    Calls Tryd.prog 29 #[.string s] w fun e w' => e = .returned (.bool (isWordL s.data.toList)) ∧ w = w' := by
  go_enter Tryd.func29, Tryd.ntmps29
  go_wp2
  all_goals go_ret
  all_goals refine ⟨ret_bool ?_, rfl⟩
  all_goals rw [← Lib.toList_data]
  all_goals simp_all [isWordL, wordsL]

def signsL : List Bs :=
  [[60, 60, 61], [62, 62, 61], [43, 43], [45, 45], [60, 60], [62, 62], [60, 61], [62, 61], [61, 61], [33, 61], [38, 38], [124, 124], [43, 61], [45, 61], [42, 61], [47, 61], [37, 61], [38, 61], [124, 61], [94, 61],
   [43], [45], [42], [47], [37], [38], [124], [94], [126], [33], [60], [62], [61], [63], [58], [59], [44], [40], [41], [91], [93], [123], [125]]
def isSignL (l : Bs) : Bool := decide (l ∈ signsL)
def valN (c : UInt8) : Int :=
  if 48 ≤ c.toNat ∧ c.toNat ≤ 57 then (c.toNat : Int) - 48 else if 97 ≤ c.toNat ∧ c.toNat ≤ 102 then (c.toNat : Int) - 97 + 10 else if 65 ≤ c.toNat ∧ c.toNat ≤ 70 then (c.toNat : Int) - 65 + 10 else 99
theorem digitB_iff (c : UInt8) : digitB c = true ↔ 48 ≤ c.toNat ∧ c.toNat ≤ 57 := by unfold digitB; rw [decide_eq_true_iff]; omega
set_option maxHeartbeats 400000 in
theorem rValue_any (c : UInt8) (w : World) :
    Calls Tryd.prog 39 #[.int .u8 (c.toNat : Int)] w fun e w' => e = .returned (.int .u64 (valN c)) ∧ w = w' := by
  have hc := c.toNat_lt
  cases hd : digitB c with
  | true =>
    have h := (digitB_iff c).1 hd
    have hv : valN c = (c.toNat : Int) - 48 := by unfold valN; rw [if_pos h]
    have HV := Lib.hid hv
    have h1 : (48 : Int) ≤ c.toNat := by omega
    have h2 : (c.toNat : Int) ≤ 57 := by omega
    clear hv h
    go_enter Tryd.func39, Tryd.ntmps39
    go_wp2_with (first | (go_at_call 30; refine (rDigit_any _ _).mono ?_; rintro e w' ⟨rfl, rfl⟩))
    all_goals go_ret
    all_goals exact ⟨ret_int (by rw [HV.out]), rfl⟩
  | false =>
    have h : ¬ (48 ≤ c.toNat ∧ c.toNat ≤ 57) := fun h => by rw [(digitB_iff c).2 h] at hd; cases hd
    have hv : valN c = if 97 ≤ c.toNat ∧ c.toNat ≤ 102 then (c.toNat : Int) - 97 + 10 else if 65 ≤ c.toNat ∧ c.toNat ≤ 70 then (c.toNat : Int) - 65 + 10 else 99 := by unfold valN; rw [if_neg h]
    have HV := Lib.hid hv
    clear hv h
    go_enter Tryd.func39, Tryd.ntmps39
    go_wp2_with (first | (go_at_call 30; refine (rDigit_any _ _).mono ?_; rintro e w' ⟨rfl, rfl⟩))
    all_goals go_ret
    all_goals refine ⟨ret_int ?_, rfl⟩
    all_goals rw [HV.out]
    all_goals first | (rw [if_pos (by omega)]) | (rw [if_neg (by omega), if_pos (by omega)]) | (rw [if_neg (by omega), if_neg (by omega)])
theorem valN_dig (c : UInt8) (b : Nat) (hb : b = 8 ∨ b = 10 ∨ b = 16) : (valN c < b ↔ digN c < b) ∧ (digN c < b → valN c = digN c) := by
  unfold valN digN
  repeat' split
  all_goals omega

set_option maxHeartbeats 400000 in
theorem rRun_any (s : ByteArray) (a : Nat) (ha : a ≤ s.size) (w : World) (hs : s.size ≤ 20000) :
    Calls Tryd.prog 28 #[.string s, .int .i64 a] w fun e w' => e = .returned (.int .i64 ((a : Int) + runLen (s.data.toList.drop a))) ∧ w = w' := by
  obtain ⟨R, hR⟩ : ∃ R : Int, R = (a : Int) + runLen (s.data.toList.drop a) := ⟨_, rfl⟩
  rw [← hR]
  have HR := Lib.hid hR
  clear hR
  go_enter Tryd.func28, Tryd.ntmps28
  go_wp2
  go_loop [1] (fun i => ∃ k : Nat, k ≤ s.size ∧ i = .int .i64 k ∧ Hid (R = k + runLen (s.data.toList.drop k))) (fun i => s.size - (intOf i).toNat)
  case atStart => exact ⟨a, ha, rfl, HR⟩
  case round =>
    obtain ⟨k, hk, rfl, hh⟩ := hrel
    by_cases hlt : k < s.size
    · by_cases hw : wordB s[k] = true
      · have HS : Hid (R = ((k + 1 : Nat) : Int) + runLen (s.data.toList.drop (k + 1))) := Lib.hid (by rw [hh.out, run_step s k hlt hw]; omega)
        by_cases hl : letterB s[k] = true
        · clear hw
          go_wp2_with (first | (go_at_call 27; refine (rLetter_any _ _).mono ?_; rintro e w' ⟨rfl, rfl⟩) | (go_at_call 30; refine (rDigit_any _ _).mono ?_; rintro e w' ⟨rfl, rfl⟩))
          go_round
          case rel => exact ⟨k + 1, by omega, by go_num, HS⟩
          case measure => simp [intOf]; omega
        · have hl : letterB s[k] = false := by simpa using hl
          have hd : digitB s[k] = true := by simpa [wordB, hl] using hw
          clear hw
          go_wp2_with (first | (go_at_call 27; refine (rLetter_any _ _).mono ?_; rintro e w' ⟨rfl, rfl⟩) | (go_at_call 30; refine (rDigit_any _ _).mono ?_; rintro e w' ⟨rfl, rfl⟩))
          go_round
          case rel => exact ⟨k + 1, by omega, by go_num, HS⟩
          case measure => simp [intOf]; omega
      · have hw : wordB s[k] = false := by simpa using hw
        have HS : Hid (R = k) := Lib.hid (by rw [hh.out, run_stop s k hlt hw]; omega)
        have hl : letterB s[k] = false := by simp [wordB] at hw; exact hw.1
        have hd : digitB s[k] = false := by simp [wordB] at hw; exact hw.2
        clear hw
        go_wp2_with (first | (go_at_call 27; refine (rLetter_any _ _).mono ?_; rintro e w' ⟨rfl, rfl⟩) | (go_at_call 30; refine (rDigit_any _ _).mono ?_; rintro e w' ⟨rfl, rfl⟩))
        go_ret
        exact ⟨ret_int (by rw [HS.out]), rfl⟩
    · have HS : Hid (R = k) := Lib.hid (by rw [hh.out, run_end s k (by omega)]; omega)
      go_wp2
      go_ret
      exact ⟨ret_int (by rw [HS.out]), rfl⟩
end Go.Proofs.YteggenldmkbhiaaDoor
namespace Go.Proofs.YteggenldmkbhiaaDoor
open Go.RowKit

theorem byteL_drop (s : ByteArray) (a j : Nat) (h : a + j < s.size) : ((s[a + j].toNat : Nat) : Int) = (byteL (s.data.toList.drop a) j : Int) := by
  have := Lib.data_getElem? s (a + j) h
  simp [byteL, List.getD, this]

/-- What the answer says of the character at a place: its number, its end, or none. -/
def chrEnd (l : Bs) (a : Nat) : Int := if (charL l).2 = 0 then -1 else a + (charL l).2

theorem chr_at {l : Bs} {a : Nat} {x y : Int} (n : Int) (hn : n ≠ 0) (hy : y = a + n) (h : charL l = (x, n)) : Ending.returned (.tuple #[.int .u32 x, .int .i64 y]) = .returned (.tuple #[.int .u32 (charL l).1, .int .i64 (chrEnd l a)]) := by
  rw [chrEnd, h, if_neg hn, hy]
theorem chr_none {l : Bs} {a : Nat} (h : charL l = (0, 0)) : Ending.returned (.tuple #[.int .u32 0, .int .i64 (-1)]) = .returned (.tuple #[.int .u32 (charL l).1, .int .i64 (chrEnd l a)]) := by
  rw [chrEnd, h, if_pos rfl]

set_option maxHeartbeats 2000000 in
theorem rCharacter_any (s : ByteArray) (a : Nat) (ha : a < s.size) (w : World) (hs : s.size ≤ 20000) :
    Calls Tryd.prog 32 #[.string s, .int .i64 a] w fun e w' => e = .returned (.tuple #[.int .u32 (charL (s.data.toList.drop a)).1, .int .i64 (chrEnd (s.data.toList.drop a) a)]) ∧ w = w' := by
  have e1 := byteL_drop s a 1
  have e2 := byteL_drop s a 2
  have e3 := byteL_drop s a 3
  have hl : (s.data.toList.drop a).length = s.size - a := by rw [List.length_drop, ← Lib.size_eq]
  obtain ⟨l, hL⟩ : ∃ l, l = s.data.toList.drop a := ⟨_, rfl⟩
  rw [← hL] at e1 e2 e3 hl ⊢
  clear hL
  have E1 := Lib.hid e1
  have E2 := Lib.hid e2
  have E3 := Lib.hid e3
  have HL := Lib.hid hl
  clear e1 e2 e3 hl
  go_enter Tryd.func32, Tryd.ntmps32
  go_wp2
  all_goals go_ret2
  all_goals refine ⟨?_, rfl⟩
  all_goals (simp only [beq_iff_eq, bne_iff_ne, ne_eq, beq_eq_false_iff_ne, bne_eq_false_iff_eq] at *)
  all_goals have h0 := HL.out
  all_goals (try have f1 := E1.out (by omega))
  all_goals (try have f2 := E2.out (by omega))
  all_goals (try have f3 := E3.out (by omega))
  all_goals first
    | (refine chr_none ?_
       unfold charL
       rw [if_neg (by omega)]
       first
         | (rw [if_neg (by omega)])
         | (have hz : escN (byteL l 2 : Int) = (0, false) := by
              unfold escN
              rw [if_neg (by omega), if_neg (by omega), if_neg (by omega), if_neg (by omega), if_neg (by omega)]
            rw [if_pos (by omega), hz]
            rfl))
    | (refine chr_at 3 (by decide) (by first | rfl | omega) ?_
       unfold charL
       rw [if_pos (by omega), f1, Int.emod_eq_of_lt (by omega) (by have := byteL_le l 1; omega)])
    | (refine chr_at 4 (by decide) (by first | rfl | omega) ?_
       unfold charL
       rw [if_neg (by omega), if_pos (by omega)]
       unfold escN
       repeat' split
       all_goals first
         | rfl
         | (exfalso; omega)
         | (rw [f2, Int.emod_eq_of_lt (by omega) (by have := byteL_le l 2; omega)]; done)
         | (simp_all; done))
end Go.Proofs.YteggenldmkbhiaaDoor
namespace Go.Proofs.YteggenldmkbhiaaDoor
open Go.RowKit

theorem line_stop (s : ByteArray) (k : Nat) (h : k < s.size) (hc : (s[k].toNat : Int) = 10) : lineLen (s.data.toList.drop k) = 0 := by
  have h1 : s[k] = 10 := by apply UInt8.toNat_inj.1; show s[k].toNat = 10; omega
  rw [drop_cons s k h, h1]; simp [lineLen, Lib.indexByte]
theorem line_step (s : ByteArray) (k : Nat) (h : k < s.size) (hc : ¬ (s[k].toNat : Int) = 10) : lineLen (s.data.toList.drop k) = lineLen (s.data.toList.drop (k + 1)) + 1 := by
  have h1 : (s[k] == 10) = false := by
    rw [beq_eq_false_iff_ne]; intro h2; apply hc; rw [h2]; rfl
  have hge := Lib.indexByte_ge (s.data.toList.drop (k + 1)) 10
  rw [drop_cons s k h]; unfold lineLen
  rw [Lib.indexByte, h1]
  simp only [Bool.false_eq_true, if_false, beq_iff_eq, List.length_cons]
  generalize Lib.indexByte (s.data.toList.drop (k + 1)) 10 = x at hge
  repeat' split
  all_goals omega
theorem line_end (s : ByteArray) (k : Nat) (h : s.size ≤ k) : lineLen (s.data.toList.drop k) = 0 := by
  rw [List.drop_eq_nil_of_le (by rw [← Lib.size_eq]; exact h)]; rfl

theorem pre2 (s : ByteArray) (k : Nat) (x y : UInt8) : Lib.hasPrefix (s.data.toList.drop k) [x, y] = true ↔ ∃ h : k + 1 < s.size, s[k]'(by omega) = x ∧ s[k + 1] = y := by
  unfold Lib.hasPrefix
  by_cases h : k + 1 < s.size
  · rw [drop_cons s k (by omega), drop_cons s (k + 1) h]
    simp only [List.isPrefixOf, Bool.and_eq_true, beq_iff_eq, Bool.and_true]
    constructor
    · rintro ⟨a, b⟩; exact ⟨h, a.symm, b.symm⟩
    · rintro ⟨_, a, b⟩; exact ⟨a.symm, b.symm⟩
  · constructor
    · intro hp
      have := (List.isPrefixOf_iff_prefix.1 hp).length_le
      rw [List.length_drop, ← Lib.size_eq] at this
      simp at this
      omega
    · rintro ⟨h', _⟩; exact absurd h' h

/-- The end of the comment that begins at a place; -1: none begins there; -2: it is not closed. -/
def cmt (l : Bs) (a : Nat) : Int :=
  if Lib.hasPrefix (l.drop a) [47, 47] then a + lineLen (l.drop a)
  else if Lib.hasPrefix (l.drop a) [47, 42] then (if Lib.index ((l.drop a).drop 2) [42, 47] < 0 then -2 else a + 2 + Lib.index ((l.drop a).drop 2) [42, 47] + 2)
  else -1
/-- The end of an open comment from a place in it on. -/
def shutAt (l : Bs) (k : Nat) : Int := if Lib.index (l.drop k) [42, 47] < 0 then -2 else k + Lib.index (l.drop k) [42, 47] + 2
theorem shut_hit (s : ByteArray) (k : Nat) (h : k + 1 < s.size) (h1 : s[k] = 42) (h2 : s[k + 1] = 47) : shutAt s.data.toList k = k + 2 := by
  unfold shutAt
  have hp := (pre2 s k 42 47).2 ⟨h, h1, h2⟩
  unfold Lib.hasPrefix at hp
  have hi : Lib.index (s.data.toList.drop k) [42, 47] = 0 := by
    rw [drop_cons s k (by omega)] at hp ⊢
    rw [Lib.index, if_pos hp]
  rw [hi, if_neg (by decide)]; omega
theorem shut_on (s : ByteArray) (k : Nat) (h : k < s.size) (hn : ¬ ∃ h : k + 1 < s.size, s[k]'(by omega) = 42 ∧ s[k + 1] = 47) : shutAt s.data.toList k = shutAt s.data.toList (k + 1) := by
  have hp := fun hh => hn ((pre2 s k 42 47).1 hh)
  unfold Lib.hasPrefix at hp
  have hge := Lib.index_ge (s.data.toList.drop (k + 1)) [42, 47]
  unfold shutAt
  rw [drop_cons s k h] at hp ⊢
  rw [Lib.index, if_neg hp]
  simp only [beq_iff_eq]
  generalize Lib.index (s.data.toList.drop (k + 1)) [42, 47] = x at hge
  repeat' split
  all_goals omega
theorem shut_end (s : ByteArray) (k : Nat) (h : s.size ≤ k + 1) : shutAt s.data.toList k = -2 := by
  unfold shutAt
  have hr := index_room [42, 47] (by simp) (s.data.toList.drop k)
  have hge := Lib.index_ge (s.data.toList.drop k) [42, 47]
  rw [List.length_drop, ← Lib.size_eq] at hr
  simp only [List.length_cons, List.length_nil, Nat.zero_add, Nat.reduceAdd] at hr
  rw [if_pos (by
    rcases Int.lt_or_le (Lib.index (s.data.toList.drop k) [42, 47]) 0 with h | h
    · exact h
    · have := hr h; omega)]
theorem u8_iff (c : UInt8) (n : Nat) (hn : n < 256) : c = UInt8.ofNat n ↔ (c.toNat : Int) = n := by
  constructor
  · rintro rfl; rw [UInt8.toNat_ofNat_of_lt' hn]
  · intro h; apply UInt8.toNat_inj.1; rw [UInt8.toNat_ofNat_of_lt' hn]; omega

set_option maxHeartbeats 2000000 in
theorem rComment_any (s : ByteArray) (a : Nat) (ha : a < s.size) (w : World) (hs : s.size ≤ 20000) :
    Calls Tryd.prog 22 #[.string s, .int .i64 a] w fun e w' => e = .returned (.int .i64 (cmt s.data.toList a)) ∧ w = w' := by
  have i0 : (0 : Int) ≤ a := by omega
  have i1 : (a : Int) < s.size := by omega
  by_cases h2 : a + 2 ≤ s.size
  · have hq : a + 1 < s.size := by omega
    have p47 := pre2 s a 47 47
    have p42 := pre2 s a 47 42
    have u1 := u8_iff (s[a]'ha) 47 (by decide)
    have u2 := u8_iff (s[a + 1]'hq) 47 (by decide)
    have u3 := u8_iff (s[a + 1]'hq) 42 (by decide)
    by_cases h47 : (s[a].toNat : Int) = 47
    · by_cases hl : ((s[a + 1]'hq).toNat : Int) = 47
      · have hc : cmt s.data.toList a = a + lineLen (s.data.toList.drop a) := by
          unfold cmt; rw [if_pos (p47.2 ⟨by omega, u1.2 h47, u2.2 hl⟩)]
        obtain ⟨R, hR⟩ : ∃ R : Int, R = cmt s.data.toList a := ⟨_, rfl⟩
        rw [← hR] at hc ⊢
        have HR := Lib.hid hc
        have gl : (((s[a + 1]'hq).toNat : Int) == 47) = true := by simpa using hl
        have ga : ((s[a].toNat : Int) != 47) = false := by simpa using h47
        clear hc hR p47 p42 u1 u2 u3 hl h47
        go_enter Tryd.func22, Tryd.ntmps22
        go_wp2
        go_loop [1] (fun i => ∃ k : Nat, k ≤ s.size ∧ i = .int .i64 k ∧ Hid (R = k + lineLen (s.data.toList.drop k))) (fun i => s.size - (intOf i).toNat)
        case atStart => exact ⟨a, by omega, rfl, HR⟩
        case round =>
          obtain ⟨k, hk, rfl, hh⟩ := hrel
          by_cases hlt : k < s.size
          · by_cases hc : (s[k].toNat : Int) = 10
            · have HS := Lib.hid (show R = k by rw [hh.out, line_stop s k hlt hc]; omega)
              go_wp2
              go_ret
              exact ⟨ret_int (by rw [HS.out]), rfl⟩
            · have HS : Hid (R = ((k + 1 : Nat) : Int) + lineLen (s.data.toList.drop (k + 1))) := Lib.hid (by rw [hh.out, line_step s k hlt hc]; omega)
              go_wp2
              go_round
              case rel => exact ⟨k + 1, by omega, by go_num, HS⟩
              case measure => simp [intOf]; omega
          · have HS : Hid (R = k) := Lib.hid (by rw [hh.out, line_end s k (by omega)]; omega)
            go_wp2
            go_ret
            exact ⟨ret_int (by rw [HS.out]), rfl⟩
      · by_cases hb : ((s[a + 1]'hq).toNat : Int) = 42
        · have hc : cmt s.data.toList a = shutAt s.data.toList (a + 2) := by
            unfold cmt shutAt
            rw [if_neg (fun h => by obtain ⟨_, _, h3⟩ := p47.1 h; exact hl (u2.1 h3)), if_pos (p42.2 ⟨by omega, u1.2 h47, u3.2 hb⟩), List.drop_drop]
            split
            · rfl
            · omega
          obtain ⟨R, hR⟩ : ∃ R : Int, R = cmt s.data.toList a := ⟨_, rfl⟩
          rw [← hR] at hc ⊢
          have HR := Lib.hid hc
          have gl : (((s[a + 1]'hq).toNat : Int) == 47) = false := by simpa using hl
          have gb : (((s[a + 1]'hq).toNat : Int) == 42) = true := by simpa using hb
          have ga : ((s[a].toNat : Int) != 47) = false := by simpa using h47
          clear hc hR p47 p42 u1 u2 u3 hl h47 hb
          go_enter Tryd.func22, Tryd.ntmps22
          go_wp2
          go_loop [5] (fun i => ∃ k : Nat, k ≤ s.size ∧ i = .int .i64 k ∧ Hid (R = shutAt s.data.toList k)) (fun i => s.size - (intOf i).toNat)
          case atStart => exact ⟨a + 2, by omega, by go_num, HR⟩
          case round =>
            obtain ⟨k, hk, rfl, hh⟩ := hrel
            by_cases hlt : k + 1 < s.size
            · have v1 := u8_iff (s[k]'(by omega)) 42 (by decide)
              have v2 := u8_iff (s[k + 1]'hlt) 47 (by decide)
              by_cases h42 : ((s[k]'(by omega)).toNat : Int) = 42
              · have g1 : (((s[k]'(by omega)).toNat : Int) == 42) = true := by simpa using h42
                by_cases h47 : ((s[k + 1]'hlt).toNat : Int) = 47
                · have g2 : (((s[k + 1]'hlt).toNat : Int) == 47) = true := by simpa using h47
                  have HS := Lib.hid (hh.out.trans (shut_hit s k hlt (v1.2 h42) (v2.2 h47)))
                  clear v1 v2 h42 h47
                  go_wp2
                  go_ret
                  exact ⟨ret_int (by rw [HS.out]), rfl⟩
                · have g2 : (((s[k + 1]'hlt).toNat : Int) == 47) = false := by simpa using h47
                  have HS := Lib.hid (hh.out.trans (shut_on s k (by omega) (fun ⟨_, _, h⟩ => h47 (v2.1 h))))
                  clear v1 v2 h42 h47
                  go_wp2
                  go_round
                  case rel => exact ⟨k + 1, by omega, by go_num, HS⟩
                  case measure => simp [intOf]; omega
              · have g1 : (((s[k]'(by omega)).toNat : Int) == 42) = false := by simpa using h42
                have HS := Lib.hid (hh.out.trans (shut_on s k (by omega) (fun ⟨_, h, _⟩ => h42 (v1.1 h))))
                clear v1 v2 h42
                go_wp2
                go_round
                case rel => exact ⟨k + 1, by omega, by go_num, HS⟩
                case measure => simp [intOf]; omega
            · have HS := Lib.hid (hh.out.trans (shut_end s k (by omega)))
              go_wp2
              go_ret
              exact ⟨ret_int (by rw [HS.out]), rfl⟩
        · have hc : cmt s.data.toList a = -1 := by
            unfold cmt
            rw [if_neg (fun h => by obtain ⟨_, _, h3⟩ := p47.1 h; exact hl (u2.1 h3)), if_neg (fun h => by obtain ⟨_, _, h3⟩ := p42.1 h; exact hb (u3.1 h3))]
          have HR := Lib.hid hc
          have gl : (((s[a + 1]'hq).toNat : Int) == 47) = false := by simpa using hl
          have gb : (((s[a + 1]'hq).toNat : Int) == 42) = false := by simpa using hb
          have ga : ((s[a].toNat : Int) != 47) = false := by simpa using h47
          clear hc p47 p42 u1 u2 u3 hl h47 hb
          go_enter Tryd.func22, Tryd.ntmps22
          go_wp2
          go_ret
          exact ⟨ret_int (by rw [HR.out]), rfl⟩
    · have hc : cmt s.data.toList a = -1 := by
        unfold cmt
        rw [if_neg (fun h => by obtain ⟨_, h3, _⟩ := p47.1 h; exact h47 (u1.1 h3)), if_neg (fun h => by obtain ⟨_, h3, _⟩ := p42.1 h; exact h47 (u1.1 h3))]
      have HR := Lib.hid hc
      have ga : ((s[a].toNat : Int) != 47) = true := by simpa using h47
      clear hc p47 p42 u1 u2 u3 h47
      go_enter Tryd.func22, Tryd.ntmps22
      go_wp2
      go_ret
      exact ⟨ret_int (by rw [HR.out]), rfl⟩
  · have hc : cmt s.data.toList a = -1 := by
      unfold cmt
      rw [if_neg (fun h => by obtain ⟨_, _⟩ := (pre2 s a 47 47).1 h; omega), if_neg (fun h => by obtain ⟨_, _⟩ := (pre2 s a 47 42).1 h; omega)]
    have HR := Lib.hid hc
    clear hc
    go_enter Tryd.func22, Tryd.ntmps22
    go_wp2
    go_ret
    exact ⟨ret_int (by rw [HR.out]), rfl⟩
end Go.Proofs.YteggenldmkbhiaaDoor
namespace Go.Proofs.YteggenldmkbhiaaDoor
open Go.RowKit
theorem pre_len2 {l : Bs} {x y : UInt8} (h : Lib.hasPrefix l [x, y] = true) : 2 ≤ l.length := by
  unfold Lib.hasPrefix at h
  simpa using (List.isPrefixOf_iff_prefix.1 h).length_le
theorem skipL_fuel : ∀ (f g : Nat) (l : Bs) (a : Nat), l.length - a < f → l.length - a < g → skipL f l a = skipL g l a := by
  intro f
  induction f with
  | zero => intro g l a h; omega
  | succ f ih =>
    intro g l a hf hg
    obtain ⟨g, rfl⟩ : ∃ g', g = g' + 1 := ⟨g - 1, by omega⟩
    by_cases hlt : a < l.length
    · cases hb : blankB (l.getD a 0) with
      | true => rw [skip_blank hlt hb, skip_blank hlt hb]; exact ih g l (a + 1) (by omega) (by omega)
      | false =>
        cases h1 : Lib.hasPrefix (l.drop a) [47, 47] with
        | true =>
          have := lineLen_pos h1
          rw [skip_line hlt hb h1, skip_line hlt hb h1]; exact ih g l _ (by omega) (by omega)
        | false =>
          cases h2 : Lib.hasPrefix (l.drop a) [47, 42] with
          | true =>
            by_cases h3 : Lib.index ((l.drop a).drop 2) [42, 47] < 0
            · rw [skip_open hlt hb h1 h2 h3, skip_open hlt hb h1 h2 h3]
            · rw [skip_shut hlt hb h1 h2 h3, skip_shut hlt hb h1 h2 h3]; exact ih g l _ (by omega) (by omega)
          | false => rw [skip_stop hlt hb h1 h2, skip_stop hlt hb h1 h2]
    · rw [skip_end hlt, skip_end hlt]
theorem skipAt_blank {l : Bs} {a : Nat} (h : a < l.length) (hb : blankB (l.getD a 0) = true) : skipAt l a = skipAt l (a + 1) := by
  unfold skipAt
  rw [skip_blank h hb]; exact skipL_fuel _ _ _ _ (by omega) (by omega)
theorem cmt_facts {l : Bs} {a : Nat} (h : a < l.length) (hb : blankB (l.getD a 0) = false) :
    (cmt l a = -2 ∧ skipAt l a = (a, 13)) ∨ (cmt l a = -1 ∧ skipAt l a = (a, 0)) ∨ ∃ e : Nat, cmt l a = e ∧ a < e ∧ e ≤ l.length ∧ skipAt l a = skipAt l e := by
  have hd : (l.drop a).length = l.length - a := List.length_drop
  cases h1 : Lib.hasPrefix (l.drop a) [47, 47] with
  | true =>
    right; right
    have hp := lineLen_pos h1
    have hl := lineLen_le (l.drop a)
    refine ⟨a + lineLen (l.drop a), by unfold cmt; rw [if_pos h1]; omega, by omega, by omega, ?_⟩
    unfold skipAt
    rw [skip_line h hb h1]; exact skipL_fuel _ _ _ _ (by omega) (by omega)
  | false =>
    cases h2 : Lib.hasPrefix (l.drop a) [47, 42] with
    | true =>
      have h22 := pre_len2 h2
      have hr := index_room [42, 47] (by simp) ((l.drop a).drop 2)
      rw [List.length_drop, hd] at hr
      simp only [List.length_cons, List.length_nil, Nat.zero_add, Nat.reduceAdd] at hr
      by_cases h3 : Lib.index ((l.drop a).drop 2) [42, 47] < 0
      · left
        exact ⟨by unfold cmt; rw [if_neg (by rw [h1]; simp), if_pos h2, if_pos h3], by unfold skipAt; rw [skip_open h hb h1 h2 h3]⟩
      · right; right
        have hr' := hr (by omega)
        refine ⟨a + (2 + (Lib.index ((l.drop a).drop 2) [42, 47]).toNat + 2), by unfold cmt; rw [if_neg (by rw [h1]; simp), if_pos h2, if_neg h3]; omega, by omega, by omega, ?_⟩
        unfold skipAt
        rw [skip_shut h hb h1 h2 h3]; exact skipL_fuel _ _ _ _ (by omega) (by omega)
    | false =>
      right; left
      exact ⟨by unfold cmt; rw [if_neg (by rw [h1]; simp), if_neg (by rw [h2]; simp)], by unfold skipAt; rw [skip_stop h hb h1 h2]⟩
theorem lexL_same {f : Nat} {l : Bs} {a b : Nat} {ts : List PTok} (h : skipAt l a = skipAt l b) : lexL (f + 1) l a ts = lexL (f + 1) l b ts := by
  rw [lexL, lexL, h]
end Go.Proofs.YteggenldmkbhiaaDoor
