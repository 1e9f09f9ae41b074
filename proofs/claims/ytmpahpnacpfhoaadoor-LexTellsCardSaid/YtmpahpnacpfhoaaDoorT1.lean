/- The leaf functions of the document's own answer for package lex, each with what it returns. No condition. -/
import Derived.Test.YtmpahpnacpfhoaaDoorM
namespace Go.Proofs.YtmpahpnacpfhoaaDoor
open Go.RowKit

set_option maxHeartbeats 400000 in
theorem rBlank_any (c : UInt8) (w : World) :
    Calls Tryd.prog 20 #[.int .u8 (c.toNat : Int)] w fun e w' => e = .returned (.bool (blankB c)) ∧ w = w' := by
  go_enter Tryd.func20, Tryd.ntmps20
  go_wp2
  all_goals go_ret
  all_goals exact ⟨ret_bool (by rw [Bool.eq_iff_iff]; simp_all [blankB]; try omega), rfl⟩
set_option maxHeartbeats 400000 in
theorem rLetter_any (c : UInt8) (w : World) :
    Calls Tryd.prog 34 #[.int .u8 (c.toNat : Int)] w fun e w' => e = .returned (.bool (letterB c)) ∧ w = w' := by
  go_enter Tryd.func34, Tryd.ntmps34
  go_wp2
  all_goals go_ret
  all_goals exact ⟨ret_bool (by rw [Bool.eq_iff_iff]; simp [letterB]; omega), rfl⟩
set_option maxHeartbeats 400000 in
theorem rDigit_any (c : UInt8) (w : World) :
    Calls Tryd.prog 37 #[.int .u8 (c.toNat : Int)] w fun e w' => e = .returned (.bool (digitB c)) ∧ w = w' := by
  go_enter Tryd.func37, Tryd.ntmps37
  go_wp2
  all_goals go_ret
  all_goals exact ⟨ret_bool (by rw [Bool.eq_iff_iff]; simp [digitB]; omega), rfl⟩
set_option maxHeartbeats 400000 in
theorem rWord_any (s : ByteArray) (w : World) :
    Calls Tryd.prog 36 #[.string s] w fun e w' => e = .returned (.bool (isWordL s.data.toList)) ∧ w = w' := by
  go_enter Tryd.func36, Tryd.ntmps36
  go_wp2
  all_goals go_ret
  all_goals refine ⟨ret_bool ?_, rfl⟩
  all_goals rw [← Lib.toList_data]
  all_goals simp_all [isWordL, wordsL]

def signsL : List Bs :=
  [[60, 60, 61], [62, 62, 61], [43, 43], [45, 45], [60, 60], [62, 62], [60, 61], [62, 61], [61, 61], [33, 61], [38, 38], [124, 124], [43, 61], [45, 61], [42, 61], [47, 61], [37, 61], [38, 61], [124, 61], [94, 61],
   [43], [45], [42], [47], [37], [38], [124], [94], [126], [33], [60], [62], [61], [63], [58], [59], [44], [40], [41], [91], [93], [123], [125]]
def isSignL (l : Bs) : Bool := decide (l ∈ signsL)
def valN (c : UInt8) : Int :=
  if 48 ≤ c.toNat ∧ c.toNat ≤ 57 then (c.toNat : Int) - 48 else if 97 ≤ c.toNat ∧ c.toNat ≤ 102 then (c.toNat : Int) - 97 + 10 else if 65 ≤ c.toNat ∧ c.toNat ≤ 70 then (c.toNat : Int) - 65 + 10 else 99
theorem digitB_iff (c : UInt8) : digitB c = true ↔ 48 ≤ c.toNat ∧ c.toNat ≤ 57 := by unfold digitB; rw [decide_eq_true_iff]; omega
set_option maxHeartbeats 400000 in
theorem rValue_any (c : UInt8) (w : World) :
    Calls Tryd.prog 50 #[.int .u8 (c.toNat : Int)] w fun e w' => e = .returned (.int .u64 (valN c)) ∧ w = w' := by
  have hc := c.toNat_lt
  cases hd : digitB c with
  | true =>
    have h := (digitB_iff c).1 hd
    have hv : valN c = (c.toNat : Int) - 48 := by unfold valN; rw [if_pos h]
    have HV := Lib.hid hv
    have h1 : (48 : Int) ≤ c.toNat := by omega
    have h2 : (c.toNat : Int) ≤ 57 := by omega
    clear hv h
    go_enter Tryd.func50, Tryd.ntmps50
    go_wp2_with (first | (go_at_call 37; refine (rDigit_any _ _).mono ?_; rintro e w' ⟨rfl, rfl⟩))
    all_goals go_ret
    all_goals exact ⟨ret_int (by rw [HV.out]), rfl⟩
  | false =>
    have h : ¬ (48 ≤ c.toNat ∧ c.toNat ≤ 57) := fun h => by rw [(digitB_iff c).2 h] at hd; cases hd
    have hv : valN c = if 97 ≤ c.toNat ∧ c.toNat ≤ 102 then (c.toNat : Int) - 97 + 10 else if 65 ≤ c.toNat ∧ c.toNat ≤ 70 then (c.toNat : Int) - 65 + 10 else 99 := by unfold valN; rw [if_neg h]
    have HV := Lib.hid hv
    clear hv h
    go_enter Tryd.func50, Tryd.ntmps50
    go_wp2_with (first | (go_at_call 37; refine (rDigit_any _ _).mono ?_; rintro e w' ⟨rfl, rfl⟩))
    all_goals go_ret
    all_goals refine ⟨ret_int ?_, rfl⟩
    all_goals rw [HV.out]
    all_goals first | (rw [if_pos (by omega)]) | (rw [if_neg (by omega), if_pos (by omega)]) | (rw [if_neg (by omega), if_neg (by omega)])
theorem valN_dig (c : UInt8) (b : Nat) (hb : b = 8 ∨ b = 10 ∨ b = 16) : (valN c < b ↔ digN c < b) ∧ (digN c < b → valN c = digN c) := by
  unfold valN digN
  repeat' split
  all_goals omega

set_option maxHeartbeats 400000 in
theorem rRun_any (s : ByteArray) (a : Nat) (ha : a ≤ s.size) (w : World) (hs : s.size ≤ 20000) :
    Calls Tryd.prog 35 #[.string s, .int .i64 a] w fun e w' => e = .returned (.int .i64 ((a : Int) + runLen (s.data.toList.drop a))) ∧ w = w' := by
  obtain ⟨R, hR⟩ : ∃ R : Int, R = (a : Int) + runLen (s.data.toList.drop a) := ⟨_, rfl⟩
  rw [← hR]
  have HR := Lib.hid hR
  clear hR
  go_enter Tryd.func35, Tryd.ntmps35
  go_wp2
  go_loop [1] (fun i => ∃ k : Nat, k ≤ s.size ∧ i = .int .i64 k ∧ Hid (R = k + runLen (s.data.toList.drop k))) (fun i => s.size - (intOf i).toNat)
  case atStart => exact ⟨a, ha, rfl, HR⟩
  case round =>
    obtain ⟨k, hk, rfl, hh⟩ := hrel
    by_cases hlt : k < s.size
    · by_cases hw : wordB s[k] = true
      · have HS : Hid (R = ((k + 1 : Nat) : Int) + runLen (s.data.toList.drop (k + 1))) := Lib.hid (by rw [hh.out, run_step s k hlt hw]; omega)
        by_cases hl : letterB s[k] = true
        · clear hw
          go_wp2_with (first | (go_at_call 34; refine (rLetter_any _ _).mono ?_; rintro e w' ⟨rfl, rfl⟩) | (go_at_call 37; refine (rDigit_any _ _).mono ?_; rintro e w' ⟨rfl, rfl⟩))
          go_round
          case rel => exact ⟨k + 1, by omega, by go_num, HS⟩
          case measure => simp [intOf]; omega
        · have hl : letterB s[k] = false := by simpa using hl
          have hd : digitB s[k] = true := by simpa [wordB, hl] using hw
          clear hw
          go_wp2_with (first | (go_at_call 34; refine (rLetter_any _ _).mono ?_; rintro e w' ⟨rfl, rfl⟩) | (go_at_call 37; refine (rDigit_any _ _).mono ?_; rintro e w' ⟨rfl, rfl⟩))
          go_round
          case rel => exact ⟨k + 1, by omega, by go_num, HS⟩
          case measure => simp [intOf]; omega
      · have hw : wordB s[k] = false := by simpa using hw
        have HS : Hid (R = k) := Lib.hid (by rw [hh.out, run_stop s k hlt hw]; omega)
        have hl : letterB s[k] = false := by simp [wordB] at hw; exact hw.1
        have hd : digitB s[k] = false := by simp [wordB] at hw; exact hw.2
        clear hw
        go_wp2_with (first | (go_at_call 34; refine (rLetter_any _ _).mono ?_; rintro e w' ⟨rfl, rfl⟩) | (go_at_call 37; refine (rDigit_any _ _).mono ?_; rintro e w' ⟨rfl, rfl⟩))
        go_ret
        exact ⟨ret_int (by rw [HS.out]), rfl⟩
    · have HS : Hid (R = k) := Lib.hid (by rw [hh.out, run_end s k (by omega)]; omega)
      go_wp2
      go_ret
      exact ⟨ret_int (by rw [HS.out]), rfl⟩
end Go.Proofs.YtmpahpnacpfhoaaDoor
