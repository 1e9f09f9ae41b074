/- Two more leaf functions of package lex: how long a run of letters and digits is, and how long a sign is. -/
import Derived.Test.YtmpahpnacpfhoaaDoorA
import Derived.Deep.QuietTactic
import Derived.BigQuiet
namespace Go.Proofs.YtmpahpnacpfhoaaDoor
open Go.RowKit

theorem drop_cons (s : ByteArray) (k : Nat) (h : k < s.size) : s.data.toList.drop k = s[k] :: s.data.toList.drop (k + 1) := by
  have h' : k < s.data.toList.length := by rw [← Lib.size_eq]; exact h
  rw [List.drop_eq_getElem_cons h']
  congr 1
theorem run_step (s : ByteArray) (k : Nat) (h : k < s.size) (hw : wordB s[k] = true) : runLen (s.data.toList.drop k) = runLen (s.data.toList.drop (k + 1)) + 1 := by
  rw [drop_cons s k h]; simp [runLen, hw]
theorem run_stop (s : ByteArray) (k : Nat) (h : k < s.size) (hw : wordB s[k] = false) : runLen (s.data.toList.drop k) = 0 := by
  rw [drop_cons s k h]; simp [runLen, hw]
theorem run_end (s : ByteArray) (k : Nat) (h : s.size ≤ k) : runLen (s.data.toList.drop k) = 0 := by
  rw [List.drop_eq_nil_of_le (by rw [← Lib.size_eq]; exact h)]; rfl

set_option maxHeartbeats 400000 in
theorem runLength_any (s : ByteArray) (w : World) (hs : s.size ≤ 20000) :
    Calls Tryd.prog 44 #[.string s] w fun e w' => e = .returned (.int .i64 (runLen s.data.toList)) ∧ w = w' := by
  go_enter Tryd.func44, Tryd.ntmps44
  go_wp2
  go_loop [6] (fun i => ∃ k : Nat, k ≤ s.size ∧ i = .int .i64 k ∧ Hid (runLen s.data.toList = k + runLen (s.data.toList.drop k))) (fun i => s.size - (intOf i).toNat)
  case atStart => exact ⟨0, Nat.zero_le _, rfl, Lib.hid (by simp)⟩
  case round =>
    obtain ⟨k, hk, rfl, hh⟩ := hrel
    by_cases hlt : k < s.size
    · by_cases hw : wordB s[k] = true
      · have HS : Hid (runLen s.data.toList = ((k + 1 : Nat)) + runLen (s.data.toList.drop (k + 1))) := Lib.hid (by rw [hh.out, run_step s k hlt hw]; omega)
        by_cases hl : letterB s[k] = true
        · clear hw
          go_wp2_with (first | (go_at_call 27; refine (isLetter_any _ _).mono ?_; rintro e w' ⟨rfl, rfl⟩) | (go_at_call 29; refine (isDigit_any _ _).mono ?_; rintro e w' ⟨rfl, rfl⟩))
          go_round
          case rel => exact ⟨k + 1, by omega, by go_num, HS⟩
          case measure => simp [intOf]; omega
        · have hl : letterB s[k] = false := by simpa using hl
          have hd : digitB s[k] = true := by simpa [wordB, hl] using hw
          clear hw
          go_wp2_with (first | (go_at_call 27; refine (isLetter_any _ _).mono ?_; rintro e w' ⟨rfl, rfl⟩) | (go_at_call 29; refine (isDigit_any _ _).mono ?_; rintro e w' ⟨rfl, rfl⟩))
          go_round
          case rel => exact ⟨k + 1, by omega, by go_num, HS⟩
          case measure => simp [intOf]; omega
      · have hw : wordB s[k] = false := by simpa using hw
        have HS : Hid (runLen s.data.toList = k) := Lib.hid (by rw [hh.out, run_stop s k hlt hw]; omega)
        have hl : letterB s[k] = false := by simp [wordB] at hw; exact hw.1
        have hd : digitB s[k] = false := by simp [wordB] at hw; exact hw.2
        clear hw
        go_wp2_with (first | (go_at_call 27; refine (isLetter_any _ _).mono ?_; rintro e w' ⟨rfl, rfl⟩) | (go_at_call 29; refine (isDigit_any _ _).mono ?_; rintro e w' ⟨rfl, rfl⟩))
        go_ret
        exact ⟨ret_int (by rw [HS.out]), rfl⟩
    · have HS : Hid (runLen s.data.toList = s.size) := Lib.hid (by rw [hh.out, run_end s k (by omega)]; omega)
      go_wp2
      go_ret
      exact ⟨ret_int (by rw [HS.out]), rfl⟩

set_option maxHeartbeats 1000000 in
theorem signLength_any (s : ByteArray) (w : World) (h0 : 0 < s.size) :
    Calls Tryd.prog 32 #[.string s] w fun e w' => e = .returned (.int .i64 (signL s.data.toList)) ∧ Below w.heap.size w w' := by
  have e0 := Lib.hid (byteL_of s 0 h0)
  obtain ⟨a, ha⟩ : ∃ a : Int, a = (byteL s.data.toList 0 : Int) := ⟨_, rfl⟩
  obtain ⟨f, hf⟩ : ∃ f : Int → Int, f = fun k => (byteL s.data.toList k.toNat : Int) := ⟨_, rfl⟩
  have c1 : ∀ (k : Int), (k = 1 ∨ k = 2) → ∀ w, Calls Tryd.prog 48 #[.string s, .int .i64 k] w fun e w' => e = .returned (.int .u8 (f k)) ∧ w' = w := fun k hk w => by
    obtain ⟨j, rfl⟩ : ∃ j : Nat, k = j := ⟨k.toNat, by omega⟩
    rw [hf]
    exact (byteAt_any s j (by omega) w).mono fun _ _ ⟨a, b⟩ => ⟨a, b.symm⟩
  have hi : ((s[0].toNat : Nat) : Int) = a := by rw [ha]; exact e0.out
  obtain ⟨b, hb⟩ : ∃ b : Int, f 1 = b := ⟨_, rfl⟩
  obtain ⟨c, hc⟩ : ∃ c : Int, f 2 = c := ⟨_, rfl⟩
  have hS : signL s.data.toList = signN a b c := by rw [ha, ← hb, ← hc, hf]; rfl
  rw [hS]
  have HB := Lib.hid hb
  have HC := Lib.hid hc
  have HI := Lib.hid hi
  have H1 := Lib.hid c1
  clear c1 ha hf hS e0 hi hb hc
  have h0' : (0 : Int) < s.size := by omega
  go_enter Tryd.func32, Tryd.ntmps32
  go_wp2
  go_quiet ((go_at_call 48; exact Calls.quiet_of_same (H1.out _ (by first | exact Or.inl rfl | exact Or.inr rfl) _)))
  rw [HI.out, HB.out, HC.out]
  clear H1 HI HB HC
  go_wp2
  all_goals go_ret
  all_goals refine ⟨ret_int ?_, below_drewN (Below.refl _ _) _⟩
  all_goals (simp only [beq_iff_eq, beq_eq_false_iff_ne, ne_eq] at *)
  all_goals (unfold signN)
  all_goals (repeat' split)
  all_goals first | rfl | (exfalso; omega)
end Go.Proofs.YtmpahpnacpfhoaaDoor
