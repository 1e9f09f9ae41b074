/- The document's own answer for numbers: digits one after another. -/
import Derived.Test.YteggenldmkbhiaaDoorTA
namespace Go.Proofs.YteggenldmkbhiaaDoor
open Go.RowKit
theorem pU_cons (b : Nat) (acc : Nat) (d : ByteArray) (k : Nat) (h : k < d.size) : parseU b acc (d.data.toList.drop k) = if digN d[k] < b ∧ acc * b + digN d[k] ≤ 4294967295 then parseU b (acc * b + digN d[k]) (d.data.toList.drop (k + 1)) else none := by
  rw [drop_cons d k h, parseU]
theorem pU_nil (b : Nat) (acc : Nat) (d : ByteArray) (k : Nat) (h : d.size ≤ k) : parseU b acc (d.data.toList.drop k) = some acc := by
  rw [List.drop_eq_nil_of_le (by rw [← Lib.size_eq]; exact h), parseU]

end Go.Proofs.YteggenldmkbhiaaDoor
namespace Go.Proofs.YteggenldmkbhiaaDoor
open Go.RowKit
set_option maxHeartbeats 2000000 in
theorem rNum_B117 (s : ByteArray) (w : World) (hs : s.size ≤ 20000) (h0 : 1 < s.size)
   (hDs : (s.extract 0 (s.size - 1)).size = s.size - 1)
   (g1 : (((s[s.size - 1]'(by omega)).toNat : Int) == 117) = true)
   (g3 : (((((s.extract 0 (s.size - 1)))[0]'(by omega)).toNat : Int) == 48) = false)
   (HN : Hid (numL s.data.toList = (parseU 10 0 ((s.extract 0 (s.size - 1)).data.toList.drop 0)).map fun n => (n, true || decide (2147483647 < n)))) :
    Calls Tryd.prog 31 #[.string s] w fun e w' => e = .returned (numTup (numL s.data.toList)) ∧ w = w' := by
  obtain ⟨R, hR⟩ : ∃ R, R = numL s.data.toList := ⟨_, rfl⟩
  rw [← hR] at HN ⊢
  clear hR
  go_enter Tryd.func31, Tryd.ntmps31
  go_wp2
  have hz : decide ((s.size - 1) = 0) = false := decide_eq_false (by first | exact hne | omega)
  try rw [hz]
  go_loop [9, 10] (fun vn vi => ∃ (k acc : Nat) (a : Int), vn = .int .u64 a ∧ vi = .int .i64 k ∧ k ≤ (s.size - 1) ∧ (0 ≤ a ∧ a ≤ 4294967295) ∧ Hid (a = (acc : Int) ∧ acc ≤ 4294967295 ∧ R = (parseU 10 acc ((s.extract 0 (s.size - 1)).data.toList.drop k)).map fun n => (n, true || decide (2147483647 < n))))
    (fun _ vi => (s.size - 1) - (intOf vi).toNat)
  case atStart => exact ⟨0, 0, 0, rfl, rfl, by omega, by omega, Lib.hid ⟨rfl, by omega, HN.out⟩⟩
  case round =>
    obtain ⟨k, acc, a, rfl, rfl, hk, ⟨a0, a1⟩, hh⟩ := hrel
    obtain ⟨ha, hacc, hdec⟩ := hh.out
    clear hh HN g1 g3
    have hq : k < (s.size - 1) → k < (s.extract 0 (s.size - 1)).size := fun h => by rw [hDs]; exact h
    by_cases hkn : k < (s.size - 1)
    · have hkq := hq hkn
      rw [pU_cons _ _ _ _ hkq] at hdec
      have HRV := Lib.hid (fun w => rValue_any (s.extract 0 (s.size - 1))[k] w)
      obtain ⟨hv1, hv2⟩ := valN_dig (s.extract 0 (s.size - 1))[k] 10 (by decide)
      have hv0 : 0 ≤ valN (s.extract 0 (s.size - 1))[k] := by unfold valN; repeat' split <;> omega
      generalize valN (s.extract 0 (s.size - 1))[k] = v at HRV hv1 hv2 hv0
      generalize digN (s.extract 0 (s.size - 1))[k] = g at hv1 hv2 hdec
      by_cases hv : v < 10
      · have hg := hv1.1 hv
        have hvg := hv2 hg
        by_cases hov : a * 10 + v ≤ 4294967295
        · rw [if_pos (by omega)] at hdec
          have HS : Hid (a * 10 + v = ((acc * 10 + g : Nat) : Int) ∧ acc * 10 + g ≤ 4294967295 ∧ _) := Lib.hid ⟨by omega, by omega, hdec⟩
          clear hdec hv1 hv2 hvg hg ha hacc
          go_wp2_with (go_at_call 39; refine (HRV.out _).mono ?_; rintro e w' ⟨rfl, rfl⟩)
          go_round
          case rel => exact ⟨k + 1, acc * 10 + g, a * 10 + v, (by first | rfl | (congr 1; omega)), by go_num, by omega, by omega, HS⟩
          case measure => simp [intOf]; omega
        · rw [if_neg (by omega)] at hdec
          have HS := Lib.hid hdec
          clear hdec hv1 hv2 hvg hg ha hacc
          go_wp2_with (go_at_call 39; refine (HRV.out _).mono ?_; rintro e w' ⟨rfl, rfl⟩)
          go_ret3
          exact ⟨by rw [HS.out]; rfl, rfl⟩
      · rw [if_neg (fun h => hv (hv1.2 h.1))] at hdec
        have HS := Lib.hid hdec
        clear hdec hv1 hv2 ha hacc
        go_wp2_with (go_at_call 39; refine (HRV.out _).mono ?_; rintro e w' ⟨rfl, rfl⟩)
        go_ret3
        exact ⟨by rw [HS.out]; rfl, rfl⟩
    · rw [pU_nil _ _ _ _ (by rw [hDs]; omega)] at hdec
      have HS := Lib.hid hdec
      have HA := Lib.hid ha
      clear hdec ha
      by_cases hbig : 2147483647 < a
      all_goals go_wp2
      all_goals go_ret3
      all_goals refine ⟨?_, rfl⟩
      all_goals rw [HS.out]
      all_goals have ha := HA.out
      all_goals first | (simp [numTup]; done) | (simp [numTup]; omega)

set_option maxHeartbeats 2000000 in
theorem rNum_C117 (s : ByteArray) (w : World) (hs : s.size ≤ 20000) (h0 : 1 < s.size)
   (hDs : (s.extract 0 (s.size - 1)).size = s.size - 1)
   (g1 : (((s[s.size - 1]'(by omega)).toNat : Int) == 117) = true)
   (g3 : (((((s.extract 0 (s.size - 1)))[0]'(by omega)).toNat : Int) == 48) = true)
   (h1 : s.size ≤ 2)
   (HN : Hid (numL s.data.toList = (parseU 8 0 ((s.extract 0 (s.size - 1)).data.toList.drop 0)).map fun n => (n, true || decide (2147483647 < n)))) :
    Calls Tryd.prog 31 #[.string s] w fun e w' => e = .returned (numTup (numL s.data.toList)) ∧ w = w' := by
  obtain ⟨R, hR⟩ : ∃ R, R = numL s.data.toList := ⟨_, rfl⟩
  rw [← hR] at HN ⊢
  clear hR
  go_enter Tryd.func31, Tryd.ntmps31
  go_wp2
  have hz : decide ((s.size - 1) = 0) = false := decide_eq_false (by first | exact hne | omega)
  try rw [hz]
  go_loop [9, 10] (fun vn vi => ∃ (k acc : Nat) (a : Int), vn = .int .u64 a ∧ vi = .int .i64 k ∧ k ≤ (s.size - 1) ∧ (0 ≤ a ∧ a ≤ 4294967295) ∧ Hid (a = (acc : Int) ∧ acc ≤ 4294967295 ∧ R = (parseU 8 acc ((s.extract 0 (s.size - 1)).data.toList.drop k)).map fun n => (n, true || decide (2147483647 < n))))
    (fun _ vi => (s.size - 1) - (intOf vi).toNat)
  case atStart => exact ⟨0, 0, 0, rfl, rfl, by omega, by omega, Lib.hid ⟨rfl, by omega, HN.out⟩⟩
  case round =>
    obtain ⟨k, acc, a, rfl, rfl, hk, ⟨a0, a1⟩, hh⟩ := hrel
    obtain ⟨ha, hacc, hdec⟩ := hh.out
    clear hh HN g1 g3
    have hq : k < (s.size - 1) → k < (s.extract 0 (s.size - 1)).size := fun h => by rw [hDs]; exact h
    by_cases hkn : k < (s.size - 1)
    · have hkq := hq hkn
      rw [pU_cons _ _ _ _ hkq] at hdec
      have HRV := Lib.hid (fun w => rValue_any (s.extract 0 (s.size - 1))[k] w)
      obtain ⟨hv1, hv2⟩ := valN_dig (s.extract 0 (s.size - 1))[k] 8 (by decide)
      have hv0 : 0 ≤ valN (s.extract 0 (s.size - 1))[k] := by unfold valN; repeat' split <;> omega
      generalize valN (s.extract 0 (s.size - 1))[k] = v at HRV hv1 hv2 hv0
      generalize digN (s.extract 0 (s.size - 1))[k] = g at hv1 hv2 hdec
      by_cases hv : v < 8
      · have hg := hv1.1 hv
        have hvg := hv2 hg
        by_cases hov : a * 8 + v ≤ 4294967295
        · rw [if_pos (by omega)] at hdec
          have HS : Hid (a * 8 + v = ((acc * 8 + g : Nat) : Int) ∧ acc * 8 + g ≤ 4294967295 ∧ _) := Lib.hid ⟨by omega, by omega, hdec⟩
          clear hdec hv1 hv2 hvg hg ha hacc
          go_wp2_with (go_at_call 39; refine (HRV.out _).mono ?_; rintro e w' ⟨rfl, rfl⟩)
          go_round
          case rel => exact ⟨k + 1, acc * 8 + g, a * 8 + v, (by first | rfl | (congr 1; omega)), by go_num, by omega, by omega, HS⟩
          case measure => simp [intOf]; omega
        · rw [if_neg (by omega)] at hdec
          have HS := Lib.hid hdec
          clear hdec hv1 hv2 hvg hg ha hacc
          go_wp2_with (go_at_call 39; refine (HRV.out _).mono ?_; rintro e w' ⟨rfl, rfl⟩)
          go_ret3
          exact ⟨by rw [HS.out]; rfl, rfl⟩
      · rw [if_neg (fun h => hv (hv1.2 h.1))] at hdec
        have HS := Lib.hid hdec
        clear hdec hv1 hv2 ha hacc
        go_wp2_with (go_at_call 39; refine (HRV.out _).mono ?_; rintro e w' ⟨rfl, rfl⟩)
        go_ret3
        exact ⟨by rw [HS.out]; rfl, rfl⟩
    · rw [pU_nil _ _ _ _ (by rw [hDs]; omega)] at hdec
      have HS := Lib.hid hdec
      have HA := Lib.hid ha
      clear hdec ha
      by_cases hbig : 2147483647 < a
      all_goals go_wp2
      all_goals go_ret3
      all_goals refine ⟨?_, rfl⟩
      all_goals rw [HS.out]
      all_goals have ha := HA.out
      all_goals first | (simp [numTup]; done) | (simp [numTup]; omega)

set_option maxHeartbeats 2000000 in
theorem rNum_D117 (s : ByteArray) (w : World) (hs : s.size ≤ 20000) (h0 : 3 < s.size)
   (hDs : (s.extract 0 (s.size - 1)).size = s.size - 1)
   (g1 : (((s[s.size - 1]'(by omega)).toNat : Int) == 117) = true)
   (g3 : (((((s.extract 0 (s.size - 1)))[0]'(by omega)).toNat : Int) == 48) = true)
   (g4 : (((((s.extract 0 (s.size - 1)))[1]'(by omega)).toNat : Int) == 120) = true)
   (HN : Hid (numL s.data.toList = (parseU 16 0 ((s.extract 0 (s.size - 1)).data.toList.drop 2)).map fun n => (n, true || decide (2147483647 < n)))) :
    Calls Tryd.prog 31 #[.string s] w fun e w' => e = .returned (numTup (numL s.data.toList)) ∧ w = w' := by
  obtain ⟨R, hR⟩ : ∃ R, R = numL s.data.toList := ⟨_, rfl⟩
  rw [← hR] at HN ⊢
  clear hR
  go_enter Tryd.func31, Tryd.ntmps31
  go_wp2
  go_loop [9, 10] (fun vn vi => ∃ (k acc : Nat) (a : Int), vn = .int .u64 a ∧ vi = .int .i64 k ∧ k ≤ (s.size - 1) ∧ (0 ≤ a ∧ a ≤ 4294967295) ∧ Hid (a = (acc : Int) ∧ acc ≤ 4294967295 ∧ R = (parseU 16 acc ((s.extract 0 (s.size - 1)).data.toList.drop k)).map fun n => (n, true || decide (2147483647 < n))))
    (fun _ vi => (s.size - 1) - (intOf vi).toNat)
  case atStart => exact ⟨2, 0, 0, rfl, rfl, by omega, by omega, Lib.hid ⟨rfl, by omega, HN.out⟩⟩
  case round =>
    obtain ⟨k, acc, a, rfl, rfl, hk, ⟨a0, a1⟩, hh⟩ := hrel
    obtain ⟨ha, hacc, hdec⟩ := hh.out
    clear hh HN g1 g3 g4
    have hq : k < (s.size - 1) → k < (s.extract 0 (s.size - 1)).size := fun h => by rw [hDs]; exact h
    by_cases hkn : k < (s.size - 1)
    · have hkq := hq hkn
      rw [pU_cons _ _ _ _ hkq] at hdec
      have HRV := Lib.hid (fun w => rValue_any (s.extract 0 (s.size - 1))[k] w)
      obtain ⟨hv1, hv2⟩ := valN_dig (s.extract 0 (s.size - 1))[k] 16 (by decide)
      have hv0 : 0 ≤ valN (s.extract 0 (s.size - 1))[k] := by unfold valN; repeat' split <;> omega
      generalize valN (s.extract 0 (s.size - 1))[k] = v at HRV hv1 hv2 hv0
      generalize digN (s.extract 0 (s.size - 1))[k] = g at hv1 hv2 hdec
      by_cases hv : v < 16
      · have hg := hv1.1 hv
        have hvg := hv2 hg
        by_cases hov : a * 16 + v ≤ 4294967295
        · rw [if_pos (by omega)] at hdec
          have HS : Hid (a * 16 + v = ((acc * 16 + g : Nat) : Int) ∧ acc * 16 + g ≤ 4294967295 ∧ _) := Lib.hid ⟨by omega, by omega, hdec⟩
          clear hdec hv1 hv2 hvg hg ha hacc
          go_wp2_with (go_at_call 39; refine (HRV.out _).mono ?_; rintro e w' ⟨rfl, rfl⟩)
          go_round
          case rel => exact ⟨k + 1, acc * 16 + g, a * 16 + v, (by first | rfl | (congr 1; omega)), by go_num, by omega, by omega, HS⟩
          case measure => simp [intOf]; omega
        · rw [if_neg (by omega)] at hdec
          have HS := Lib.hid hdec
          clear hdec hv1 hv2 hvg hg ha hacc
          go_wp2_with (go_at_call 39; refine (HRV.out _).mono ?_; rintro e w' ⟨rfl, rfl⟩)
          go_ret3
          exact ⟨by rw [HS.out]; rfl, rfl⟩
      · rw [if_neg (fun h => hv (hv1.2 h.1))] at hdec
        have HS := Lib.hid hdec
        clear hdec hv1 hv2 ha hacc
        go_wp2_with (go_at_call 39; refine (HRV.out _).mono ?_; rintro e w' ⟨rfl, rfl⟩)
        go_ret3
        exact ⟨by rw [HS.out]; rfl, rfl⟩
    · rw [pU_nil _ _ _ _ (by rw [hDs]; omega)] at hdec
      have HS := Lib.hid hdec
      have HA := Lib.hid ha
      clear hdec ha
      by_cases hbig : 2147483647 < a
      all_goals go_wp2
      all_goals go_ret3
      all_goals refine ⟨?_, rfl⟩
      all_goals rw [HS.out]
      all_goals have ha := HA.out
      all_goals first | (simp [numTup]; done) | (simp [numTup]; omega)

set_option maxHeartbeats 2000000 in
theorem rNum_D0117 (s : ByteArray) (w : World) (hs : s.size ≤ 20000) (h0 : 2 < s.size)
   (hDs : (s.extract 0 (s.size - 1)).size = s.size - 1)
   (g1 : (((s[s.size - 1]'(by omega)).toNat : Int) == 117) = true)
   (g3 : (((((s.extract 0 (s.size - 1)))[0]'(by omega)).toNat : Int) == 48) = true)
   (g4 : (((((s.extract 0 (s.size - 1)))[1]'(by omega)).toNat : Int) == 120) = true)
   (h1 : s.size ≤ 3)
   (HN : Hid (numL s.data.toList = none)) :
    Calls Tryd.prog 31 #[.string s] w fun e w' => e = .returned (numTup (numL s.data.toList)) ∧ w = w' := by
  obtain ⟨R, hR⟩ : ∃ R, R = numL s.data.toList := ⟨_, rfl⟩
  rw [← hR] at HN ⊢
  clear hR
  go_enter Tryd.func31, Tryd.ntmps31
  go_wp2
  go_ret3
  exact ⟨by rw [HN.out]; rfl, rfl⟩

set_option maxHeartbeats 2000000 in
theorem rNum_E117 (s : ByteArray) (w : World) (hs : s.size ≤ 20000) (h0 : 3 < s.size)
   (hDs : (s.extract 0 (s.size - 1)).size = s.size - 1)
   (g1 : (((s[s.size - 1]'(by omega)).toNat : Int) == 117) = true)
   (g3 : (((((s.extract 0 (s.size - 1)))[0]'(by omega)).toNat : Int) == 48) = true)
   (g4 : (((((s.extract 0 (s.size - 1)))[1]'(by omega)).toNat : Int) == 120) = false)
   (g5 : (((((s.extract 0 (s.size - 1)))[1]'(by omega)).toNat : Int) == 88) = true)
   (HN : Hid (numL s.data.toList = (parseU 16 0 ((s.extract 0 (s.size - 1)).data.toList.drop 2)).map fun n => (n, true || decide (2147483647 < n)))) :
    Calls Tryd.prog 31 #[.string s] w fun e w' => e = .returned (numTup (numL s.data.toList)) ∧ w = w' := by
  obtain ⟨R, hR⟩ : ∃ R, R = numL s.data.toList := ⟨_, rfl⟩
  rw [← hR] at HN ⊢
  clear hR
  go_enter Tryd.func31, Tryd.ntmps31
  go_wp2
  go_loop [9, 10] (fun vn vi => ∃ (k acc : Nat) (a : Int), vn = .int .u64 a ∧ vi = .int .i64 k ∧ k ≤ (s.size - 1) ∧ (0 ≤ a ∧ a ≤ 4294967295) ∧ Hid (a = (acc : Int) ∧ acc ≤ 4294967295 ∧ R = (parseU 16 acc ((s.extract 0 (s.size - 1)).data.toList.drop k)).map fun n => (n, true || decide (2147483647 < n))))
    (fun _ vi => (s.size - 1) - (intOf vi).toNat)
  case atStart => exact ⟨2, 0, 0, rfl, rfl, by omega, by omega, Lib.hid ⟨rfl, by omega, HN.out⟩⟩
  case round =>
    obtain ⟨k, acc, a, rfl, rfl, hk, ⟨a0, a1⟩, hh⟩ := hrel
    obtain ⟨ha, hacc, hdec⟩ := hh.out
    clear hh HN g1 g3 g4 g5
    have hq : k < (s.size - 1) → k < (s.extract 0 (s.size - 1)).size := fun h => by rw [hDs]; exact h
    by_cases hkn : k < (s.size - 1)
    · have hkq := hq hkn
      rw [pU_cons _ _ _ _ hkq] at hdec
      have HRV := Lib.hid (fun w => rValue_any (s.extract 0 (s.size - 1))[k] w)
      obtain ⟨hv1, hv2⟩ := valN_dig (s.extract 0 (s.size - 1))[k] 16 (by decide)
      have hv0 : 0 ≤ valN (s.extract 0 (s.size - 1))[k] := by unfold valN; repeat' split <;> omega
      generalize valN (s.extract 0 (s.size - 1))[k] = v at HRV hv1 hv2 hv0
      generalize digN (s.extract 0 (s.size - 1))[k] = g at hv1 hv2 hdec
      by_cases hv : v < 16
      · have hg := hv1.1 hv
        have hvg := hv2 hg
        by_cases hov : a * 16 + v ≤ 4294967295
        · rw [if_pos (by omega)] at hdec
          have HS : Hid (a * 16 + v = ((acc * 16 + g : Nat) : Int) ∧ acc * 16 + g ≤ 4294967295 ∧ _) := Lib.hid ⟨by omega, by omega, hdec⟩
          clear hdec hv1 hv2 hvg hg ha hacc
          go_wp2_with (go_at_call 39; refine (HRV.out _).mono ?_; rintro e w' ⟨rfl, rfl⟩)
          go_round
          case rel => exact ⟨k + 1, acc * 16 + g, a * 16 + v, (by first | rfl | (congr 1; omega)), by go_num, by omega, by omega, HS⟩
          case measure => simp [intOf]; omega
        · rw [if_neg (by omega)] at hdec
          have HS := Lib.hid hdec
          clear hdec hv1 hv2 hvg hg ha hacc
          go_wp2_with (go_at_call 39; refine (HRV.out _).mono ?_; rintro e w' ⟨rfl, rfl⟩)
          go_ret3
          exact ⟨by rw [HS.out]; rfl, rfl⟩
      · rw [if_neg (fun h => hv (hv1.2 h.1))] at hdec
        have HS := Lib.hid hdec
        clear hdec hv1 hv2 ha hacc
        go_wp2_with (go_at_call 39; refine (HRV.out _).mono ?_; rintro e w' ⟨rfl, rfl⟩)
        go_ret3
        exact ⟨by rw [HS.out]; rfl, rfl⟩
    · rw [pU_nil _ _ _ _ (by rw [hDs]; omega)] at hdec
      have HS := Lib.hid hdec
      have HA := Lib.hid ha
      clear hdec ha
      by_cases hbig : 2147483647 < a
      all_goals go_wp2
      all_goals go_ret3
      all_goals refine ⟨?_, rfl⟩
      all_goals rw [HS.out]
      all_goals have ha := HA.out
      all_goals first | (simp [numTup]; done) | (simp [numTup]; omega)

set_option maxHeartbeats 2000000 in
theorem rNum_F117 (s : ByteArray) (w : World) (hs : s.size ≤ 20000) (h0 : 2 < s.size)
   (hDs : (s.extract 0 (s.size - 1)).size = s.size - 1)
   (g1 : (((s[s.size - 1]'(by omega)).toNat : Int) == 117) = true)
   (g3 : (((((s.extract 0 (s.size - 1)))[0]'(by omega)).toNat : Int) == 48) = true)
   (g4 : (((((s.extract 0 (s.size - 1)))[1]'(by omega)).toNat : Int) == 120) = false)
   (g5 : (((((s.extract 0 (s.size - 1)))[1]'(by omega)).toNat : Int) == 88) = false)
   (HN : Hid (numL s.data.toList = (parseU 8 0 ((s.extract 0 (s.size - 1)).data.toList.drop 0)).map fun n => (n, true || decide (2147483647 < n)))) :
    Calls Tryd.prog 31 #[.string s] w fun e w' => e = .returned (numTup (numL s.data.toList)) ∧ w = w' := by
  obtain ⟨R, hR⟩ : ∃ R, R = numL s.data.toList := ⟨_, rfl⟩
  rw [← hR] at HN ⊢
  clear hR
  go_enter Tryd.func31, Tryd.ntmps31
  go_wp2
  have hz : decide ((s.size - 1) = 0) = false := decide_eq_false (by first | exact hne | omega)
  try rw [hz]
  go_loop [9, 10] (fun vn vi => ∃ (k acc : Nat) (a : Int), vn = .int .u64 a ∧ vi = .int .i64 k ∧ k ≤ (s.size - 1) ∧ (0 ≤ a ∧ a ≤ 4294967295) ∧ Hid (a = (acc : Int) ∧ acc ≤ 4294967295 ∧ R = (parseU 8 acc ((s.extract 0 (s.size - 1)).data.toList.drop k)).map fun n => (n, true || decide (2147483647 < n))))
    (fun _ vi => (s.size - 1) - (intOf vi).toNat)
  case atStart => exact ⟨0, 0, 0, rfl, rfl, by omega, by omega, Lib.hid ⟨rfl, by omega, HN.out⟩⟩
  case round =>
    obtain ⟨k, acc, a, rfl, rfl, hk, ⟨a0, a1⟩, hh⟩ := hrel
    obtain ⟨ha, hacc, hdec⟩ := hh.out
    clear hh HN g1 g3 g4 g5
    have hq : k < (s.size - 1) → k < (s.extract 0 (s.size - 1)).size := fun h => by rw [hDs]; exact h
    by_cases hkn : k < (s.size - 1)
    · have hkq := hq hkn
      rw [pU_cons _ _ _ _ hkq] at hdec
      have HRV := Lib.hid (fun w => rValue_any (s.extract 0 (s.size - 1))[k] w)
      obtain ⟨hv1, hv2⟩ := valN_dig (s.extract 0 (s.size - 1))[k] 8 (by decide)
      have hv0 : 0 ≤ valN (s.extract 0 (s.size - 1))[k] := by unfold valN; repeat' split <;> omega
      generalize valN (s.extract 0 (s.size - 1))[k] = v at HRV hv1 hv2 hv0
      generalize digN (s.extract 0 (s.size - 1))[k] = g at hv1 hv2 hdec
      by_cases hv : v < 8
      · have hg := hv1.1 hv
        have hvg := hv2 hg
        by_cases hov : a * 8 + v ≤ 4294967295
        · rw [if_pos (by omega)] at hdec
          have HS : Hid (a * 8 + v = ((acc * 8 + g : Nat) : Int) ∧ acc * 8 + g ≤ 4294967295 ∧ _) := Lib.hid ⟨by omega, by omega, hdec⟩
          clear hdec hv1 hv2 hvg hg ha hacc
          go_wp2_with (go_at_call 39; refine (HRV.out _).mono ?_; rintro e w' ⟨rfl, rfl⟩)
          go_round
          case rel => exact ⟨k + 1, acc * 8 + g, a * 8 + v, (by first | rfl | (congr 1; omega)), by go_num, by omega, by omega, HS⟩
          case measure => simp [intOf]; omega
        · rw [if_neg (by omega)] at hdec
          have HS := Lib.hid hdec
          clear hdec hv1 hv2 hvg hg ha hacc
          go_wp2_with (go_at_call 39; refine (HRV.out _).mono ?_; rintro e w' ⟨rfl, rfl⟩)
          go_ret3
          exact ⟨by rw [HS.out]; rfl, rfl⟩
      · rw [if_neg (fun h => hv (hv1.2 h.1))] at hdec
        have HS := Lib.hid hdec
        clear hdec hv1 hv2 ha hacc
        go_wp2_with (go_at_call 39; refine (HRV.out _).mono ?_; rintro e w' ⟨rfl, rfl⟩)
        go_ret3
        exact ⟨by rw [HS.out]; rfl, rfl⟩
    · rw [pU_nil _ _ _ _ (by rw [hDs]; omega)] at hdec
      have HS := Lib.hid hdec
      have HA := Lib.hid ha
      clear hdec ha
      by_cases hbig : 2147483647 < a
      all_goals go_wp2
      all_goals go_ret3
      all_goals refine ⟨?_, rfl⟩
      all_goals rw [HS.out]
      all_goals have ha := HA.out
      all_goals first | (simp [numTup]; done) | (simp [numTup]; omega)

set_option maxHeartbeats 2000000 in
theorem rNum_E0117 (s : ByteArray) (w : World) (hs : s.size ≤ 20000) (h0 : 2 < s.size)
   (hDs : (s.extract 0 (s.size - 1)).size = s.size - 1)
   (g1 : (((s[s.size - 1]'(by omega)).toNat : Int) == 117) = true)
   (g3 : (((((s.extract 0 (s.size - 1)))[0]'(by omega)).toNat : Int) == 48) = true)
   (g4 : (((((s.extract 0 (s.size - 1)))[1]'(by omega)).toNat : Int) == 120) = false)
   (g5 : (((((s.extract 0 (s.size - 1)))[1]'(by omega)).toNat : Int) == 88) = true)
   (h1 : s.size ≤ 3)
   (HN : Hid (numL s.data.toList = none)) :
    Calls Tryd.prog 31 #[.string s] w fun e w' => e = .returned (numTup (numL s.data.toList)) ∧ w = w' := by
  obtain ⟨R, hR⟩ : ∃ R, R = numL s.data.toList := ⟨_, rfl⟩
  rw [← hR] at HN ⊢
  clear hR
  go_enter Tryd.func31, Tryd.ntmps31
  go_wp2
  go_ret3
  exact ⟨by rw [HN.out]; rfl, rfl⟩
end Go.Proofs.YteggenldmkbhiaaDoor
