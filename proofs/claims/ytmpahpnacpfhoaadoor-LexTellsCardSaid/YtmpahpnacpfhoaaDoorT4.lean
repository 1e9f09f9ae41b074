/- The document's own answer for comments: where the comment ends that begins at a place. -/
import Derived.Test.YtmpahpnacpfhoaaDoorT1
namespace Go.Proofs.YtmpahpnacpfhoaaDoor
open Go.RowKit

theorem line_stop (s : ByteArray) (k : Nat) (h : k < s.size) (hc : (s[k].toNat : Int) = 10) : lineLen (s.data.toList.drop k) = 0 := by
  have h1 : s[k] = 10 := by apply UInt8.toNat_inj.1; show s[k].toNat = 10; omega
  rw [drop_cons s k h, h1]; simp [lineLen, Lib.indexByte]
theorem line_step (s : ByteArray) (k : Nat) (h : k < s.size) (hc : ¬ (s[k].toNat : Int) = 10) : lineLen (s.data.toList.drop k) = lineLen (s.data.toList.drop (k + 1)) + 1 := by
  have h1 : (s[k] == 10) = false := by
    rw [beq_eq_false_iff_ne]; intro h2; apply hc; rw [h2]; rfl
  have hge := Lib.indexByte_ge (s.data.toList.drop (k + 1)) 10
  rw [drop_cons s k h]; unfold lineLen
  rw [Lib.indexByte, h1]
  simp only [Bool.false_eq_true, if_false, beq_iff_eq, List.length_cons]
  generalize Lib.indexByte (s.data.toList.drop (k + 1)) 10 = x at hge
  repeat' split
  all_goals omega
theorem line_end (s : ByteArray) (k : Nat) (h : s.size ≤ k) : lineLen (s.data.toList.drop k) = 0 := by
  rw [List.drop_eq_nil_of_le (by rw [← Lib.size_eq]; exact h)]; rfl

theorem pre2 (s : ByteArray) (k : Nat) (x y : UInt8) : Lib.hasPrefix (s.data.toList.drop k) [x, y] = true ↔ ∃ h : k + 1 < s.size, s[k]'(by omega) = x ∧ s[k + 1] = y := by
  unfold Lib.hasPrefix
  by_cases h : k + 1 < s.size
  · rw [drop_cons s k (by omega), drop_cons s (k + 1) h]
    simp only [List.isPrefixOf, Bool.and_eq_true, beq_iff_eq, Bool.and_true]
    constructor
    · rintro ⟨a, b⟩; exact ⟨h, a.symm, b.symm⟩
    · rintro ⟨_, a, b⟩; exact ⟨a.symm, b.symm⟩
  · constructor
    · intro hp
      have := (List.isPrefixOf_iff_prefix.1 hp).length_le
      rw [List.length_drop, ← Lib.size_eq] at this
      simp at this
      omega
    · rintro ⟨h', _⟩; exact absurd h' h

/-- The end of the comment that begins at a place; -1: none begins there; -2: it is not closed. -/
def cmt (l : Bs) (a : Nat) : Int :=
  if Lib.hasPrefix (l.drop a) [47, 47] then a + lineLen (l.drop a)
  else if Lib.hasPrefix (l.drop a) [47, 42] then (if Lib.index ((l.drop a).drop 2) [42, 47] < 0 then -2 else a + 2 + Lib.index ((l.drop a).drop 2) [42, 47] + 2)
  else -1
/-- The end of an open comment from a place in it on. -/
def shutAt (l : Bs) (k : Nat) : Int := if Lib.index (l.drop k) [42, 47] < 0 then -2 else k + Lib.index (l.drop k) [42, 47] + 2
theorem shut_hit (s : ByteArray) (k : Nat) (h : k + 1 < s.size) (h1 : s[k] = 42) (h2 : s[k + 1] = 47) : shutAt s.data.toList k = k + 2 := by
  unfold shutAt
  have hp := (pre2 s k 42 47).2 ⟨h, h1, h2⟩
  unfold Lib.hasPrefix at hp
  have hi : Lib.index (s.data.toList.drop k) [42, 47] = 0 := by
    rw [drop_cons s k (by omega)] at hp ⊢
    rw [Lib.index, if_pos hp]
  rw [hi, if_neg (by decide)]; omega
theorem shut_on (s : ByteArray) (k : Nat) (h : k < s.size) (hn : ¬ ∃ h : k + 1 < s.size, s[k]'(by omega) = 42 ∧ s[k + 1] = 47) : shutAt s.data.toList k = shutAt s.data.toList (k + 1) := by
  have hp := fun hh => hn ((pre2 s k 42 47).1 hh)
  unfold Lib.hasPrefix at hp
  have hge := Lib.index_ge (s.data.toList.drop (k + 1)) [42, 47]
  unfold shutAt
  rw [drop_cons s k h] at hp ⊢
  rw [Lib.index, if_neg hp]
  simp only [beq_iff_eq]
  generalize Lib.index (s.data.toList.drop (k + 1)) [42, 47] = x at hge
  repeat' split
  all_goals omega
theorem shut_end (s : ByteArray) (k : Nat) (h : s.size ≤ k + 1) : shutAt s.data.toList k = -2 := by
  unfold shutAt
  have hr := index_room [42, 47] (by simp) (s.data.toList.drop k)
  have hge := Lib.index_ge (s.data.toList.drop k) [42, 47]
  rw [List.length_drop, ← Lib.size_eq] at hr
  simp only [List.length_cons, List.length_nil, Nat.zero_add, Nat.reduceAdd] at hr
  rw [if_pos (by
    rcases Int.lt_or_le (Lib.index (s.data.toList.drop k) [42, 47]) 0 with h | h
    · exact h
    · have := hr h; omega)]
theorem u8_iff (c : UInt8) (n : Nat) (hn : n < 256) : c = UInt8.ofNat n ↔ (c.toNat : Int) = n := by
  constructor
  · rintro rfl; rw [UInt8.toNat_ofNat_of_lt' hn]
  · intro h; apply UInt8.toNat_inj.1; rw [UInt8.toNat_ofNat_of_lt' hn]; omega

set_option maxHeartbeats 2000000 in
theorem rComment_any (s : ByteArray) (a : Nat) (ha : a < s.size) (w : World) (hs : s.size ≤ 20000) :
    Calls Tryd.prog 21 #[.string s, .int .i64 a] w fun e w' => e = .returned (.int .i64 (cmt s.data.toList a)) ∧ w = w' := by
  have i0 : (0 : Int) ≤ a := by omega
  have i1 : (a : Int) < s.size := by omega
  by_cases h2 : a + 2 ≤ s.size
  · have hq : a + 1 < s.size := by omega
    have p47 := pre2 s a 47 47
    have p42 := pre2 s a 47 42
    have u1 := u8_iff (s[a]'ha) 47 (by decide)
    have u2 := u8_iff (s[a + 1]'hq) 47 (by decide)
    have u3 := u8_iff (s[a + 1]'hq) 42 (by decide)
    by_cases h47 : (s[a].toNat : Int) = 47
    · by_cases hl : ((s[a + 1]'hq).toNat : Int) = 47
      · have hc : cmt s.data.toList a = a + lineLen (s.data.toList.drop a) := by
          unfold cmt; rw [if_pos (p47.2 ⟨by omega, u1.2 h47, u2.2 hl⟩)]
        obtain ⟨R, hR⟩ : ∃ R : Int, R = cmt s.data.toList a := ⟨_, rfl⟩
        rw [← hR] at hc ⊢
        have HR := Lib.hid hc
        have gl : (((s[a + 1]'hq).toNat : Int) == 47) = true := by simpa using hl
        have ga : ((s[a].toNat : Int) != 47) = false := by simpa using h47
        clear hc hR p47 p42 u1 u2 u3 hl h47
        go_enter Tryd.func21, Tryd.ntmps21
        go_wp2
        go_loop [1] (fun i => ∃ k : Nat, k ≤ s.size ∧ i = .int .i64 k ∧ Hid (R = k + lineLen (s.data.toList.drop k))) (fun i => s.size - (intOf i).toNat)
        case atStart => exact ⟨a, by omega, rfl, HR⟩
        case round =>
          obtain ⟨k, hk, rfl, hh⟩ := hrel
          by_cases hlt : k < s.size
          · by_cases hc : (s[k].toNat : Int) = 10
            · have HS := Lib.hid (show R = k by rw [hh.out, line_stop s k hlt hc]; omega)
              go_wp2
              go_ret
              exact ⟨ret_int (by rw [HS.out]), rfl⟩
            · have HS : Hid (R = ((k + 1 : Nat) : Int) + lineLen (s.data.toList.drop (k + 1))) := Lib.hid (by rw [hh.out, line_step s k hlt hc]; omega)
              go_wp2
              go_round
              case rel => exact ⟨k + 1, by omega, by go_num, HS⟩
              case measure => simp [intOf]; omega
          · have HS : Hid (R = k) := Lib.hid (by rw [hh.out, line_end s k (by omega)]; omega)
            go_wp2
            go_ret
            exact ⟨ret_int (by rw [HS.out]), rfl⟩
      · by_cases hb : ((s[a + 1]'hq).toNat : Int) = 42
        · have hc : cmt s.data.toList a = shutAt s.data.toList (a + 2) := by
            unfold cmt shutAt
            rw [if_neg (fun h => by obtain ⟨_, _, h3⟩ := p47.1 h; exact hl (u2.1 h3)), if_pos (p42.2 ⟨by omega, u1.2 h47, u3.2 hb⟩), List.drop_drop]
            split
            · rfl
            · omega
          obtain ⟨R, hR⟩ : ∃ R : Int, R = cmt s.data.toList a := ⟨_, rfl⟩
          rw [← hR] at hc ⊢
          have HR := Lib.hid hc
          have gl : (((s[a + 1]'hq).toNat : Int) == 47) = false := by simpa using hl
          have gb : (((s[a + 1]'hq).toNat : Int) == 42) = true := by simpa using hb
          have ga : ((s[a].toNat : Int) != 47) = false := by simpa using h47
          clear hc hR p47 p42 u1 u2 u3 hl h47 hb
          go_enter Tryd.func21, Tryd.ntmps21
          go_wp2
          go_loop [5] (fun i => ∃ k : Nat, k ≤ s.size ∧ i = .int .i64 k ∧ Hid (R = shutAt s.data.toList k)) (fun i => s.size - (intOf i).toNat)
          case atStart => exact ⟨a + 2, by omega, by go_num, HR⟩
          case round =>
            obtain ⟨k, hk, rfl, hh⟩ := hrel
            by_cases hlt : k + 1 < s.size
            · have v1 := u8_iff (s[k]'(by omega)) 42 (by decide)
              have v2 := u8_iff (s[k + 1]'hlt) 47 (by decide)
              by_cases h42 : ((s[k]'(by omega)).toNat : Int) = 42
              · have g1 : (((s[k]'(by omega)).toNat : Int) == 42) = true := by simpa using h42
                by_cases h47 : ((s[k + 1]'hlt).toNat : Int) = 47
                · have g2 : (((s[k + 1]'hlt).toNat : Int) == 47) = true := by simpa using h47
                  have HS := Lib.hid (hh.out.trans (shut_hit s k hlt (v1.2 h42) (v2.2 h47)))
                  clear v1 v2 h42 h47
                  go_wp2
                  go_ret
                  exact ⟨ret_int (by rw [HS.out]), rfl⟩
                · have g2 : (((s[k + 1]'hlt).toNat : Int) == 47) = false := by simpa using h47
                  have HS := Lib.hid (hh.out.trans (shut_on s k (by omega) (fun ⟨_, _, h⟩ => h47 (v2.1 h))))
                  clear v1 v2 h42 h47
                  go_wp2
                  go_round
                  case rel => exact ⟨k + 1, by omega, by go_num, HS⟩
                  case measure => simp [intOf]; omega
              · have g1 : (((s[k]'(by omega)).toNat : Int) == 42) = false := by simpa using h42
                have HS := Lib.hid (hh.out.trans (shut_on s k (by omega) (fun ⟨_, h, _⟩ => h42 (v1.1 h))))
                clear v1 v2 h42
                go_wp2
                go_round
                case rel => exact ⟨k + 1, by omega, by go_num, HS⟩
                case measure => simp [intOf]; omega
            · have HS := Lib.hid (hh.out.trans (shut_end s k (by omega)))
              go_wp2
              go_ret
              exact ⟨ret_int (by rw [HS.out]), rfl⟩
        · have hc : cmt s.data.toList a = -1 := by
            unfold cmt
            rw [if_neg (fun h => by obtain ⟨_, _, h3⟩ := p47.1 h; exact hl (u2.1 h3)), if_neg (fun h => by obtain ⟨_, _, h3⟩ := p42.1 h; exact hb (u3.1 h3))]
          have HR := Lib.hid hc
          have gl : (((s[a + 1]'hq).toNat : Int) == 47) = false := by simpa using hl
          have gb : (((s[a + 1]'hq).toNat : Int) == 42) = false := by simpa using hb
          have ga : ((s[a].toNat : Int) != 47) = false := by simpa using h47
          clear hc p47 p42 u1 u2 u3 hl h47 hb
          go_enter Tryd.func21, Tryd.ntmps21
          go_wp2
          go_ret
          exact ⟨ret_int (by rw [HR.out]), rfl⟩
    · have hc : cmt s.data.toList a = -1 := by
        unfold cmt
        rw [if_neg (fun h => by obtain ⟨_, h3, _⟩ := p47.1 h; exact h47 (u1.1 h3)), if_neg (fun h => by obtain ⟨_, h3, _⟩ := p42.1 h; exact h47 (u1.1 h3))]
      have HR := Lib.hid hc
      have ga : ((s[a].toNat : Int) != 47) = true := by simpa using h47
      clear hc p47 p42 u1 u2 u3 h47
      go_enter Tryd.func21, Tryd.ntmps21
      go_wp2
      go_ret
      exact ⟨ret_int (by rw [HR.out]), rfl⟩
  · have hc : cmt s.data.toList a = -1 := by
      unfold cmt
      rw [if_neg (fun h => by obtain ⟨_, _⟩ := (pre2 s a 47 47).1 h; omega), if_neg (fun h => by obtain ⟨_, _⟩ := (pre2 s a 47 42).1 h; omega)]
    have HR := Lib.hid hc
    clear hc
    go_enter Tryd.func21, Tryd.ntmps21
    go_wp2
    go_ret
    exact ⟨ret_int (by rw [HR.out]), rfl⟩
end Go.Proofs.YtmpahpnacpfhoaaDoor
