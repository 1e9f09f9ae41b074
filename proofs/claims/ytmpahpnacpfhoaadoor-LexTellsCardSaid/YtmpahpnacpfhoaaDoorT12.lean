/- The document's own answer for a sign. -/
import Derived.Test.YtmpahpnacpfhoaaDoorT9
namespace Go.Proofs.YtmpahpnacpfhoaaDoor
open Go.RowKit
/-- The longest sign of at most k bytes. -/
def sf (l : Bs) : Nat → Int
  | 0 => 0
  | k + 1 => if k + 1 ≤ l.length ∧ isSignL (l.take (k + 1)) = true then ((k + 1 : Nat) : Int) else sf l k
theorem sf3 (l : Bs) : sf l 3 = signL l := by
  rw [← refSign_eq]; rfl
theorem sf_hit {l : Bs} {k : Nat} (h : k + 1 ≤ l.length) (hs : isSignL (l.take (k + 1)) = true) : sf l (k + 1) = ((k + 1 : Nat) : Int) := by rw [sf, if_pos ⟨h, hs⟩]
theorem sf_no {l : Bs} {k : Nat} (hs : isSignL (l.take (k + 1)) = false) : sf l (k + 1) = sf l k := by rw [sf, if_neg (by rw [hs]; simp)]
theorem sf_out {l : Bs} {k : Nat} (h : ¬ k + 1 ≤ l.length) : sf l (k + 1) = sf l k := by rw [sf, if_neg (fun h1 => h h1.1)]

set_option maxHeartbeats 2000000 in
theorem rTokSign (s : ByteArray) (a : Nat) (ha : a < s.size) (w : World) (hs : s.size ≤ 20000) (hl : letterB s[a] = false) (hd : digitB s[a] = false) (hq : ¬ (s[a].toNat : Int) = 39) :
    Calls Tryd.prog 22 #[.string s, .int .i64 a] w fun e w' => TokEnd (readL (s.data.toList.drop a)) a e ∧ Below w.heap.size w w' := by
  have hb0 : ¬ byteL (s.data.toList.drop a) 0 = 39 := by have := byteL_drop s a 0 ha; simp only [Nat.add_zero] at this; omega
  have hV : readL (s.data.toList.drop a) = sgnL (s.data.toList.drop a) := by unfold readL; rw [getD_drop s a ha, hl, if_neg (by simp), hd, if_neg (by simp), if_neg hb0]
  rw [hV]
  have hS0 := (sf3 (s.data.toList.drop a)).symm
  have hlen : (s.data.toList.drop a).length = s.size - a := by rw [List.length_drop, ← Lib.size_eq]
  obtain ⟨G, hG⟩ : ∃ G, G = signL (s.data.toList.drop a) := ⟨_, rfl⟩
  have hR : sgnL (s.data.toList.drop a) = if G = 0 then (zeroTok, 0, 14) else (⟨4, (s.data.toList.drop a).take G.toNat, 0, false⟩, G.toNat, 0) := by rw [hG]; rfl
  obtain ⟨R, hRR⟩ : ∃ R, R = sgnL (s.data.toList.drop a) := ⟨_, rfl⟩
  rw [← hRR] at hR ⊢
  have HR := Lib.hid hR
  rw [← hG] at hS0
  have HS0 := Lib.hid hS0
  have HN := Lib.hid hlen
  have i1 : (a : Int) < s.size := by omega
  have gq : ((s[a].toNat : Int) == 39) = false := by simpa using hq
  clear hV hb0 hq hR hRR hG hS0 hlen
  go_enter Tryd.func22, Tryd.ntmps22
  go_wp2_with (first | (go_at_call 34; refine (rLetter_any _ _).mono ?_; rintro e w' ⟨rfl, rfl⟩) | (go_at_call 37; refine (rDigit_any _ _).mono ?_; rintro e w' ⟨rfl, rfl⟩))
  go_loop [17] (fun i => ∃ k : Nat, k ≤ 3 ∧ i = .int .i64 k ∧ Hid (G = sf (s.data.toList.drop a) k)) (fun i => (intOf i).toNat)
  case atStart => exact ⟨3, by omega, rfl, HS0⟩
  case round =>
    obtain ⟨k, hk, rfl, hh⟩ := hrel
    cases k with
    | zero =>
      have HG : Hid (R = (zeroTok, 0, 14)) := Lib.hid (by have h00 : G = 0 := hh.out; rw [HR.out, if_pos h00])
      clear hh HS0
      go_wp2
      exact bodyPost_ret (v := .tuple #[.agg #[.int .i64 0, .int .i64 a, .string ⟨#[]⟩, .int .u32 0, .bool false], .int .i64 a, .int .i64 14]) (by simp [results, Tryd.results22, go_sem]) rfl ⟨⟨zeroTok, a, by rw [HG.out]; rfl, fun h => by rw [HG.out] at h; simp at h⟩, below_two _ _ _⟩
    | succ k =>
      by_cases hfit : a + (k + 1) ≤ s.size
      · have hx := ext_at s a (k + 1) hfit
        have hsg := rSign_any (s.extract a (a + (k + 1)))
        have hxl : (s.extract a (a + (k + 1))).data.toList = (s.data.toList.drop a).take (k + 1) := by rw [hx]
        rw [hxl] at hsg
        have j0 : (0 : Int) ≤ a := by omega
        cases hsign : isSignL ((s.data.toList.drop a).take (k + 1)) with
        | true =>
          rw [hsign] at hsg
          have hg := hh.out.trans (sf_hit (by rw [HN.out]; omega) hsign)
          have HG : Hid (R = (⟨4, (s.data.toList.drop a).take (k + 1), 0, false⟩, k + 1, 0)) := Lib.hid (by rw [HR.out, if_neg (by omega), hg, Int.toNat_natCast])
          have HX := Lib.hid hx
          have HC := Lib.hid hsg
          clear hh HS0 hsg hx hxl hsign hg
          go_wp2_with (first | (go_at_call 40; refine (HC.out _).mono ?_; rintro e w' ⟨rfl, rfl⟩))
          exact bodyPost_ret (v := .tuple #[.agg #[.int .i64 4, .int .i64 a, .string (s.extract a (a + (k + 1))), .int .u32 0, .bool false], .int .i64 (a + (k + 1)), .int .i64 0]) (by simp [results, Tryd.results22, go_sem]) rfl ⟨⟨⟨4, (s.data.toList.drop a).take (k + 1), 0, false⟩, a + (k + 1), by rw [HG.out, HX.out]; rfl, fun _ => by rw [HG.out]; exact ⟨rfl, by simp only []; omega⟩⟩, below_two _ _ _⟩
        | false =>
          rw [hsign] at hsg
          have HG := Lib.hid (hh.out.trans (sf_no hsign))
          have HC := Lib.hid hsg
          clear hh HS0 hsg hx hxl hsign
          go_wp2_with (first | (go_at_call 40; refine (HC.out _).mono ?_; rintro e w' ⟨rfl, rfl⟩))
          go_round
          case rel => exact ⟨k, by omega, by first | rfl | go_num, HG⟩
          case measure => simp [intOf] <;> omega
      · have HG := Lib.hid (hh.out.trans (sf_out (by rw [HN.out]; omega)))
        clear hh HS0
        go_wp2
        go_round
        case rel => exact ⟨k, by omega, by first | rfl | go_num, HG⟩
        case measure => simp [intOf] <;> omega
end Go.Proofs.YtmpahpnacpfhoaaDoor
