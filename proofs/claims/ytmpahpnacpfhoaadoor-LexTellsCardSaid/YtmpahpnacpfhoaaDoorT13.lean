/- The document's own answer for one token. -/
import Derived.Test.YtmpahpnacpfhoaaDoorT11
import Derived.Test.YtmpahpnacpfhoaaDoorT12
namespace Go.Proofs.YtmpahpnacpfhoaaDoor
open Go.RowKit

set_option maxHeartbeats 1000000 in
theorem rTokNum (s : ByteArray) (a : Nat) (ha : a < s.size) (w : World) (hs : s.size ≤ 20000) (hl : letterB s[a] = false) (hd : digitB s[a] = true) :
    Calls Tryd.prog 22 #[.string s, .int .i64 a] w fun e w' => TokEnd (readL (s.data.toList.drop a)) a e ∧ Below w.heap.size w w' := by
  have hle := run_at_le s a (by omega)
  have hrn := fun w => rRun_any s a (by omega) w hs
  have hpos : 0 < runLen (s.data.toList.drop a) := by
    rw [drop_cons s a ha]; exact runL_pos (by simp [wordB, hd])
  have hx := ext_at s a (runLen (s.data.toList.drop a)) hle
  have hV : readL (s.data.toList.drop a) = nmbL (s.data.toList.drop a) := by unfold readL; rw [getD_drop s a ha, hl, if_neg (by simp), hd, if_pos rfl]
  rw [hV]
  obtain ⟨R, hR⟩ : ∃ R, R = nmbL (s.data.toList.drop a) := ⟨_, rfl⟩
  rw [← hR]
  have hxl : (s.extract a (a + runLen (s.data.toList.drop a))).data.toList = (s.data.toList.drop a).take (runLen (s.data.toList.drop a)) := by rw [hx]
  have hxs : (s.extract a (a + runLen (s.data.toList.drop a))).size = runLen (s.data.toList.drop a) := by rw [ByteArray.size_extract]; omega
  have hx0 : (s.extract a (a + runLen (s.data.toList.drop a)))[0]'(by rw [hxs]; exact hpos) = s[a] := by
    have h1 := Lib.data_getElem? (s.extract a (a + runLen (s.data.toList.drop a))) 0 (by rw [hxs]; exact hpos)
    have h2 := Lib.data_getElem? s a ha
    rw [hxl, List.getElem?_take, if_pos hpos, List.getElem?_drop, Nat.add_zero, h2] at h1
    exact (Option.some.inj h1).symm
  have hnum := rNum_any (s.extract a (a + runLen (s.data.toList.drop a))) (by rw [hxs]; exact hpos) (by rw [hx0]; exact hd)
  rw [hxl] at hnum
  have hnum' := fun w => hnum w (by rw [hxs]; omega)
  unfold nmbL at hR
  clear hV hxl hx0 hxs hnum hx
  generalize runLen (s.data.toList.drop a) = n at *
  generalize (s.data.toList.drop a).take n = X at *
  have i1 : (a : Int) < s.size := by omega
  have i2 : (a : Int) + n ≤ s.size := by omega
  have HR := Lib.hid hrn
  clear hrn
  cases hq : numL X with
  | none =>
    rw [hq] at hR hnum'
    have HV := Lib.hid hR
    have HC := Lib.hid hnum'
    clear hR hnum' hq
    go_enter Tryd.func22, Tryd.ntmps22
    go_wp2_with (first | (go_at_call 34; refine (rLetter_any _ _).mono ?_; rintro e w' ⟨rfl, rfl⟩) | (go_at_call 37; refine (rDigit_any _ _).mono ?_; rintro e w' ⟨rfl, rfl⟩) | (go_at_call 35; refine (HR.out _).mono ?_; rintro e w' ⟨rfl, rfl⟩) | (go_at_call 38; refine (HC.out _).mono ?_; rintro e w' ⟨rfl, rfl⟩; unfold numTup))
    exact bodyPost_ret (v := .tuple #[.agg #[.int .i64 2, .int .i64 a, .string ⟨#[]⟩, .int .u32 0, .bool false], .int .i64 (a + n), .int .i64 11]) (by simp [results, Tryd.results22, go_sem]) rfl ⟨⟨⟨2, [], 0, false⟩, a + n, by rw [HV.out]; rfl, fun h => by rw [HV.out] at h; simp at h⟩, below_two _ _ _⟩
  | some r =>
    obtain ⟨x, u⟩ := r
    rw [hq] at hR hnum'
    have HV := Lib.hid hR
    have HC := Lib.hid hnum'
    clear hR hnum' hq
    go_enter Tryd.func22, Tryd.ntmps22
    go_wp2_with (first | (go_at_call 34; refine (rLetter_any _ _).mono ?_; rintro e w' ⟨rfl, rfl⟩) | (go_at_call 37; refine (rDigit_any _ _).mono ?_; rintro e w' ⟨rfl, rfl⟩) | (go_at_call 35; refine (HR.out _).mono ?_; rintro e w' ⟨rfl, rfl⟩) | (go_at_call 38; refine (HC.out _).mono ?_; rintro e w' ⟨rfl, rfl⟩; unfold numTup))
    exact bodyPost_ret (v := .tuple #[.agg #[.int .i64 2, .int .i64 a, .string ⟨#[]⟩, .int .u32 x, .bool u], .int .i64 (a + n), .int .i64 0]) (by simp [results, Tryd.results22, go_sem]) rfl ⟨⟨⟨2, [], x, u⟩, a + n, by rw [HV.out]; rfl, fun _ => by rw [HV.out]; exact ⟨rfl, rfl⟩⟩, below_two _ _ _⟩

theorem rTok_any (s : ByteArray) (a : Nat) (ha : a < s.size) (w : World) (hs : s.size ≤ 20000) :
    Calls Tryd.prog 22 #[.string s, .int .i64 a] w fun e w' => TokEnd (readL (s.data.toList.drop a)) a e ∧ Below w.heap.size w w' := by
  cases hl : letterB s[a] with
  | true => exact rTokName s a ha w hs hl
  | false =>
    cases hd : digitB s[a] with
    | true => exact rTokNum s a ha w hs hl hd
    | false =>
      by_cases hq : (s[a].toNat : Int) = 39
      · exact rTokChar s a ha w hs hl hd hq
      · exact rTokSign s a ha w hs hl hd hq
end Go.Proofs.YtmpahpnacpfhoaaDoor
