/- The law's data: a word of this kind and this number. No condition. -/
import Derived.Test.YtmnhafncdblklaaDoorQh
namespace Go.Proofs.YtmnhafncdblklaaDoor.Relax
open Go.RowKit Go.Proofs.YtmnhafncdblklaaDoor.Enc Go.Proofs.YtmnhafncdblklaaDoor.Graph

set_option maxHeartbeats 8000000 in
set_option maxRecDepth 100000 in
theorem data_any (a : Asm) (vw vk vp : Value) (w : World) (ha : AsmR w a vw vk vp) (t : Nat) (x k : Int)
    (hx : a.words[t]? = some x) (hk : a.kinds[t]? = some k) (hr : 0 ≤ x ∧ x ≤ 4294967295) :
    Calls Tryd.prog 38 #[asmV a vw vk vp, .int .i64 t, .int .i64 k, .int .i64 x] w (Is (.bool true) w) := by
  obtain ⟨pw, cw, rfl⟩ := ha.words.form
  obtain ⟨pk, ck, rfl⟩ := ha.kinds.form
  obtain ⟨pp, cp, rfl⟩ := ha.places.form
  have htw : t < a.words.length := (List.getElem?_eq_some_iff.1 hx).1
  have htk : t < a.kinds.length := (List.getElem?_eq_some_iff.1 hk).1
  obtain ⟨b1, o1, x', rfl, hx', hl1, e1, hcw, _⟩ := words_pt ha.words htw
  obtain rfl : x = x' := by rw [hx] at hx'; simpa using hx'
  obtain ⟨b2, o2, y', rfl, hy', hl2, e2, hck, _⟩ := ints_pt ha.kinds htk
  obtain rfl : k = y' := by rw [hk] at hy'; simpa using hy'
  have m1 := sl_len ha.words
  have m2 := sl_len ha.kinds
  unfold asmV
  obtain ⟨nw, hnw⟩ : ∃ n, n = a.words.length := ⟨_, rfl⟩
  obtain ⟨nk, hnk⟩ : ∃ n, n = a.kinds.length := ⟨_, rfl⟩
  obtain ⟨np, hnp⟩ : ∃ n, n = a.places.length := ⟨_, rfl⟩
  obtain ⟨rd, hrd⟩ : ∃ r, r = a.rounds := ⟨_, rfl⟩
  rw [← hnw] at htw m1 hcw
  rw [← hnk] at htk m2 hck
  rw [← hnw, ← hnk, ← hnp, ← hrd]
  have i0 : (0 : Int) ≤ t := by omega
  have i1 : (t : Int) < nw := by omega
  have i2 : (t : Int) < nk := by omega
  have i3 : (nw : Int) ≤ 9223372036854775807 := by omega
  have i4 : (nk : Int) ≤ 9223372036854775807 := by omega
  have i5 := hr.1
  have hwr : IntKind.u32.wrap x = x := by
    obtain ⟨m, rfl⟩ := Int.eq_ofNat_of_zero_le hr.1
    exact wrap32 m (by omega)
  clear ha hx hk hx' hy' hnw hnk hnp hrd hr
  go_enter Tryd.func38, Tryd.ntmps38
  go_wp2
  go_ret
  exact ⟨by simp [], below_one w _⟩
end Go.Proofs.YtmnhafncdblklaaDoor.Relax
