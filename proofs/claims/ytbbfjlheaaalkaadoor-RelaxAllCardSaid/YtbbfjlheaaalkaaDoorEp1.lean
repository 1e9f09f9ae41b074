/- The program's Encode, Decode, Follows: what each returns, where the table of forms lies as the program lays it. -/
import Derived.Test.YtbbfjlheaaalkaaDoorEp0
import Derived.Test.YtbbfjlheaaalkaaDoorEe0
import Derived.Deep.RegionHeld3
import Derived.Deep.DeepCutAuto
namespace Go.Proofs.YtbbfjlheaaalkaaDoor.Enc
open Go.RowKit
theorem wrong_no {c : PC} (h : isOp c.op = false) : wrongP c = 160 := by unfold wrongP; rw [h]; rfl
theorem wrong_bad {c : PC} (h : isOp c.op = true) (h2 : mayP c = false) : wrongP c = 161 := by unfold wrongP; rw [h, h2]; rfl
theorem wrong_ok {c : PC} (h : isOp c.op = true) (h2 : mayP c = true) : wrongP c = 0 := by unfold wrongP; rw [h, h2]; rfl
def WrongPost (c : PC) (w : World) (e : Ending) (w' : World) : Prop := e = .returned (.int .i64 (wrongP c)) ∧ Below w.heap.size w w'
theorem WrongPost.mk {c : PC} {w w' : World} {n : Int} (h : wrongP c = n) (hb : Below w.heap.size w w') : WrongPost c w (.returned (.int .i64 n)) w' := by
  unfold WrongPost; rw [h]; exact ⟨rfl, hb⟩
set_option maxHeartbeats 4000000 in
theorem wrong_any (c : PC) (w : World) (hF : FormsAt w) : Calls Tryd.prog 58 #[cV c] w (WrongPost c w) := by
  by_cases ho : isOp c.op = true
  case neg =>
    have ho2 : isOp c.op = false := by simpa using ho
    have HE := Lib.hid (wrong_no ho2)
    have h : c.op < 1 ∨ 48 < c.op := by simp [isOp] at ho2; omega
    clear ho ho2 hF
    obtain ⟨op, a, b, i⟩ := c
    simp only at h
    unfold cV
    rcases h with h | h
    all_goals
      go_enter Tryd.func58, Tryd.ntmps58
      go_wp2
      go_ret
      exact WrongPost.mk HE.out (below_one _ _)
  have h : 1 ≤ c.op ∧ c.op ≤ 48 := by simpa [isOp] using ho
  have hm := may_hold h.1 h.2
  have HC := Lib.hid (hF.cell (by omega : 0 ≤ c.op) (by omega))
  have hr := form_range c.op h.1 h.2
  have hp := hF.pos
  have HFD := Lib.hid (fun w => fieldsOf_any (formP c.op) hr w)
  have HHD := Lib.hid (fun w => hold_any (fieldsP (formP c.op)) c w)
  clear hF hr
  rw [← hm] at HHD
  clear hm
  have HW := Lib.hid (fun h2 => wrong_bad ho (c := c) h2)
  have HV := Lib.hid (fun h2 => wrong_ok ho (c := c) h2)
  clear ho
  obtain ⟨op, a, b, i⟩ := c
  simp only at h HC HFD HHD
  obtain ⟨h1, h2⟩ := h
  unfold cV at HHD ⊢
  generalize hq : mayP ⟨op, a, b, i⟩ = q at HHD HW HV
  clear hq
  obtain ⟨k, rfl⟩ : ∃ k : Nat, op = (k : Int) := ⟨op.toNat, by omega⟩
  have hk : k < 49 := by omega
  have i0 : (0 : Int) ≤ k := by omega
  have i1 : (k : Int) < 49 := by omega
  rw [Int.toNat_natCast] at HC
  go_enter Tryd.func58, Tryd.ntmps58
  go_wp2
  have hc := HC.out
  go_region_held3 (fun w' => w'.cell? ⟨w.heap.size, 0, none⟩ = some (.int .i64 (k : Int)) ∧ w'.cell? ⟨w.heap.size, 1, none⟩ = some (.int .i64 a) ∧ w'.cell? ⟨w.heap.size, 2, none⟩ = some (.int .i64 b) ∧ w'.cell? ⟨w.heap.size, 3, none⟩ = some (.int .i64 i) ∧ w'.cell? ⟨0, k, none⟩ = some (.int .i64 (formP (k : Int)))) (go_keep)
    (first
      | (go_at_call 60; refine (HFD.out _).mono ?_; rintro e w2 ⟨rfl, hb2⟩; have H2 := Lib.hid hb2; have c0 := hb2.cell (p := ⟨w.heap.size, 0, none⟩) (by simp); have c1 := hb2.cell (p := ⟨w.heap.size, 1, none⟩) (by simp); have c2 := hb2.cell (p := ⟨w.heap.size, 2, none⟩) (by simp); have c3 := hb2.cell (p := ⟨w.heap.size, 3, none⟩) (by simp); have c4 := hb2.cell (p := ⟨0, k, none⟩) (by simp); have hz2 : w.heap.size < w2.heap.size := (by have := hb2.size; simp at this; omega); have hy2 : 0 < w2.heap.size := (by omega); clear hb2)
      | (go_at_call 61; refine (HHD.out _).mono ?_; rintro e w3 ⟨rfl, hb3⟩; have H3 := Lib.hid hb3; have d0 := hb3.cell (p := ⟨w.heap.size, 0, none⟩) hz2; have d1 := hb3.cell (p := ⟨w.heap.size, 1, none⟩) hz2; have d2 := hb3.cell (p := ⟨w.heap.size, 2, none⟩) hz2; have d3 := hb3.cell (p := ⟨w.heap.size, 3, none⟩) hz2; have d4 := hb3.cell (p := ⟨0, k, none⟩) hy2; clear hb3))
  cases q with
  | false =>
    go_wp2
    go_ret
    exact WrongPost.mk (by first | exact HW.out rfl | exact HW.out trivial) (bt ((below_one w _).drew) (bt H2.out H3.out))
  | true =>
    go_wp2
    go_ret
    exact WrongPost.mk (by first | exact HV.out rfl | exact HV.out trivial) (bt ((below_one w _).drew) (bt H2.out H3.out))
theorem wrong_at {c : PC} {n : Int} (h : wrongP c = n) (w : World) (hF : FormsAt w) : Calls Tryd.prog 58 #[cV c] w fun e w' => e = .returned (.int .i64 n) ∧ Below w.heap.size w w' :=
  (wrong_any c w hF).mono fun e w' ⟨h1, h2⟩ => ⟨by rw [h1, h], h2⟩
theorem or_word {a b : Int} {k : Nat} (ha : 0 ≤ a) (hb : 0 ≤ b) (hk : b < (2 ^ k : Nat)) (hs : a * (2 ^ k : Nat) + b < 4294967296) : bits .or .u32 (a * (2 ^ k : Nat)) b = a * (2 ^ k : Nat) + b := by
  obtain ⟨m, rfl⟩ := Int.eq_ofNat_of_zero_le ha
  obtain ⟨n, rfl⟩ := Int.eq_ofNat_of_zero_le hb
  have h1 : n < 2 ^ k := by exact_mod_cast hk
  have h2 : m * 2 ^ k + n < 4294967296 := by
    rw [← Int.natCast_mul, ← Int.natCast_add] at hs
    omega
  have e := Nat.shiftLeft_add_eq_or_of_lt h1 m
  rw [Nat.shiftLeft_eq] at e
  rw [← Int.natCast_mul, u32_or_nat _ _ (by omega) (by omega), ← e, Int.natCast_add]
theorem word_or {o a b i : Int} (h1 : 0 ≤ o) (h2 : o ≤ 48) (h3 : 0 ≤ a) (h4 : a ≤ 15) (h5 : 0 ≤ b) (h6 : b ≤ 15) (h7 : 0 ≤ i) (h8 : i ≤ 65535) :
    bits .or .u32 (bits .or .u32 (bits .or .u32 (o * 16777216) (a * 1048576)) (b * 65536)) i = o * 16777216 + a * 1048576 + b * 65536 + i := by
  have e1 := or_word (a := o) (b := a * 1048576) (k := 24) h1 (by omega) (by simp; omega) (by simp; omega)
  simp only [show (2 ^ 24 : Nat) = 16777216 from rfl] at e1
  have e2 := or_word (a := o * 16 + a) (b := b * 65536) (k := 20) (by omega) (by omega) (by simp; omega) (by simp; omega)
  simp only [show (2 ^ 20 : Nat) = 1048576 from rfl] at e2
  have e3 := or_word (a := o * 256 + a * 16 + b) (b := i) (k := 16) (by omega) (by omega) (by simp; omega) (by simp; omega)
  simp only [show (2 ^ 16 : Nat) = 65536 from rfl] at e3
  rw [show (o : Int) * 16777216 = o * (16777216 : Nat) from rfl, e1, show o * ((16777216 : Nat) : Int) + a * 1048576 = (o * 16 + a) * (1048576 : Nat) by omega, e2,
    show (o * 16 + a) * ((1048576 : Nat) : Int) + b * 65536 = (o * 256 + a * 16 + b) * (65536 : Nat) by omega, e3]
  first | done | omega
theorem low_up {i : Int} (h7 : -32768 ≤ i) (h8 : i ≤ 32767) : IntKind.u16.wrap i % 4294967296 = up i := by
  rw [IntKind.wrap_u16]; unfold up; split <;> omega
set_option maxHeartbeats 4000000 in
theorem enc_any (c : PC) (w : World) (hF : FormsAt w) : Calls Tryd.prog 54 #[cV c] w (EncPost c w) := by
  have HF := Lib.hid hF
  clear hF
  by_cases ho : isOp c.op = true
  case neg =>
    have ho2 : isOp c.op = false := by simpa using ho
    have HE := Lib.hid (encP_no ho2)
    have HW := Lib.hid (wrong_at (wrong_no ho2))
    clear ho ho2
    obtain ⟨op, a, b, i⟩ := c
    unfold cV at HW ⊢
    go_enter Tryd.func54, Tryd.ntmps54
    go_wp2_with (go_at_call 58; refine (HW.out _ (HF.out.alloc _)).mono ?_; rintro e w2 ⟨rfl, hb⟩)
    go_ret2
    exact EncPost.mk HE.out (bt (below_one _ _) hb)
  by_cases hm : mayP c = true
  case neg =>
    have hm2 : mayP c = false := by simpa using hm
    have HE := Lib.hid (encP_not ho hm2)
    have HW := Lib.hid (wrong_at (wrong_bad ho hm2))
    clear ho hm hm2
    obtain ⟨op, a, b, i⟩ := c
    unfold cV at HW ⊢
    go_enter Tryd.func54, Tryd.ntmps54
    go_wp2_with (go_at_call 58; refine (HW.out _ (HF.out.alloc _)).mono ?_; rintro e w2 ⟨rfl, hb⟩)
    go_ret2
    exact EncPost.mk HE.out (bt (below_one _ _) hb)
  have HE := Lib.hid (encP_yes hm)
  have HW := Lib.hid (wrong_at (wrong_ok ho hm))
  have hw := within hm
  clear ho hm
  obtain ⟨op, a, b, i⟩ := c
  obtain ⟨⟨h1, h2⟩, ⟨h3, h4⟩, ⟨h5, h6⟩, ⟨h7, h8⟩⟩ := hw
  simp only at h1 h2 h3 h4 h5 h6 h7 h8
  unfold cV at HW ⊢
  go_enter Tryd.func54, Tryd.ntmps54
  go_wp2_with (go_at_call 58; refine (HW.out _ (HF.out.alloc _)).mono ?_; rintro e w2 ⟨rfl, hb⟩; have H2 := Lib.hid hb; have c0 := hb.cell (p := ⟨w.heap.size, 0, none⟩) (by simp); have c1 := hb.cell (p := ⟨w.heap.size, 1, none⟩) (by simp); have c2 := hb.cell (p := ⟨w.heap.size, 2, none⟩) (by simp); have c3 := hb.cell (p := ⟨w.heap.size, 3, none⟩) (by simp); clear hb)
  go_ret2
  refine EncPost.mk ?_ (bt (below_one _ _) H2.out)
  rw [HE.out]
  have hu := up_range (n := i) ⟨h7, h8⟩
  have e := word_or (o := op) (a := a) (b := b) (i := up i) (by omega) h2 h3 (by omega) h5 (by omega) hu.1 hu.2
  rw [← low_up h7 h8] at e
  refine Prod.ext (Eq.trans ?_ e.symm) rfl
  rw [low_up h7 h8]
  rfl
theorem and15 {x : Int} (h : 0 ≤ x) (h2 : x < 4294967296) : bits .and .u32 x 15 = x % 16 := by
  obtain ⟨m, rfl⟩ := Int.eq_ofNat_of_zero_le h
  have := u32_and_nat m 15 (by omega) (by omega)
  rw [show ((15 : Nat) : Int) = 15 from rfl] at this
  rw [this, show 15 = 2 ^ 4 - 1 from rfl, Nat.and_two_pow_sub_one_eq_mod]
  rfl
/-- The number that a field's 16 bits are, read signed. -/
def sgn (x : Int) : Int := if 32768 ≤ x % 65536 then x % 65536 - 65536 else x % 65536
theorem low_sgn {x : Int} : IntKind.i16.wrap x = sgn x := by
  unfold sgn
  simp [IntKind.wrap, IntKind.bits, IntKind.signed]
theorem sgn_range (x : Int) : -32768 ≤ sgn x ∧ sgn x ≤ 32767 := by unfold sgn; split <;> omega
theorem dec_wrong (x : Int) : decP x = if wrongP ⟨x / 16777216, x / 1048576 % 16, x / 65536 % 16, sgn x⟩ = 0 then (⟨x / 16777216, x / 1048576 % 16, x / 65536 % 16, sgn x⟩, 0) else (noC, wrongP ⟨x / 16777216, x / 1048576 % 16, x / 65536 % 16, sgn x⟩) := by
  by_cases ho : isOp (x / 16777216) = true
  case neg =>
    have ho : isOp (x / 16777216) = false := by simpa using ho
    rw [decP_no ho, wrong_no ho]; rfl
  by_cases h3 : 32768 ≤ x % 65536
  · have e : sgn x = x % 65536 - 65536 := by unfold sgn; rw [if_pos h3]
    have hn : mayP (cutP x) = false := not_may (c := cutP x) h3
    rw [e]
    cases hd : mayP ⟨x / 16777216, x / 1048576 % 16, x / 65536 % 16, x % 65536 - 65536⟩ with
    | true => rw [decP_neg ho hn h3 hd, wrong_ok ho hd]; rfl
    | false => rw [decP_not ho hn h3 hd, wrong_bad ho hd]; rfl
  · have e : sgn x = x % 65536 := by unfold sgn; rw [if_neg h3]
    rw [e]
    cases hd : mayP ⟨x / 16777216, x / 1048576 % 16, x / 65536 % 16, x % 65536⟩ with
    | true => rw [decP_yes ho hd, wrong_ok ho hd]; rfl
    | false => rw [decP_not2 ho hd (by omega), wrong_bad ho hd]; rfl
theorem wrong_three (c : PC) : wrongP c = 0 ∨ wrongP c = 160 ∨ wrongP c = 161 := by
  unfold wrongP; split <;> (try split) <;> simp
end Go.Proofs.YtbbfjlheaaalkaaDoor.Enc
