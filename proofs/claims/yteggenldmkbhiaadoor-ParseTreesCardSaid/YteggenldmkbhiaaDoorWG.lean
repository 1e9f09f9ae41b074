/- The parser's function that reads parameters. -/
import Derived.Test.YteggenldmkbhiaaDoorWF
import Derived.Test.YteggenldmkbhiaaDoorWE
namespace Go.Proofs.YteggenldmkbhiaaDoor.Parse
open Go.RowKit

set_option maxHeartbeats 4000000 in
set_option maxRecDepth 100000 in
theorem params_c {E : Env} (hE : E.ok) (he : endsOnce E.l = true) {f : Nat} (IH : ∀ f', f' ≤ f → Cs E f') : CL E 48 #[ptr E] .params {} (f + 1) := by
  refine CL.mk hE he fun X w s R M => ?_
  have HM0 := Lib.hid M
  have HI := Lib.hid IH
  have hlast := endsOnce_last he
  have hl := hE.2.2.1
  have hp := M.pos
  have HE := Lib.hid hE
  clear M IH he hE
  have hf0 := field0
  have hf1 := field1
  unfold ptr
  go_enter Tryd.func48, Tryd.ntmps48
  go_wp2_with fail
  refine (Mid.seesB (HM0.out)).mono ?_
  rintro e w1 (⟨rfl, hb1, M1⟩ | ⟨rfl, hb1, M1⟩)
  · have HM1 := Lib.hid M1
    clear M1 hb1
    go_wp2
    go_ret
    exact (HM1.out).postL rfl
  have HM1 := Lib.hid M1
  clear M1 hb1
  cases hv : isT (tokAt E.l s.pos) 3 [118, 111, 105, 100] with
  | false =>
    have HM4 := Lib.hid (Mid.sees_no (HM1.out) hv)
    have hs := Mid.sees HM4.out.drew 3 [118, 111, 105, 100]
    rw [hv] at hs
    have HS := Lib.hid hs
    clear hs hv hlast
    go_wp2
    refine wp_region_any (by kernel_rfl) ?_
    refine wpAny_take (i := 0) (v := .pointer (some ⟨E.g, 0, none⟩)) rfl (by kernel_rfl) (by kernel_rfl) (by kernel_rfl) (fun _ _ _ h => h) (Or.inl ⟨by kernel_rfl, fun w => by go_simp⟩) ?_
    refine wpAny_ready (rs := [1]) (by kernel_rfl) (by simp) ?_
    refine AllReady.cons rfl (fun K hK => ?_) AllReady.nil
    rw [if_pos (by kernel_rfl)]
    go_simp
    refine (HS.out).mono ?_
    rintro e w5 ⟨rfl, M5⟩
    refine hK _ _ ?_
    clear hK
    refine wpAny_take (i := 2) (v := .bool false) rfl (by kernel_rfl) (by kernel_rfl) (by kernel_rfl) (fun _ _ _ h => h) (Or.inl ⟨by kernel_rfl, fun w => by go_simp⟩) ?_
    refine wpAny_take (i := 3) (v := undef) rfl (by kernel_rfl) (by kernel_rfl) (by kernel_rfl) (fun _ _ _ h => h) (Or.inr ⟨by kernel_rfl, rfl⟩) ?_
    refine wpAny_take (i := 4) (v := undef) rfl (by kernel_rfl) (by kernel_rfl) (by kernel_rfl) (fun _ _ _ h => h) (Or.inr ⟨by kernel_rfl, rfl⟩) ?_
    refine wpAny_take (i := 5) (v := undef) rfl (by kernel_rfl) (by kernel_rfl) (by kernel_rfl) (fun _ _ _ h => h) (Or.inr ⟨by kernel_rfl, rfl⟩) ?_
    refine wpAny_take (i := 6) (v := undef) rfl (by kernel_rfl) (by kernel_rfl) (by kernel_rfl) (fun _ _ _ h => h) (Or.inr ⟨by kernel_rfl, rfl⟩) ?_
    refine wpAny_take (i := 7) (v := undef) rfl (by kernel_rfl) (by kernel_rfl) (by kernel_rfl) (fun _ _ _ h => h) (Or.inr ⟨by kernel_rfl, rfl⟩) ?_
    refine wpAny_take (i := 8) (v := undef) rfl (by kernel_rfl) (by kernel_rfl) (by kernel_rfl) (fun _ _ _ h => h) (Or.inr ⟨by kernel_rfl, rfl⟩) ?_
    refine wpAny_take (i := 9) (v := undef) rfl (by kernel_rfl) (by kernel_rfl) (by kernel_rfl) (fun _ _ _ h => h) (Or.inr ⟨by kernel_rfl, rfl⟩) ?_
    refine wpAny_take (i := 10) (v := undef) rfl (by kernel_rfl) (by kernel_rfl) (by kernel_rfl) (fun _ _ _ h => h) (Or.inr ⟨by kernel_rfl, rfl⟩) ?_
    refine wpAny_take (i := 11) (v := undef) rfl (by kernel_rfl) (by kernel_rfl) (by kernel_rfl) (fun _ _ _ h => h) (Or.inr ⟨by kernel_rfl, rfl⟩) ?_
    refine wpAny_take (i := 12) (v := undef) rfl (by kernel_rfl) (by kernel_rfl) (by kernel_rfl) (fun _ _ _ h => h) (Or.inr ⟨by kernel_rfl, rfl⟩) ?_
    refine wpAny_take (i := 13) (v := undef) rfl (by kernel_rfl) (by kernel_rfl) (by kernel_rfl) (fun _ _ _ h => h) (Or.inr ⟨by kernel_rfl, rfl⟩) ?_
    refine wpAny_take (i := 14) (v := undef) rfl (by kernel_rfl) (by kernel_rfl) (by kernel_rfl) (fun _ _ _ h => h) (Or.inr ⟨by kernel_rfl, rfl⟩) ?_
    refine wpAny_take (i := 15) (v := .bool false) rfl (by kernel_rfl) (by kernel_rfl) (by kernel_rfl) (fun _ _ _ h => h) (Or.inl ⟨by kernel_rfl, fun w => by go_simp⟩) ?_
    refine wpAny_done (by kernel_rfl) ?_ _
    have HM5 := Lib.hid M5
    clear M5
    go_simp
    go_wp2_with fail
    refine (Mid.call (HM5.out) ((HI.out _ (Nat.le_refl _)).param) rfl (by simp [needs])).mono ?_
    rintro e w41 (⟨kb, hkb, rfl, hxb⟩ | ⟨k41, s41, rfl, M41⟩)
    · exact ⟨rfl, PostL.bad hkb hxb⟩
    have HM41 := Lib.hid M41
    clear M41
    obtain ⟨f1, hf, M2⟩ := ((HM41.out).kids1 k41).tail
    have HMS := Lib.hid M2
    have HF := Lib.hid hf
    clear M2 hf
    go_wp2
    go_loopg [3] f1 (fun f' v wr => ∃ (p : Option Addr) (n d : Nat) (ks : List Nat) (st : PS), v = .slice p n d ∧ Hid (f' ≤ f1 ∧ Mid E X (.slice p n d) ks w R f' 0 (code .paramsL) { ks := ks } st wr))
    case atStart => exact ⟨_, _, _, _, _, rfl, Lib.hid ⟨Nat.le_refl _, HMS.out⟩⟩
    case round =>
      obtain ⟨p0, n0, d0, ks0, s0, rfl, HR⟩ := hrel
      obtain ⟨hle, M⟩ := HR.out
      have HL := Lib.hid hle
      have HMR := Lib.hid M
      clear HR hle M HMS
      go_wp2_with fail
      refine (Mid.acceptB (HMR.out) (by decide)).mono ?_
      rintro e w61 (⟨rfl, hb61, M61⟩ | ⟨rfl, M61⟩)
      · have HM61 := Lib.hid M61
        clear M61
        have HB61 := Lib.hid hb61
        clear hb61
        go_wp2_with fail
        refine (Mid.call (HM61.out) ((HI.out _ (by have := HF.out; have := HL.out; omega)).param) rfl (by simp [needs])).mono ?_
        rintro e w62 (⟨kb, hkb, rfl, hxb⟩ | ⟨k62, s62, rfl, M62⟩)
        · exact ⟨rfl, PostL.bad hkb hxb⟩
        have HM62 := Lib.hid M62
        clear M62
        go_wp2_with (at_builtin; refine wpList_kids (by rfl) _ _ (by rfl) (HM62.out) (by rfl) k62 (by rfl) (by rfl) ?_; intro p63 n63 d63 w63 M63; have HM63 := Lib.hid M63; clear M63)
        obtain ⟨f2, hf2, MB⟩ := (HM63.out).tail
        have HMB := Lib.hid MB
        have HF2 := Lib.hid hf2
        clear MB hf2
        go_wp2
        go_roundg f2
        case rel => exact ⟨_, _, _, _, _, rfl, Lib.hid ⟨by have := HF2.out; have := HL.out; omega, HMB.out⟩⟩
        case measure => have := HF2.out; omega
      · have HM61 := Lib.hid M61
        clear M61
        go_wp2
        go_ret
        exact (HM61.out).postL rfl
  | true =>
    have H3 := Lib.hid (isT_kind hv)
    have h2 := next_lt hlast hp (by rw [H3.out]; decide)
    have HM4 := Lib.hid (Mid.sees_yes (HM1.out) hv)
    have hs := Mid.sees HM4.out.drew 3 [118, 111, 105, 100]
    rw [hv] at hs
    have HS := Lib.hid hs
    have his := fun w => is_any (tokAt E.l (s.pos + 1)) 4 [41] w
    have i0 : (0 : Int) ≤ s.pos := by omega
    have i1 : (s.pos : Int) + 1 < E.l.length := by omega
    have i2 : (s.pos : Int) ≤ 4000 := by omega
    have i4 : IntKind.i64.wrap ((s.pos : Int) + 1) = (s.pos : Int) + 1 := IntWalk.i64_in _ (by omega)
    have i5 : (0 : Int) ≤ (s.pos : Int) + 1 := by omega
    have i6 : ((s.pos : Int) + 1).toNat = s.pos + 1 := by omega
    have i7 : ¬ ((s.pos : Int) + 1 < 0) := by omega
    clear hs hv hlast
    cases hi : isT (tokAt E.l (s.pos + 1)) 4 [41] with
    | true =>
      rw [hi] at his
      have HIS := Lib.hid his
      have hc : (tokAt E.l (s.pos + 1)).kind = 4 ∧ (tokAt E.l (s.pos + 1)).text = [41] := by simpa only [isT, decide_eq_true_eq] using hi
      have HCN := Lib.hid hc
      clear hi his hc
      go_wp2
      refine wp_region_any (by kernel_rfl) ?_
      refine wpAny_take (i := 0) (v := .pointer (some ⟨E.g, 0, none⟩)) rfl (by kernel_rfl) (by kernel_rfl) (by kernel_rfl) (fun _ _ _ h => h) (Or.inl ⟨by kernel_rfl, fun w => by go_simp⟩) ?_
      refine wpAny_ready (rs := [1]) (by kernel_rfl) (by simp) ?_
      refine AllReady.cons rfl (fun K hK => ?_) AllReady.nil
      rw [if_pos (by kernel_rfl)]
      go_simp
      refine (HS.out).mono ?_
      rintro e w5 ⟨rfl, M5⟩
      refine hK _ _ ?_
      clear hK
      have HM5 := Lib.hid M5
      clear M5
      obtain ⟨v5, hv5⟩ := HM5.out.st
      obtain ⟨c0, c1, c2, f1, f2⟩ := hv5.cells
      obtain ⟨u0, u1, u2, u3, u4⟩ := hv5.2.1.1 (s.pos + 1) h2
      unfold tokV at c0
      clear hv5 c2 f1 f2
      refine wpAny_take (i := 2) (v := .bool true) rfl (by kernel_rfl) (by kernel_rfl) (by kernel_rfl) (fun _ _ _ h => h) (Or.inl ⟨by kernel_rfl, fun w => by go_simp⟩) ?_
      refine wpAny_take (i := 3) (v := .pointer (some ⟨E.g, 0, none⟩)) rfl (by kernel_rfl) (by kernel_rfl) (by kernel_rfl) (fun _ _ _ h => h) (Or.inl ⟨by kernel_rfl, fun w => by go_simp⟩) ?_
      refine wpAny_take (i := 4) (v := .pointer (some ⟨E.g, 0, none⟩)) rfl (by kernel_rfl) (by kernel_rfl) (by kernel_rfl) (fun _ _ _ h => h) (Or.inl ⟨by kernel_rfl, fun w => by go_simp⟩) ?_
      refine wpAny_take (i := 5) (v := .pointer (some ⟨E.g, 0, none⟩)) rfl (by kernel_rfl) (by kernel_rfl) (by kernel_rfl) (fun _ _ _ h => h) (Or.inl ⟨by kernel_rfl, fun w => by go_simp⟩) ?_
      refine wpAny_take (i := 7) (v := .pointer (some ⟨E.g, 0, none⟩)) rfl (by kernel_rfl) (by kernel_rfl) (by kernel_rfl) (fun _ _ _ h => h) (Or.inl ⟨by kernel_rfl, fun w => by go_simp⟩) ?_
      refine wpAny_take (i := 8) (v := .pointer (some ⟨E.g, 0, none⟩)) rfl (by kernel_rfl) (by kernel_rfl) (by kernel_rfl) (fun _ _ _ h => h) (Or.inl ⟨by kernel_rfl, fun w => by go_simp⟩) ?_
      refine wpAny_take (i := 9) (v := .pointer (some ⟨E.g, 1, none⟩)) rfl (by kernel_rfl) (by kernel_rfl) (by kernel_rfl) (fun _ _ _ h => h) (Or.inl ⟨by kernel_rfl, fun w => by go_simp⟩) ?_
      refine wpAny_ready (rs := [6, 10]) (by kernel_rfl) (by simp) ?_
      refine AllReady.cons rfl (fun K hK => ?_) (AllReady.cons rfl (fun K hK => ?_) AllReady.nil)
      · rw [if_pos (by kernel_rfl)]
        go_simp
        refine hK _ _ ?_
        clear hK
        refine wpAny_ready (rs := [10]) (by kernel_rfl) (by simp) ?_
        refine AllReady.cons rfl (fun K hK => ?_) AllReady.nil
        rw [if_pos (by kernel_rfl)]
        go_simp
        refine hK _ _ ?_
        clear hK
        refine wpAny_take (i := 11) (v := .int .i64 ((s.pos : Int) + 1)) rfl (by kernel_rfl) (by kernel_rfl) (by kernel_rfl) (fun _ _ _ h => h) (Or.inl ⟨by kernel_rfl, fun w => by go_simp⟩) ?_
        refine wpAny_take (i := 12) (v := .pointer (some ⟨E.tb, (s.pos + 1) * 5, none⟩)) rfl (by kernel_rfl) (by kernel_rfl) (by kernel_rfl) (fun _ _ _ h => h) (Or.inl ⟨by kernel_rfl, fun w => by go_simp⟩) ?_
        refine wpAny_ready (rs := [13]) (by kernel_rfl) (by simp) ?_
        refine AllReady.cons rfl (fun K hK => ?_) AllReady.nil
        rw [if_pos (by kernel_rfl)]
        go_simp
        refine hK _ _ ?_
        clear hK
        refine wpAny_ready (rs := [14]) (by kernel_rfl) (by simp) ?_
        refine AllReady.cons rfl (fun K hK => ?_) AllReady.nil
        rw [if_pos (by kernel_rfl)]
        go_simp
        refine (HIS.out _).mono ?_
        rintro e w6 ⟨rfl, hb6⟩
        refine hK _ _ ?_
        clear hK
        refine wpAny_take (i := 15) (v := .bool true) rfl (by kernel_rfl) (by kernel_rfl) (by kernel_rfl) (fun _ _ _ h => h) (Or.inl ⟨by kernel_rfl, fun w => by go_simp⟩) ?_
        refine wpAny_done (by kernel_rfl) ?_ _
        have hlk := (HM5.out.below hb6).look
        rw [if_pos HCN.out] at hlk
        have HM6 := Lib.hid hlk
        clear hlk hb6 c0 c1 u0 u1 u2 u3 u4
        go_simp
        go_wp2_with fail
        refine (Mid.take (HM6.out) (by rw [H3.out]; decide)).mono ?_
        rintro e w81 ⟨rfl, M81⟩
        have HM81 := Lib.hid M81
        clear M81
        go_wp2
        go_ret
        exact (HM81.out).postL rfl
      · rw [if_pos (by kernel_rfl)]
        go_simp
        refine hK _ _ ?_
        clear hK
        refine wpAny_take (i := 11) (v := .int .i64 ((s.pos : Int) + 1)) rfl (by kernel_rfl) (by kernel_rfl) (by kernel_rfl) (fun _ _ _ h => h) (Or.inl ⟨by kernel_rfl, fun w => by go_simp⟩) ?_
        refine wpAny_ready (rs := [6]) (by kernel_rfl) (by simp) ?_
        refine AllReady.cons rfl (fun K hK => ?_) AllReady.nil
        rw [if_pos (by kernel_rfl)]
        go_simp
        refine hK _ _ ?_
        clear hK
        refine wpAny_take (i := 12) (v := .pointer (some ⟨E.tb, (s.pos + 1) * 5, none⟩)) rfl (by kernel_rfl) (by kernel_rfl) (by kernel_rfl) (fun _ _ _ h => h) (Or.inl ⟨by kernel_rfl, fun w => by go_simp⟩) ?_
        refine wpAny_ready (rs := [13]) (by kernel_rfl) (by simp) ?_
        refine AllReady.cons rfl (fun K hK => ?_) AllReady.nil
        rw [if_pos (by kernel_rfl)]
        go_simp
        refine hK _ _ ?_
        clear hK
        refine wpAny_ready (rs := [14]) (by kernel_rfl) (by simp) ?_
        refine AllReady.cons rfl (fun K hK => ?_) AllReady.nil
        rw [if_pos (by kernel_rfl)]
        go_simp
        refine (HIS.out _).mono ?_
        rintro e w6 ⟨rfl, hb6⟩
        refine hK _ _ ?_
        clear hK
        refine wpAny_take (i := 15) (v := .bool true) rfl (by kernel_rfl) (by kernel_rfl) (by kernel_rfl) (fun _ _ _ h => h) (Or.inl ⟨by kernel_rfl, fun w => by go_simp⟩) ?_
        refine wpAny_done (by kernel_rfl) ?_ _
        have hlk := (HM5.out.below hb6).look
        rw [if_pos HCN.out] at hlk
        have HM6 := Lib.hid hlk
        clear hlk hb6 c0 c1 u0 u1 u2 u3 u4
        go_simp
        go_wp2_with fail
        refine (Mid.take (HM6.out) (by rw [H3.out]; decide)).mono ?_
        rintro e w81 ⟨rfl, M81⟩
        have HM81 := Lib.hid M81
        clear M81
        go_wp2
        go_ret
        exact (HM81.out).postL rfl
    | false =>
      rw [hi] at his
      have HIS := Lib.hid his
      have hc : ¬ ((tokAt E.l (s.pos + 1)).kind = 4 ∧ (tokAt E.l (s.pos + 1)).text = [41]) := by simpa only [isT, decide_eq_false_iff_not] using hi
      have HCN := Lib.hid hc
      clear hi his hc
      go_wp2
      refine wp_region_any (by kernel_rfl) ?_
      refine wpAny_take (i := 0) (v := .pointer (some ⟨E.g, 0, none⟩)) rfl (by kernel_rfl) (by kernel_rfl) (by kernel_rfl) (fun _ _ _ h => h) (Or.inl ⟨by kernel_rfl, fun w => by go_simp⟩) ?_
      refine wpAny_ready (rs := [1]) (by kernel_rfl) (by simp) ?_
      refine AllReady.cons rfl (fun K hK => ?_) AllReady.nil
      rw [if_pos (by kernel_rfl)]
      go_simp
      refine (HS.out).mono ?_
      rintro e w5 ⟨rfl, M5⟩
      refine hK _ _ ?_
      clear hK
      have HM5 := Lib.hid M5
      clear M5
      obtain ⟨v5, hv5⟩ := HM5.out.st
      obtain ⟨c0, c1, c2, f1, f2⟩ := hv5.cells
      obtain ⟨u0, u1, u2, u3, u4⟩ := hv5.2.1.1 (s.pos + 1) h2
      unfold tokV at c0
      clear hv5 c2 f1 f2
      refine wpAny_take (i := 2) (v := .bool true) rfl (by kernel_rfl) (by kernel_rfl) (by kernel_rfl) (fun _ _ _ h => h) (Or.inl ⟨by kernel_rfl, fun w => by go_simp⟩) ?_
      refine wpAny_take (i := 3) (v := .pointer (some ⟨E.g, 0, none⟩)) rfl (by kernel_rfl) (by kernel_rfl) (by kernel_rfl) (fun _ _ _ h => h) (Or.inl ⟨by kernel_rfl, fun w => by go_simp⟩) ?_
      refine wpAny_take (i := 4) (v := .pointer (some ⟨E.g, 0, none⟩)) rfl (by kernel_rfl) (by kernel_rfl) (by kernel_rfl) (fun _ _ _ h => h) (Or.inl ⟨by kernel_rfl, fun w => by go_simp⟩) ?_
      refine wpAny_take (i := 5) (v := .pointer (some ⟨E.g, 0, none⟩)) rfl (by kernel_rfl) (by kernel_rfl) (by kernel_rfl) (fun _ _ _ h => h) (Or.inl ⟨by kernel_rfl, fun w => by go_simp⟩) ?_
      refine wpAny_take (i := 7) (v := .pointer (some ⟨E.g, 0, none⟩)) rfl (by kernel_rfl) (by kernel_rfl) (by kernel_rfl) (fun _ _ _ h => h) (Or.inl ⟨by kernel_rfl, fun w => by go_simp⟩) ?_
      refine wpAny_take (i := 8) (v := .pointer (some ⟨E.g, 0, none⟩)) rfl (by kernel_rfl) (by kernel_rfl) (by kernel_rfl) (fun _ _ _ h => h) (Or.inl ⟨by kernel_rfl, fun w => by go_simp⟩) ?_
      refine wpAny_take (i := 9) (v := .pointer (some ⟨E.g, 1, none⟩)) rfl (by kernel_rfl) (by kernel_rfl) (by kernel_rfl) (fun _ _ _ h => h) (Or.inl ⟨by kernel_rfl, fun w => by go_simp⟩) ?_
      refine wpAny_ready (rs := [6, 10]) (by kernel_rfl) (by simp) ?_
      refine AllReady.cons rfl (fun K hK => ?_) (AllReady.cons rfl (fun K hK => ?_) AllReady.nil)
      · rw [if_pos (by kernel_rfl)]
        go_simp
        refine hK _ _ ?_
        clear hK
        refine wpAny_ready (rs := [10]) (by kernel_rfl) (by simp) ?_
        refine AllReady.cons rfl (fun K hK => ?_) AllReady.nil
        rw [if_pos (by kernel_rfl)]
        go_simp
        refine hK _ _ ?_
        clear hK
        refine wpAny_take (i := 11) (v := .int .i64 ((s.pos : Int) + 1)) rfl (by kernel_rfl) (by kernel_rfl) (by kernel_rfl) (fun _ _ _ h => h) (Or.inl ⟨by kernel_rfl, fun w => by go_simp⟩) ?_
        refine wpAny_take (i := 12) (v := .pointer (some ⟨E.tb, (s.pos + 1) * 5, none⟩)) rfl (by kernel_rfl) (by kernel_rfl) (by kernel_rfl) (fun _ _ _ h => h) (Or.inl ⟨by kernel_rfl, fun w => by go_simp⟩) ?_
        refine wpAny_ready (rs := [13]) (by kernel_rfl) (by simp) ?_
        refine AllReady.cons rfl (fun K hK => ?_) AllReady.nil
        rw [if_pos (by kernel_rfl)]
        go_simp
        refine hK _ _ ?_
        clear hK
        refine wpAny_ready (rs := [14]) (by kernel_rfl) (by simp) ?_
        refine AllReady.cons rfl (fun K hK => ?_) AllReady.nil
        rw [if_pos (by kernel_rfl)]
        go_simp
        refine (HIS.out _).mono ?_
        rintro e w6 ⟨rfl, hb6⟩
        refine hK _ _ ?_
        clear hK
        refine wpAny_take (i := 15) (v := .bool false) rfl (by kernel_rfl) (by kernel_rfl) (by kernel_rfl) (fun _ _ _ h => h) (Or.inl ⟨by kernel_rfl, fun w => by go_simp⟩) ?_
        refine wpAny_done (by kernel_rfl) ?_ _
        have hlk := (HM5.out.below hb6).look
        rw [if_neg HCN.out] at hlk
        have HM6 := Lib.hid hlk
        clear hlk hb6 c0 c1 u0 u1 u2 u3 u4
        go_simp
        go_wp2_with fail
        refine (Mid.call (HM6.out) ((HI.out _ (Nat.le_refl _)).param) rfl (by simp [needs])).mono ?_
        rintro e w41 (⟨kb, hkb, rfl, hxb⟩ | ⟨k41, s41, rfl, M41⟩)
        · exact ⟨rfl, PostL.bad hkb hxb⟩
        have HM41 := Lib.hid M41
        clear M41
        obtain ⟨f1, hf, M2⟩ := ((HM41.out).kids1 k41).tail
        have HMS := Lib.hid M2
        have HF := Lib.hid hf
        clear M2 hf
        go_wp2
        go_loopg [3] f1 (fun f' v wr => ∃ (p : Option Addr) (n d : Nat) (ks : List Nat) (st : PS), v = .slice p n d ∧ Hid (f' ≤ f1 ∧ Mid E X (.slice p n d) ks w R f' 0 (code .paramsL) { ks := ks } st wr))
        case atStart => exact ⟨_, _, _, _, _, rfl, Lib.hid ⟨Nat.le_refl _, HMS.out⟩⟩
        case round =>
          obtain ⟨p0, n0, d0, ks0, s0, rfl, HR⟩ := hrel
          obtain ⟨hle, M⟩ := HR.out
          have HL := Lib.hid hle
          have HMR := Lib.hid M
          clear HR hle M HMS
          go_wp2_with fail
          refine (Mid.acceptB (HMR.out) (by decide)).mono ?_
          rintro e w61 (⟨rfl, hb61, M61⟩ | ⟨rfl, M61⟩)
          · have HM61 := Lib.hid M61
            clear M61
            have HB61 := Lib.hid hb61
            clear hb61
            go_wp2_with fail
            refine (Mid.call (HM61.out) ((HI.out _ (by have := HF.out; have := HL.out; omega)).param) rfl (by simp [needs])).mono ?_
            rintro e w62 (⟨kb, hkb, rfl, hxb⟩ | ⟨k62, s62, rfl, M62⟩)
            · exact ⟨rfl, PostL.bad hkb hxb⟩
            have HM62 := Lib.hid M62
            clear M62
            go_wp2_with (at_builtin; refine wpList_kids (by rfl) _ _ (by rfl) (HM62.out) (by rfl) k62 (by rfl) (by rfl) ?_; intro p63 n63 d63 w63 M63; have HM63 := Lib.hid M63; clear M63)
            obtain ⟨f2, hf2, MB⟩ := (HM63.out).tail
            have HMB := Lib.hid MB
            have HF2 := Lib.hid hf2
            clear MB hf2
            go_wp2
            go_roundg f2
            case rel => exact ⟨_, _, _, _, _, rfl, Lib.hid ⟨by have := HF2.out; have := HL.out; omega, HMB.out⟩⟩
            case measure => have := HF2.out; omega
          · have HM61 := Lib.hid M61
            clear M61
            go_wp2
            go_ret
            exact (HM61.out).postL rfl
      · rw [if_pos (by kernel_rfl)]
        go_simp
        refine hK _ _ ?_
        clear hK
        refine wpAny_take (i := 11) (v := .int .i64 ((s.pos : Int) + 1)) rfl (by kernel_rfl) (by kernel_rfl) (by kernel_rfl) (fun _ _ _ h => h) (Or.inl ⟨by kernel_rfl, fun w => by go_simp⟩) ?_
        refine wpAny_ready (rs := [6]) (by kernel_rfl) (by simp) ?_
        refine AllReady.cons rfl (fun K hK => ?_) AllReady.nil
        rw [if_pos (by kernel_rfl)]
        go_simp
        refine hK _ _ ?_
        clear hK
        refine wpAny_take (i := 12) (v := .pointer (some ⟨E.tb, (s.pos + 1) * 5, none⟩)) rfl (by kernel_rfl) (by kernel_rfl) (by kernel_rfl) (fun _ _ _ h => h) (Or.inl ⟨by kernel_rfl, fun w => by go_simp⟩) ?_
        refine wpAny_ready (rs := [13]) (by kernel_rfl) (by simp) ?_
        refine AllReady.cons rfl (fun K hK => ?_) AllReady.nil
        rw [if_pos (by kernel_rfl)]
        go_simp
        refine hK _ _ ?_
        clear hK
        refine wpAny_ready (rs := [14]) (by kernel_rfl) (by simp) ?_
        refine AllReady.cons rfl (fun K hK => ?_) AllReady.nil
        rw [if_pos (by kernel_rfl)]
        go_simp
        refine (HIS.out _).mono ?_
        rintro e w6 ⟨rfl, hb6⟩
        refine hK _ _ ?_
        clear hK
        refine wpAny_take (i := 15) (v := .bool false) rfl (by kernel_rfl) (by kernel_rfl) (by kernel_rfl) (fun _ _ _ h => h) (Or.inl ⟨by kernel_rfl, fun w => by go_simp⟩) ?_
        refine wpAny_done (by kernel_rfl) ?_ _
        have hlk := (HM5.out.below hb6).look
        rw [if_neg HCN.out] at hlk
        have HM6 := Lib.hid hlk
        clear hlk hb6 c0 c1 u0 u1 u2 u3 u4
        go_simp
        go_wp2_with fail
        refine (Mid.call (HM6.out) ((HI.out _ (Nat.le_refl _)).param) rfl (by simp [needs])).mono ?_
        rintro e w41 (⟨kb, hkb, rfl, hxb⟩ | ⟨k41, s41, rfl, M41⟩)
        · exact ⟨rfl, PostL.bad hkb hxb⟩
        have HM41 := Lib.hid M41
        clear M41
        obtain ⟨f1, hf, M2⟩ := ((HM41.out).kids1 k41).tail
        have HMS := Lib.hid M2
        have HF := Lib.hid hf
        clear M2 hf
        go_wp2
        go_loopg [3] f1 (fun f' v wr => ∃ (p : Option Addr) (n d : Nat) (ks : List Nat) (st : PS), v = .slice p n d ∧ Hid (f' ≤ f1 ∧ Mid E X (.slice p n d) ks w R f' 0 (code .paramsL) { ks := ks } st wr))
        case atStart => exact ⟨_, _, _, _, _, rfl, Lib.hid ⟨Nat.le_refl _, HMS.out⟩⟩
        case round =>
          obtain ⟨p0, n0, d0, ks0, s0, rfl, HR⟩ := hrel
          obtain ⟨hle, M⟩ := HR.out
          have HL := Lib.hid hle
          have HMR := Lib.hid M
          clear HR hle M HMS
          go_wp2_with fail
          refine (Mid.acceptB (HMR.out) (by decide)).mono ?_
          rintro e w61 (⟨rfl, hb61, M61⟩ | ⟨rfl, M61⟩)
          · have HM61 := Lib.hid M61
            clear M61
            have HB61 := Lib.hid hb61
            clear hb61
            go_wp2_with fail
            refine (Mid.call (HM61.out) ((HI.out _ (by have := HF.out; have := HL.out; omega)).param) rfl (by simp [needs])).mono ?_
            rintro e w62 (⟨kb, hkb, rfl, hxb⟩ | ⟨k62, s62, rfl, M62⟩)
            · exact ⟨rfl, PostL.bad hkb hxb⟩
            have HM62 := Lib.hid M62
            clear M62
            go_wp2_with (at_builtin; refine wpList_kids (by rfl) _ _ (by rfl) (HM62.out) (by rfl) k62 (by rfl) (by rfl) ?_; intro p63 n63 d63 w63 M63; have HM63 := Lib.hid M63; clear M63)
            obtain ⟨f2, hf2, MB⟩ := (HM63.out).tail
            have HMB := Lib.hid MB
            have HF2 := Lib.hid hf2
            clear MB hf2
            go_wp2
            go_roundg f2
            case rel => exact ⟨_, _, _, _, _, rfl, Lib.hid ⟨by have := HF2.out; have := HL.out; omega, HMB.out⟩⟩
            case measure => have := HF2.out; omega
          · have HM61 := Lib.hid M61
            clear M61
            go_wp2
            go_ret
            exact (HM61.out).postL rfl
end Go.Proofs.YteggenldmkbhiaaDoor.Parse
