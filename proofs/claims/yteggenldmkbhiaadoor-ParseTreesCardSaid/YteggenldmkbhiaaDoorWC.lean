/- The parser's functions for names and declarations, one contract each, from the contracts at less fuel. -/
import Derived.Test.YteggenldmkbhiaaDoorWB
namespace Go.Proofs.YteggenldmkbhiaaDoor.Parse
open Go.RowKit
set_option maxHeartbeats 4000000 in
set_option maxRecDepth 100000 in
theorem cond_c {E : Env} (hE : E.ok) (he : endsOnce E.l = true) {f : Nat} (IH : ∀ f', f' ≤ f → Cs E f') : C E 52 #[ptr E] .cond {} (f + 1) := by
  refine C.mk hE he fun X w s R M hk => ?_
  have HK := Lib.hid hk
  clear hk
  have HM0 := Lib.hid M
  have HI := Lib.hid IH
  clear M IH he hE
  have hf0 := field0
  have hf1 := field1
  unfold ptr
  go_enter Tryd.func52, Tryd.ntmps52
  go_wp2_with fail
  refine (Mid.call (HM0.out) ((HI.out _ (Nat.le_refl _)).climb 1 (by omega) (by omega)) rfl (by simp [needs])).mono ?_
  rintro e w1 (⟨kb, hkb, rfl, hxb⟩ | ⟨k1, s1, rfl, M1⟩)
  · exact ⟨rfl, Post1.bad hkb hxb⟩
  have HM1 := Lib.hid M1
  clear M1
  go_wp2_with fail
  refine (Mid.seesB (HM1.out)).mono ?_
  rintro e w2 (⟨rfl, hb2, M2⟩ | ⟨rfl, hb2, M2⟩)
  · have HM2 := Lib.hid M2
    clear M2
    have HB2 := Lib.hid hb2
    clear hb2
    go_wp2_with fail
    refine (Mid.take ((HM2.out).here) (by rw [isT_kind HB2.out]; decide)).mono ?_
    rintro e w3 ⟨rfl, M3⟩
    have HM3 := Lib.hid M3
    clear M3
    go_wp2_with fail
    refine (Mid.call (HM3.out) ((HI.out _ (Nat.le_refl _)).expr) rfl (by simp [needs])).mono ?_
    rintro e w4 (⟨kb, hkb, rfl, hxb⟩ | ⟨k4, s4, rfl, M4⟩)
    · exact ⟨rfl, Post1.bad hkb hxb⟩
    have HM4 := Lib.hid M4
    clear M4
    go_wp2_with fail
    refine (Mid.sign (HM4.out)).mono ?_
    rintro e w5 (⟨kb, hkb, rfl, hxb⟩ | ⟨rfl, hb5, M5⟩)
    · exact ⟨rfl, Post1.bad hkb hxb⟩
    have HM5 := Lib.hid M5
    clear M5
    clear hb5
    go_wp2_with fail
    refine (Mid.call (HM5.out) ((HI.out _ (Nat.le_refl _)).cond) rfl (by simp [needs])).mono ?_
    rintro e w6 (⟨kb, hkb, rfl, hxb⟩ | ⟨k6, s6, rfl, M6⟩)
    · exact ⟨rfl, Post1.bad hkb hxb⟩
    have HM6 := Lib.hid M6
    clear M6
    go_wp2_with fail
    refine (Mid.add ((HM6.out).kids3 k1 k4 k6) rfl).mono ?_
    rintro e w7 ⟨k7, rfl, M7⟩
    have HM7 := Lib.hid M7
    clear M7
    go_wp2
    go_ret
    exact (HM7.out).post rfl
  · have HM2 := Lib.hid M2
    clear M2
    have HB2 := Lib.hid hb2
    clear hb2
    go_wp2
    go_ret
    exact (HM2.out).post rfl

set_option maxHeartbeats 4000000 in
set_option maxRecDepth 100000 in
theorem named_c {E : Env} (hE : E.ok) (he : endsOnce E.l = true) {f : Nat} (IH : ∀ f', f' ≤ f → Cs E f') : C E 82 #[ptr E] .named {} (f + 1) := by
  refine C.mk hE he fun X w s R M hk => ?_
  have HK := Lib.hid hk
  clear hk
  have HM0 := Lib.hid M
  have HI := Lib.hid IH
  clear M IH he hE
  have hf0 := field0
  have hf1 := field1
  unfold ptr
  go_enter Tryd.func82, Tryd.ntmps82
  go_wp2_with fail
  refine (Mid.name (HM0.out)).mono ?_
  rintro e w1 (⟨kb, hkb, rfl, hxb⟩ | ⟨rfl, M1⟩)
  · exact ⟨rfl, Post1.bad hkb hxb⟩
  have HM1 := Lib.hid M1
  clear M1
  go_wp2_with fail
  refine (Mid.acceptB (HM1.out) (by decide)).mono ?_
  rintro e w2 (⟨rfl, hb2, M2⟩ | ⟨rfl, M2⟩)
  · have HM2 := Lib.hid M2
    clear M2
    have HB2 := Lib.hid hb2
    clear hb2
    go_wp2_with fail
    refine (Mid.call (HM2.out) ((HI.out _ (Nat.le_refl _)).expr) rfl (by simp [needs])).mono ?_
    rintro e w3 (⟨kb, hkb, rfl, hxb⟩ | ⟨k3, s3, rfl, M3⟩)
    · exact ⟨rfl, Post1.bad hkb hxb⟩
    have HM3 := Lib.hid M3
    clear M3
    go_wp2_with fail
    refine (Mid.sign (HM3.out)).mono ?_
    rintro e w4 (⟨kb, hkb, rfl, hxb⟩ | ⟨rfl, hb4, M4⟩)
    · exact ⟨rfl, Post1.bad hkb hxb⟩
    have HM4 := Lib.hid M4
    clear M4
    clear hb4
    go_wp2_with fail
    refine (Mid.add ((HM4.out).kids1 k3) rfl).mono ?_
    rintro e w5 ⟨k5, rfl, M5⟩
    have HM5 := Lib.hid M5
    clear M5
    go_wp2
    go_ret
    exact (HM5.out).post rfl
  · have HM2 := Lib.hid M2
    clear M2
    go_wp2_with fail
    refine (Mid.acceptB (HM2.out) (by decide)).mono ?_
    rintro e w6 (⟨rfl, hb6, M6⟩ | ⟨rfl, M6⟩)
    · have HM6 := Lib.hid M6
      clear M6
      have HB6 := Lib.hid hb6
      clear hb6
      go_wp2_with fail
      refine (Mid.callL (HM6.out) (HI.out _ (Nat.le_refl _)).args rfl rfl).mono ?_
      rintro e w7 (⟨kb, hkb, rfl, hxb⟩ | ⟨k7, s7, p7, n7, d7, rfl, M7⟩)
      · exact ⟨rfl, Post1.bad hkb hxb⟩
      have HM7 := Lib.hid M7
      clear M7
      go_wp2_with fail
      refine (Mid.add (HM7.out) rfl).mono ?_
      rintro e w8 ⟨k8, rfl, M8⟩
      have HM8 := Lib.hid M8
      clear M8
      go_wp2
      go_ret
      exact (HM8.out).post rfl
    · have HM6 := Lib.hid M6
      clear M6
      go_wp2_with fail
      refine (Mid.add (HM6.out) rfl).mono ?_
      rintro e w9 ⟨k9, rfl, M9⟩
      have HM9 := Lib.hid M9
      clear M9
      go_wp2
      go_ret
      exact (HM9.out).post rfl

set_option maxHeartbeats 4000000 in
set_option maxRecDepth 100000 in
theorem entry_c {E : Env} (hE : E.ok) (he : endsOnce E.l = true) {f : Nat} (IH : ∀ f', f' ≤ f → Cs E f') : C E 43 #[ptr E] .entry {} (f + 1) := by
  refine C.mk hE he fun X w s R M hk => ?_
  have HK := Lib.hid hk
  clear hk
  have HM0 := Lib.hid M
  have HI := Lib.hid IH
  clear M IH he hE
  have hf0 := field0
  have hf1 := field1
  unfold ptr
  go_enter Tryd.func43, Tryd.ntmps43
  go_wp2_with fail
  refine (Mid.name (HM0.out)).mono ?_
  rintro e w1 (⟨kb, hkb, rfl, hxb⟩ | ⟨rfl, M1⟩)
  · exact ⟨rfl, Post1.bad hkb hxb⟩
  have HM1 := Lib.hid M1
  clear M1
  go_wp2_with fail
  refine (Mid.acceptB (HM1.out) (by decide)).mono ?_
  rintro e w2 (⟨rfl, hb2, M2⟩ | ⟨rfl, M2⟩)
  · have HM2 := Lib.hid M2
    clear M2
    have HB2 := Lib.hid hb2
    clear hb2
    go_wp2_with fail
    refine (Mid.call (HM2.out) ((HI.out _ (Nat.le_refl _)).cond) rfl (by simp [needs])).mono ?_
    rintro e w3 (⟨kb, hkb, rfl, hxb⟩ | ⟨k3, s3, rfl, M3⟩)
    · exact ⟨rfl, Post1.bad hkb hxb⟩
    have HM3 := Lib.hid M3
    clear M3
    go_wp2_with (at_builtin; refine wpList_kids (by rfl) _ _ (by rfl) (HM3.out) (by rfl) k3 (by rfl) (by rfl) ?_; intro p4 n4 d4 w4 M4; have HM4 := Lib.hid M4; clear M4)
    go_wp2_with fail
    refine (Mid.add (HM4.out) rfl).mono ?_
    rintro e w5 ⟨k5, rfl, M5⟩
    have HM5 := Lib.hid M5
    clear M5
    go_wp2
    go_ret
    exact (HM5.out).post rfl
  · have HM2 := Lib.hid M2
    clear M2
    go_wp2_with fail
    refine (Mid.add (HM2.out) rfl).mono ?_
    rintro e w6 ⟨k6, rfl, M6⟩
    have HM6 := Lib.hid M6
    clear M6
    go_wp2
    go_ret
    exact (HM6.out).post rfl

set_option maxHeartbeats 4000000 in
set_option maxRecDepth 100000 in
theorem param_c {E : Env} (hE : E.ok) (he : endsOnce E.l = true) {f : Nat} (IH : ∀ f', f' ≤ f → Cs E f') : C E 54 #[ptr E] .param {} (f + 1) := by
  refine C.mk hE he fun X w s R M hk => ?_
  have HK := Lib.hid hk
  clear hk
  have HM0 := Lib.hid M
  have HI := Lib.hid IH
  clear M IH he hE
  have hf0 := field0
  have hf1 := field1
  unfold ptr
  go_enter Tryd.func54, Tryd.ntmps54
  go_wp2_with fail
  refine (Mid.typeWord (HM0.out)).mono ?_
  rintro e w1 (⟨kb, hkb, rfl, hxb⟩ | ⟨ty1, rfl, M1⟩)
  · exact ⟨rfl, Post1.bad hkb hxb⟩
  have HM1 := Lib.hid M1
  clear M1
  go_wp2_with fail
  refine (Mid.nameO (HM1.out)).mono ?_
  rintro e w2 (⟨kb, hkb, rfl, hxb⟩ | ⟨rfl, M2⟩)
  · exact ⟨rfl, Post1.bad hkb hxb⟩
  have HM2 := Lib.hid M2
  clear M2
  go_wp2_with fail
  refine (Mid.acceptB (HM2.out) (by decide)).mono ?_
  rintro e w3 (⟨rfl, hb3, M3⟩ | ⟨rfl, M3⟩)
  · have HM3 := Lib.hid M3
    clear M3
    have HB3 := Lib.hid hb3
    clear hb3
    go_wp2_with fail
    refine (Mid.sign (HM3.out)).mono ?_
    rintro e w4 (⟨kb, hkb, rfl, hxb⟩ | ⟨rfl, hb4, M4⟩)
    · exact ⟨rfl, Post1.bad hkb hxb⟩
    have HM4 := Lib.hid M4
    clear M4
    clear hb4
    go_wp2_with fail
    refine (Mid.add ((HM4.out).op) rfl).mono ?_
    rintro e w5 ⟨k5, rfl, M5⟩
    have HM5 := Lib.hid M5
    clear M5
    go_wp2
    go_ret
    exact (HM5.out).post rfl
  · have HM3 := Lib.hid M3
    clear M3
    go_wp2_with fail
    refine (Mid.add (HM3.out) rfl).mono ?_
    rintro e w6 ⟨k6, rfl, M6⟩
    have HM6 := Lib.hid M6
    clear M6
    go_wp2
    go_ret
    exact (HM6.out).post rfl

set_option maxHeartbeats 4000000 in
set_option maxRecDepth 100000 in
theorem func_c {E : Env} (hE : E.ok) (he : endsOnce E.l = true) {f : Nat} (IH : ∀ f', f' ≤ f → Cs E f') : C E 37 #[ptr E] .func {} (f + 1) := by
  refine C.mk hE he fun X w s R M hk => ?_
  have HK := Lib.hid hk
  clear hk
  have HM0 := Lib.hid M
  have HI := Lib.hid IH
  clear M IH he hE
  have hf0 := field0
  have hf1 := field1
  unfold ptr
  go_enter Tryd.func37, Tryd.ntmps37
  go_wp2_with fail
  refine (Mid.typeWord (HM0.out)).mono ?_
  rintro e w1 (⟨kb, hkb, rfl, hxb⟩ | ⟨ty1, rfl, M1⟩)
  · exact ⟨rfl, Post1.bad hkb hxb⟩
  have HM1 := Lib.hid M1
  clear M1
  go_wp2_with fail
  refine (Mid.nameO (HM1.out)).mono ?_
  rintro e w2 (⟨kb, hkb, rfl, hxb⟩ | ⟨rfl, M2⟩)
  · exact ⟨rfl, Post1.bad hkb hxb⟩
  have HM2 := Lib.hid M2
  clear M2
  go_wp2_with fail
  refine (Mid.sign (HM2.out)).mono ?_
  rintro e w3 (⟨kb, hkb, rfl, hxb⟩ | ⟨rfl, hb3, M3⟩)
  · exact ⟨rfl, Post1.bad hkb hxb⟩
  have HM3 := Lib.hid M3
  clear M3
  clear hb3
  go_wp2_with fail
  refine (Mid.callL (HM3.out) (HI.out _ (Nat.le_refl _)).params rfl rfl).mono ?_
  rintro e w4 (⟨kb, hkb, rfl, hxb⟩ | ⟨k4, s4, p4, n4, d4, rfl, M4⟩)
  · exact ⟨rfl, Post1.bad hkb hxb⟩
  have HM4 := Lib.hid M4
  clear M4
  go_wp2_with fail
  refine (Mid.sign (HM4.out)).mono ?_
  rintro e w5 (⟨kb, hkb, rfl, hxb⟩ | ⟨rfl, hb5, M5⟩)
  · exact ⟨rfl, Post1.bad hkb hxb⟩
  have HM5 := Lib.hid M5
  clear M5
  clear hb5
  go_wp2_with fail
  refine (Mid.call (HM5.out) ((HI.out _ (Nat.le_refl _)).block) rfl (by simp [needs])).mono ?_
  rintro e w6 (⟨kb, hkb, rfl, hxb⟩ | ⟨k6, s6, rfl, M6⟩)
  · exact ⟨rfl, Post1.bad hkb hxb⟩
  have HM6 := Lib.hid M6
  clear M6
  go_wp2_with (at_builtin; refine wpList_kids (by rfl) _ _ (by rfl) (HM6.out) (by rfl) k6 (by rfl) (by rfl) ?_; intro p7 n7 d7 w7 M7; have HM7 := Lib.hid M7; clear M7)
  go_wp2_with fail
  refine (Mid.add (HM7.out) rfl).mono ?_
  rintro e w8 ⟨k8, rfl, M8⟩
  have HM8 := Lib.hid M8
  clear M8
  go_wp2
  go_ret
  exact (HM8.out).post rfl

set_option maxHeartbeats 4000000 in
set_option maxRecDepth 100000 in
theorem vard_c {E : Env} (hE : E.ok) (he : endsOnce E.l = true) {f : Nat} (IH : ∀ f', f' ≤ f → Cs E f') (t : Int) : C E 50 #[ptr E, .int .i64 t] .vard { typ := t } (f + 1) := by
  refine C.mk hE he fun X w s R M hk => ?_
  have HK := Lib.hid hk
  clear hk
  have HM0 := Lib.hid M
  have HI := Lib.hid IH
  clear M IH he hE
  have hf0 := field0
  have hf1 := field1
  unfold ptr
  go_enter Tryd.func50, Tryd.ntmps50
  go_wp2_with fail
  refine (Mid.name (HM0.out)).mono ?_
  rintro e w1 (⟨kb, hkb, rfl, hxb⟩ | ⟨rfl, M1⟩)
  · exact ⟨rfl, Post1.bad hkb hxb⟩
  have HM1 := Lib.hid M1
  clear M1
  go_wp2_with fail
  refine (Mid.acceptB (HM1.out) (by decide)).mono ?_
  rintro e w2 (⟨rfl, hb2, M2⟩ | ⟨rfl, M2⟩)
  · have HM2 := Lib.hid M2
    clear M2
    have HB2 := Lib.hid hb2
    clear hb2
    go_wp2_with fail
    refine (Mid.call (HM2.out) ((HI.out _ (Nat.le_refl _)).cond) rfl (by simp [needs])).mono ?_
    rintro e w3 (⟨kb, hkb, rfl, hxb⟩ | ⟨k3, s3, rfl, M3⟩)
    · exact ⟨rfl, Post1.bad hkb hxb⟩
    have HM3 := Lib.hid M3
    clear M3
    go_wp2_with (at_builtin; refine wpList_kids (by rfl) _ _ (by rfl) (HM3.out) (by rfl) k3 (by rfl) (by rfl) ?_; intro p4 n4 d4 w4 M4; have HM4 := Lib.hid M4; clear M4)
    go_wp2_with fail
    refine (Mid.sign (HM4.out)).mono ?_
    rintro e w5 (⟨kb, hkb, rfl, hxb⟩ | ⟨rfl, hb5, M5⟩)
    · exact ⟨rfl, Post1.bad hkb hxb⟩
    have HM5 := Lib.hid M5
    clear M5
    clear hb5
    go_wp2_with fail
    refine (Mid.acceptB ((HM5.out).op) (by decide)).mono ?_
    rintro e w6 (⟨rfl, hb6, M6⟩ | ⟨rfl, M6⟩)
    · have HM6 := Lib.hid M6
      clear M6
      have HB6 := Lib.hid hb6
      clear hb6
      go_wp2_with fail
      refine (Mid.call (HM6.out) ((HI.out _ (Nat.le_refl _)).assign) rfl (by simp [needs])).mono ?_
      rintro e w7 (⟨kb, hkb, rfl, hxb⟩ | ⟨k7, s7, rfl, M7⟩)
      · exact ⟨rfl, Post1.bad hkb hxb⟩
      have HM7 := Lib.hid M7
      clear M7
      go_wp2_with (at_builtin; refine wpList_kids (by rfl) _ _ (by rfl) (HM7.out) (by rfl) k7 (by rfl) (by rfl) ?_; intro p8 n8 d8 w8 M8; have HM8 := Lib.hid M8; clear M8)
      go_wp2_with fail
      refine (Mid.add (HM8.out) rfl).mono ?_
      rintro e w9 ⟨k9, rfl, M9⟩
      have HM9 := Lib.hid M9
      clear M9
      go_wp2
      go_ret
      exact (HM9.out).post rfl
    · have HM6 := Lib.hid M6
      clear M6
      go_wp2_with fail
      refine (Mid.add (HM6.out) rfl).mono ?_
      rintro e w10 ⟨k10, rfl, M10⟩
      have HM10 := Lib.hid M10
      clear M10
      go_wp2
      go_ret
      exact (HM10.out).post rfl
  · have HM2 := Lib.hid M2
    clear M2
    go_wp2_with fail
    refine (Mid.acceptB (HM2.out) (by decide)).mono ?_
    rintro e w11 (⟨rfl, hb11, M11⟩ | ⟨rfl, M11⟩)
    · have HM11 := Lib.hid M11
      clear M11
      have HB11 := Lib.hid hb11
      clear hb11
      go_wp2_with fail
      refine (Mid.call (HM11.out) ((HI.out _ (Nat.le_refl _)).assign) rfl (by simp [needs])).mono ?_
      rintro e w12 (⟨kb, hkb, rfl, hxb⟩ | ⟨k12, s12, rfl, M12⟩)
      · exact ⟨rfl, Post1.bad hkb hxb⟩
      have HM12 := Lib.hid M12
      clear M12
      go_wp2_with (at_builtin; refine wpList_kids (by rfl) _ _ (by rfl) (HM12.out) (by rfl) k12 (by rfl) (by rfl) ?_; intro p13 n13 d13 w13 M13; have HM13 := Lib.hid M13; clear M13)
      go_wp2_with fail
      refine (Mid.add (HM13.out) rfl).mono ?_
      rintro e w14 ⟨k14, rfl, M14⟩
      have HM14 := Lib.hid M14
      clear M14
      go_wp2
      go_ret
      exact (HM14.out).post rfl
    · have HM11 := Lib.hid M11
      clear M11
      go_wp2_with fail
      refine (Mid.add (HM11.out) rfl).mono ?_
      rintro e w15 ⟨k15, rfl, M15⟩
      have HM15 := Lib.hid M15
      clear M15
      go_wp2
      go_ret
      exact (HM15.out).post rfl
end Go.Proofs.YteggenldmkbhiaaDoor.Parse
