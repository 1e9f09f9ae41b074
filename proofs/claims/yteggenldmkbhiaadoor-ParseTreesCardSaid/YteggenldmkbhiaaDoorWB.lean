/- The parser's functions for statements, one contract each, from the contracts at less fuel. -/
import Derived.Test.YteggenldmkbhiaaDoorWA
namespace Go.Proofs.YteggenldmkbhiaaDoor.Parse
open Go.RowKit
set_option maxHeartbeats 4000000 in
set_option maxRecDepth 100000 in
theorem bracketed_c {E : Env} (hE : E.ok) (he : endsOnce E.l = true) {f : Nat} (IH : ∀ f', f' ≤ f → Cs E f') : C E 76 #[ptr E] .bracketed {} (f + 1) := by
  refine C.mk hE he fun X w s R M hk => ?_
  have HK := Lib.hid hk
  clear hk
  have HM0 := Lib.hid M
  have HI := Lib.hid IH
  clear M IH he hE
  have hf0 := field0
  have hf1 := field1
  unfold ptr
  go_enter Tryd.func76, Tryd.ntmps76
  go_wp2_with fail
  refine (Mid.sign (HM0.out)).mono ?_
  rintro e w1 (⟨kb, hkb, rfl, hxb⟩ | ⟨rfl, hb1, M1⟩)
  · exact ⟨rfl, Post1.bad hkb hxb⟩
  have HM1 := Lib.hid M1
  clear M1
  clear hb1
  go_wp2_with fail
  refine (Mid.call (HM1.out) ((HI.out _ (Nat.le_refl _)).expr) rfl (by simp [needs])).mono ?_
  rintro e w2 (⟨kb, hkb, rfl, hxb⟩ | ⟨k2, s2, rfl, M2⟩)
  · exact ⟨rfl, Post1.bad hkb hxb⟩
  have HM2 := Lib.hid M2
  clear M2
  go_wp2_with fail
  refine (Mid.sign (HM2.out)).mono ?_
  rintro e w3 (⟨kb, hkb, rfl, hxb⟩ | ⟨rfl, hb3, M3⟩)
  · exact ⟨rfl, Post1.bad hkb hxb⟩
  have HM3 := Lib.hid M3
  clear M3
  clear hb3
  go_wp2
  go_ret
  exact (HM3.out).post rfl

set_option maxHeartbeats 4000000 in
set_option maxRecDepth 100000 in
theorem label_c {E : Env} (hE : E.ok) (he : endsOnce E.l = true) {f : Nat} (IH : ∀ f', f' ≤ f → Cs E f') : C E 61 #[ptr E] .label {} (f + 1) := by
  refine C.mk hE he fun X w s R M hk => ?_
  have HK := Lib.hid hk
  clear hk
  have HM0 := Lib.hid M
  have HI := Lib.hid IH
  clear M IH he hE
  have hf0 := field0
  have hf1 := field1
  unfold ptr
  go_enter Tryd.func61, Tryd.ntmps61
  go_wp2_with fail
  refine (Mid.name (HM0.out)).mono ?_
  rintro e w1 (⟨kb, hkb, rfl, hxb⟩ | ⟨rfl, M1⟩)
  · exact ⟨rfl, Post1.bad hkb hxb⟩
  have HM1 := Lib.hid M1
  clear M1
  go_wp2_with fail
  refine (Mid.sign (HM1.out)).mono ?_
  rintro e w2 (⟨kb, hkb, rfl, hxb⟩ | ⟨rfl, hb2, M2⟩)
  · exact ⟨rfl, Post1.bad hkb hxb⟩
  have HM2 := Lib.hid M2
  clear M2
  clear hb2
  go_wp2_with fail
  refine (Mid.call (HM2.out) ((HI.out _ (Nat.le_refl _)).stmt) rfl (by simp [needs])).mono ?_
  rintro e w3 (⟨kb, hkb, rfl, hxb⟩ | ⟨k3, s3, rfl, M3⟩)
  · exact ⟨rfl, Post1.bad hkb hxb⟩
  have HM3 := Lib.hid M3
  clear M3
  go_wp2_with fail
  refine (Mid.add ((HM3.out).kids1 k3) rfl).mono ?_
  rintro e w4 ⟨k4, rfl, M4⟩
  have HM4 := Lib.hid M4
  clear M4
  go_wp2
  go_ret
  exact (HM4.out).post rfl

set_option maxHeartbeats 4000000 in
set_option maxRecDepth 100000 in
theorem ifS_c {E : Env} (hE : E.ok) (he : endsOnce E.l = true) {f : Nat} (IH : ∀ f', f' ≤ f → Cs E f') : C E 65 #[ptr E] .ifS {} (f + 1) := by
  refine C.mk hE he fun X w s R M hk => ?_
  have HK := Lib.hid hk
  clear hk
  have HM0 := Lib.hid M
  have HI := Lib.hid IH
  clear M IH he hE
  have hf0 := field0
  have hf1 := field1
  unfold ptr
  go_enter Tryd.func65, Tryd.ntmps65
  go_wp2_with fail
  refine (Mid.take ((HM0.out).here) ((HK.out rfl))).mono ?_
  rintro e w1 ⟨rfl, M1⟩
  have HM1 := Lib.hid M1
  clear M1
  go_wp2_with fail
  refine (Mid.call (HM1.out) ((HI.out _ (Nat.le_refl _)).bracketed) rfl (by simp [needs])).mono ?_
  rintro e w2 (⟨kb, hkb, rfl, hxb⟩ | ⟨k2, s2, rfl, M2⟩)
  · exact ⟨rfl, Post1.bad hkb hxb⟩
  have HM2 := Lib.hid M2
  clear M2
  go_wp2_with fail
  refine (Mid.call ((HM2.out).kids1 k2) ((HI.out _ (Nat.le_refl _)).stmt) rfl (by simp [needs])).mono ?_
  rintro e w3 (⟨kb, hkb, rfl, hxb⟩ | ⟨k3, s3, rfl, M3⟩)
  · exact ⟨rfl, Post1.bad hkb hxb⟩
  have HM3 := Lib.hid M3
  clear M3
  go_wp2_with (at_builtin; refine wpList_kids (by rfl) _ _ (by rfl) (HM3.out) (by rfl) k3 (by rfl) (by rfl) ?_; intro p4 n4 d4 w4 M4; have HM4 := Lib.hid M4; clear M4)
  go_wp2_with fail
  refine (Mid.acceptB (HM4.out) (by decide)).mono ?_
  rintro e w5 (⟨rfl, hb5, M5⟩ | ⟨rfl, M5⟩)
  · have HM5 := Lib.hid M5
    clear M5
    have HB5 := Lib.hid hb5
    clear hb5
    go_wp2_with fail
    refine (Mid.call (HM5.out) ((HI.out _ (Nat.le_refl _)).stmt) rfl (by simp [needs])).mono ?_
    rintro e w6 (⟨kb, hkb, rfl, hxb⟩ | ⟨k6, s6, rfl, M6⟩)
    · exact ⟨rfl, Post1.bad hkb hxb⟩
    have HM6 := Lib.hid M6
    clear M6
    go_wp2_with (at_builtin; refine wpList_kids (by rfl) _ _ (by rfl) (HM6.out) (by rfl) k6 (by rfl) (by rfl) ?_; intro p7 n7 d7 w7 M7; have HM7 := Lib.hid M7; clear M7)
    go_wp2_with fail
    refine (Mid.add (HM7.out) rfl).mono ?_
    rintro e w8 ⟨k8, rfl, M8⟩
    have HM8 := Lib.hid M8
    clear M8
    go_wp2
    go_ret
    exact (HM8.out).post rfl
  · have HM5 := Lib.hid M5
    clear M5
    go_wp2_with fail
    refine (Mid.add (HM5.out) rfl).mono ?_
    rintro e w9 ⟨k9, rfl, M9⟩
    have HM9 := Lib.hid M9
    clear M9
    go_wp2
    go_ret
    exact (HM9.out).post rfl

set_option maxHeartbeats 4000000 in
set_option maxRecDepth 100000 in
theorem decided_c {E : Env} (hE : E.ok) (he : endsOnce E.l = true) {f : Nat} (IH : ∀ f', f' ≤ f → Cs E f') (kd : Int) : C E 66 #[ptr E, .int .i64 kd] (.decided kd) {} (f + 1) := by
  refine C.mk hE he fun X w s R M hk => ?_
  have HK := Lib.hid hk
  clear hk
  have HM0 := Lib.hid M
  have HI := Lib.hid IH
  clear M IH he hE
  have hf0 := field0
  have hf1 := field1
  unfold ptr
  go_enter Tryd.func66, Tryd.ntmps66
  go_wp2_with fail
  refine (Mid.take ((HM0.out).here) ((HK.out rfl))).mono ?_
  rintro e w1 ⟨rfl, M1⟩
  have HM1 := Lib.hid M1
  clear M1
  go_wp2_with fail
  refine (Mid.call (HM1.out) ((HI.out _ (Nat.le_refl _)).bracketed) rfl (by simp [needs])).mono ?_
  rintro e w2 (⟨kb, hkb, rfl, hxb⟩ | ⟨k2, s2, rfl, M2⟩)
  · exact ⟨rfl, Post1.bad hkb hxb⟩
  have HM2 := Lib.hid M2
  clear M2
  go_wp2_with fail
  refine (Mid.call (HM2.out) ((HI.out _ (Nat.le_refl _)).stmt) rfl (by simp [needs])).mono ?_
  rintro e w3 (⟨kb, hkb, rfl, hxb⟩ | ⟨k3, s3, rfl, M3⟩)
  · exact ⟨rfl, Post1.bad hkb hxb⟩
  have HM3 := Lib.hid M3
  clear M3
  go_wp2_with fail
  refine (Mid.add ((HM3.out).kids2 k2 k3) rfl).mono ?_
  rintro e w4 ⟨k4, rfl, M4⟩
  have HM4 := Lib.hid M4
  clear M4
  go_wp2
  go_ret
  exact (HM4.out).post rfl

set_option maxHeartbeats 4000000 in
set_option maxRecDepth 100000 in
theorem doS_c {E : Env} (hE : E.ok) (he : endsOnce E.l = true) {f : Nat} (IH : ∀ f', f' ≤ f → Cs E f') : C E 67 #[ptr E] .doS {} (f + 1) := by
  refine C.mk hE he fun X w s R M hk => ?_
  have HK := Lib.hid hk
  clear hk
  have HM0 := Lib.hid M
  have HI := Lib.hid IH
  clear M IH he hE
  have hf0 := field0
  have hf1 := field1
  unfold ptr
  go_enter Tryd.func67, Tryd.ntmps67
  go_wp2_with fail
  refine (Mid.take ((HM0.out).here) ((HK.out rfl))).mono ?_
  rintro e w1 ⟨rfl, M1⟩
  have HM1 := Lib.hid M1
  clear M1
  go_wp2_with fail
  refine (Mid.call (HM1.out) ((HI.out _ (Nat.le_refl _)).stmt) rfl (by simp [needs])).mono ?_
  rintro e w2 (⟨kb, hkb, rfl, hxb⟩ | ⟨k2, s2, rfl, M2⟩)
  · exact ⟨rfl, Post1.bad hkb hxb⟩
  have HM2 := Lib.hid M2
  clear M2
  go_wp2_with fail
  refine (Mid.word (HM2.out)).mono ?_
  rintro e w3 (⟨kb, hkb, rfl, hxb⟩ | ⟨rfl, hb3, M3⟩)
  · exact ⟨rfl, Post1.bad hkb hxb⟩
  have HM3 := Lib.hid M3
  clear M3
  clear hb3
  go_wp2_with fail
  refine (Mid.call (HM3.out) ((HI.out _ (Nat.le_refl _)).bracketed) rfl (by simp [needs])).mono ?_
  rintro e w4 (⟨kb, hkb, rfl, hxb⟩ | ⟨k4, s4, rfl, M4⟩)
  · exact ⟨rfl, Post1.bad hkb hxb⟩
  have HM4 := Lib.hid M4
  clear M4
  go_wp2_with fail
  refine (Mid.sign (HM4.out)).mono ?_
  rintro e w5 (⟨kb, hkb, rfl, hxb⟩ | ⟨rfl, hb5, M5⟩)
  · exact ⟨rfl, Post1.bad hkb hxb⟩
  have HM5 := Lib.hid M5
  clear M5
  clear hb5
  go_wp2_with fail
  refine (Mid.add ((HM5.out).kids2 k2 k4) rfl).mono ?_
  rintro e w6 ⟨k6, rfl, M6⟩
  have HM6 := Lib.hid M6
  clear M6
  go_wp2
  go_ret
  exact (HM6.out).post rfl

set_option maxHeartbeats 4000000 in
set_option maxRecDepth 100000 in
theorem forS_c {E : Env} (hE : E.ok) (he : endsOnce E.l = true) {f : Nat} (IH : ∀ f', f' ≤ f → Cs E f') : C E 68 #[ptr E] .forS {} (f + 1) := by
  refine C.mk hE he fun X w s R M hk => ?_
  have HK := Lib.hid hk
  clear hk
  have HM0 := Lib.hid M
  have HI := Lib.hid IH
  clear M IH he hE
  have hf0 := field0
  have hf1 := field1
  unfold ptr
  go_enter Tryd.func68, Tryd.ntmps68
  go_wp2_with fail
  refine (Mid.take ((HM0.out).here) ((HK.out rfl))).mono ?_
  rintro e w1 ⟨rfl, M1⟩
  have HM1 := Lib.hid M1
  clear M1
  go_wp2_with fail
  refine (Mid.sign (HM1.out)).mono ?_
  rintro e w2 (⟨kb, hkb, rfl, hxb⟩ | ⟨rfl, hb2, M2⟩)
  · exact ⟨rfl, Post1.bad hkb hxb⟩
  have HM2 := Lib.hid M2
  clear M2
  clear hb2
  go_wp2_with fail
  refine (Mid.call (HM2.out) ((HI.out _ (Nat.le_refl _)).forFirst) rfl (by simp [needs])).mono ?_
  rintro e w3 (⟨kb, hkb, rfl, hxb⟩ | ⟨k3, s3, rfl, M3⟩)
  · exact ⟨rfl, Post1.bad hkb hxb⟩
  have HM3 := Lib.hid M3
  clear M3
  go_wp2_with fail
  refine (Mid.call (HM3.out) ((HI.out _ (Nat.le_refl _)).upTo false) rfl (by simp [needs])).mono ?_
  rintro e w4 (⟨kb, hkb, rfl, hxb⟩ | ⟨k4, s4, rfl, M4⟩)
  · exact ⟨rfl, Post1.bad hkb hxb⟩
  have HM4 := Lib.hid M4
  clear M4
  go_wp2_with fail
  refine (Mid.call (HM4.out) ((HI.out _ (Nat.le_refl _)).upTo true) rfl (by simp [needs])).mono ?_
  rintro e w5 (⟨kb, hkb, rfl, hxb⟩ | ⟨k5, s5, rfl, M5⟩)
  · exact ⟨rfl, Post1.bad hkb hxb⟩
  have HM5 := Lib.hid M5
  clear M5
  go_wp2_with fail
  refine (Mid.call (HM5.out) ((HI.out _ (Nat.le_refl _)).stmt) rfl (by simp [needs])).mono ?_
  rintro e w6 (⟨kb, hkb, rfl, hxb⟩ | ⟨k6, s6, rfl, M6⟩)
  · exact ⟨rfl, Post1.bad hkb hxb⟩
  have HM6 := Lib.hid M6
  clear M6
  go_wp2_with fail
  refine (Mid.add ((HM6.out).kids4 k3 k4 k5 k6) rfl).mono ?_
  rintro e w7 ⟨k7, rfl, M7⟩
  have HM7 := Lib.hid M7
  clear M7
  go_wp2
  go_ret
  exact (HM7.out).post rfl

set_option maxHeartbeats 4000000 in
set_option maxRecDepth 100000 in
theorem leave_c {E : Env} (hE : E.ok) (he : endsOnce E.l = true) {f : Nat} (IH : ∀ f', f' ≤ f → Cs E f') (kd : Int) : C E 69 #[ptr E, .int .i64 kd] (.leave kd) {} (f + 1) := by
  refine C.mk hE he fun X w s R M hk => ?_
  have HK := Lib.hid hk
  clear hk
  have HM0 := Lib.hid M
  have HI := Lib.hid IH
  clear M IH he hE
  have hf0 := field0
  have hf1 := field1
  unfold ptr
  go_enter Tryd.func69, Tryd.ntmps69
  go_wp2_with fail
  refine (Mid.take ((HM0.out).here) ((HK.out rfl))).mono ?_
  rintro e w1 ⟨rfl, M1⟩
  have HM1 := Lib.hid M1
  clear M1
  go_wp2_with fail
  refine (Mid.sign (HM1.out)).mono ?_
  rintro e w2 (⟨kb, hkb, rfl, hxb⟩ | ⟨rfl, hb2, M2⟩)
  · exact ⟨rfl, Post1.bad hkb hxb⟩
  have HM2 := Lib.hid M2
  clear M2
  clear hb2
  go_wp2_with fail
  refine (Mid.add (HM2.out) rfl).mono ?_
  rintro e w3 ⟨k3, rfl, M3⟩
  have HM3 := Lib.hid M3
  clear M3
  go_wp2
  go_ret
  exact (HM3.out).post rfl

set_option maxHeartbeats 4000000 in
set_option maxRecDepth 100000 in
theorem returnS_c {E : Env} (hE : E.ok) (he : endsOnce E.l = true) {f : Nat} (IH : ∀ f', f' ≤ f → Cs E f') : C E 70 #[ptr E] .returnS {} (f + 1) := by
  refine C.mk hE he fun X w s R M hk => ?_
  have HK := Lib.hid hk
  clear hk
  have HM0 := Lib.hid M
  have HI := Lib.hid IH
  clear M IH he hE
  have hf0 := field0
  have hf1 := field1
  unfold ptr
  go_enter Tryd.func70, Tryd.ntmps70
  go_wp2_with fail
  refine (Mid.take ((HM0.out).here) ((HK.out rfl))).mono ?_
  rintro e w1 ⟨rfl, M1⟩
  have HM1 := Lib.hid M1
  clear M1
  go_wp2_with fail
  refine (Mid.seesB (HM1.out)).mono ?_
  rintro e w2 (⟨rfl, hb2, M2⟩ | ⟨rfl, hb2, M2⟩)
  · have HM2 := Lib.hid M2
    clear M2
    have HB2 := Lib.hid hb2
    clear hb2
    go_wp2_with fail
    refine (Mid.sign (HM2.out)).mono ?_
    rintro e w3 (⟨kb, hkb, rfl, hxb⟩ | ⟨rfl, hb3, M3⟩)
    · exact ⟨rfl, Post1.bad hkb hxb⟩
    have HM3 := Lib.hid M3
    clear M3
    clear hb3
    go_wp2_with fail
    refine (Mid.add (HM3.out) rfl).mono ?_
    rintro e w4 ⟨k4, rfl, M4⟩
    have HM4 := Lib.hid M4
    clear M4
    go_wp2
    go_ret
    exact (HM4.out).post rfl
  · have HM2 := Lib.hid M2
    clear M2
    have HB2 := Lib.hid hb2
    clear hb2
    go_wp2_with fail
    refine (Mid.call (HM2.out) ((HI.out _ (Nat.le_refl _)).expr) rfl (by simp [needs])).mono ?_
    rintro e w5 (⟨kb, hkb, rfl, hxb⟩ | ⟨k5, s5, rfl, M5⟩)
    · exact ⟨rfl, Post1.bad hkb hxb⟩
    have HM5 := Lib.hid M5
    clear M5
    go_wp2_with (at_builtin; refine wpList_kids (by rfl) _ _ (by rfl) (HM5.out) (by rfl) k5 (by rfl) (by rfl) ?_; intro p6 n6 d6 w6 M6; have HM6 := Lib.hid M6; clear M6)
    go_wp2_with fail
    refine (Mid.sign (HM6.out)).mono ?_
    rintro e w7 (⟨kb, hkb, rfl, hxb⟩ | ⟨rfl, hb7, M7⟩)
    · exact ⟨rfl, Post1.bad hkb hxb⟩
    have HM7 := Lib.hid M7
    clear M7
    clear hb7
    go_wp2_with fail
    refine (Mid.add (HM7.out) rfl).mono ?_
    rintro e w8 ⟨k8, rfl, M8⟩
    have HM8 := Lib.hid M8
    clear M8
    go_wp2
    go_ret
    exact (HM8.out).post rfl

set_option maxHeartbeats 4000000 in
set_option maxRecDepth 100000 in
theorem gotoS_c {E : Env} (hE : E.ok) (he : endsOnce E.l = true) {f : Nat} (IH : ∀ f', f' ≤ f → Cs E f') : C E 71 #[ptr E] .gotoS {} (f + 1) := by
  refine C.mk hE he fun X w s R M hk => ?_
  have HK := Lib.hid hk
  clear hk
  have HM0 := Lib.hid M
  have HI := Lib.hid IH
  clear M IH he hE
  have hf0 := field0
  have hf1 := field1
  unfold ptr
  go_enter Tryd.func71, Tryd.ntmps71
  go_wp2_with fail
  refine (Mid.take ((HM0.out).here) ((HK.out rfl))).mono ?_
  rintro e w1 ⟨rfl, M1⟩
  have HM1 := Lib.hid M1
  clear M1
  go_wp2_with fail
  refine (Mid.nameO (HM1.out)).mono ?_
  rintro e w2 (⟨kb, hkb, rfl, hxb⟩ | ⟨rfl, M2⟩)
  · exact ⟨rfl, Post1.bad hkb hxb⟩
  have HM2 := Lib.hid M2
  clear M2
  go_wp2_with fail
  refine (Mid.sign (HM2.out)).mono ?_
  rintro e w3 (⟨kb, hkb, rfl, hxb⟩ | ⟨rfl, hb3, M3⟩)
  · exact ⟨rfl, Post1.bad hkb hxb⟩
  have HM3 := Lib.hid M3
  clear M3
  clear hb3
  go_wp2_with fail
  refine (Mid.add (HM3.out) rfl).mono ?_
  rintro e w4 ⟨k4, rfl, M4⟩
  have HM4 := Lib.hid M4
  clear M4
  go_wp2
  go_ret
  exact (HM4.out).post rfl

set_option maxHeartbeats 4000000 in
set_option maxRecDepth 100000 in
theorem caseS_c {E : Env} (hE : E.ok) (he : endsOnce E.l = true) {f : Nat} (IH : ∀ f', f' ≤ f → Cs E f') : C E 72 #[ptr E] .caseS {} (f + 1) := by
  refine C.mk hE he fun X w s R M hk => ?_
  have HK := Lib.hid hk
  clear hk
  have HM0 := Lib.hid M
  have HI := Lib.hid IH
  clear M IH he hE
  have hf0 := field0
  have hf1 := field1
  unfold ptr
  go_enter Tryd.func72, Tryd.ntmps72
  go_wp2_with fail
  refine (Mid.take ((HM0.out).here) ((HK.out rfl))).mono ?_
  rintro e w1 ⟨rfl, M1⟩
  have HM1 := Lib.hid M1
  clear M1
  go_wp2_with fail
  refine (Mid.call (HM1.out) ((HI.out _ (Nat.le_refl _)).cond) rfl (by simp [needs])).mono ?_
  rintro e w2 (⟨kb, hkb, rfl, hxb⟩ | ⟨k2, s2, rfl, M2⟩)
  · exact ⟨rfl, Post1.bad hkb hxb⟩
  have HM2 := Lib.hid M2
  clear M2
  go_wp2_with fail
  refine (Mid.sign (HM2.out)).mono ?_
  rintro e w3 (⟨kb, hkb, rfl, hxb⟩ | ⟨rfl, hb3, M3⟩)
  · exact ⟨rfl, Post1.bad hkb hxb⟩
  have HM3 := Lib.hid M3
  clear M3
  clear hb3
  go_wp2_with fail
  refine (Mid.call (HM3.out) ((HI.out _ (Nat.le_refl _)).stmt) rfl (by simp [needs])).mono ?_
  rintro e w4 (⟨kb, hkb, rfl, hxb⟩ | ⟨k4, s4, rfl, M4⟩)
  · exact ⟨rfl, Post1.bad hkb hxb⟩
  have HM4 := Lib.hid M4
  clear M4
  go_wp2_with fail
  refine (Mid.add ((HM4.out).kids2 k2 k4) rfl).mono ?_
  rintro e w5 ⟨k5, rfl, M5⟩
  have HM5 := Lib.hid M5
  clear M5
  go_wp2
  go_ret
  exact (HM5.out).post rfl

set_option maxHeartbeats 4000000 in
set_option maxRecDepth 100000 in
theorem defaultS_c {E : Env} (hE : E.ok) (he : endsOnce E.l = true) {f : Nat} (IH : ∀ f', f' ≤ f → Cs E f') : C E 73 #[ptr E] .defaultS {} (f + 1) := by
  refine C.mk hE he fun X w s R M hk => ?_
  have HK := Lib.hid hk
  clear hk
  have HM0 := Lib.hid M
  have HI := Lib.hid IH
  clear M IH he hE
  have hf0 := field0
  have hf1 := field1
  unfold ptr
  go_enter Tryd.func73, Tryd.ntmps73
  go_wp2_with fail
  refine (Mid.take ((HM0.out).here) ((HK.out rfl))).mono ?_
  rintro e w1 ⟨rfl, M1⟩
  have HM1 := Lib.hid M1
  clear M1
  go_wp2_with fail
  refine (Mid.sign (HM1.out)).mono ?_
  rintro e w2 (⟨kb, hkb, rfl, hxb⟩ | ⟨rfl, hb2, M2⟩)
  · exact ⟨rfl, Post1.bad hkb hxb⟩
  have HM2 := Lib.hid M2
  clear M2
  clear hb2
  go_wp2_with fail
  refine (Mid.call (HM2.out) ((HI.out _ (Nat.le_refl _)).stmt) rfl (by simp [needs])).mono ?_
  rintro e w3 (⟨kb, hkb, rfl, hxb⟩ | ⟨k3, s3, rfl, M3⟩)
  · exact ⟨rfl, Post1.bad hkb hxb⟩
  have HM3 := Lib.hid M3
  clear M3
  go_wp2_with fail
  refine (Mid.add ((HM3.out).kids1 k3) rfl).mono ?_
  rintro e w4 ⟨k4, rfl, M4⟩
  have HM4 := Lib.hid M4
  clear M4
  go_wp2
  go_ret
  exact (HM4.out).post rfl

set_option maxHeartbeats 4000000 in
set_option maxRecDepth 100000 in
theorem upTo_c {E : Env} (hE : E.ok) (he : endsOnce E.l = true) {f : Nat} (IH : ∀ f', f' ≤ f → Cs E f') (b : Bool) : C E 79 #[ptr E, .string ⟨(stopOf b).toArray⟩] (.upTo b) {} (f + 1) := by
  refine C.mk hE he fun X w s R M hk => ?_
  have HK := Lib.hid hk
  clear hk
  have HM0 := Lib.hid M
  have HI := Lib.hid IH
  clear M IH he hE
  have hf0 := field0
  have hf1 := field1
  unfold ptr
  go_enter Tryd.func79, Tryd.ntmps79
  go_wp2_with fail
  refine (Mid.seesB (HM0.out)).mono ?_
  rintro e w1 (⟨rfl, hb1, M1⟩ | ⟨rfl, hb1, M1⟩)
  · have HM1 := Lib.hid M1
    clear M1
    have HB1 := Lib.hid hb1
    clear hb1
    go_wp2_with fail
    refine (Mid.take ((HM1.out).here) (by rw [isT_kind HB1.out]; decide)).mono ?_
    rintro e w2 ⟨rfl, M2⟩
    have HM2 := Lib.hid M2
    clear M2
    go_wp2_with fail
    refine (Mid.add (HM2.out) rfl).mono ?_
    rintro e w3 ⟨k3, rfl, M3⟩
    have HM3 := Lib.hid M3
    clear M3
    go_wp2
    go_ret
    exact (HM3.out).post rfl
  · have HM1 := Lib.hid M1
    clear M1
    have HB1 := Lib.hid hb1
    clear hb1
    go_wp2_with fail
    refine (Mid.call (HM1.out) ((HI.out _ (Nat.le_refl _)).expr) rfl (by simp [needs])).mono ?_
    rintro e w4 (⟨kb, hkb, rfl, hxb⟩ | ⟨k4, s4, rfl, M4⟩)
    · exact ⟨rfl, Post1.bad hkb hxb⟩
    have HM4 := Lib.hid M4
    clear M4
    go_wp2_with fail
    refine (Mid.sign (HM4.out)).mono ?_
    rintro e w5 (⟨kb, hkb, rfl, hxb⟩ | ⟨rfl, hb5, M5⟩)
    · exact ⟨rfl, Post1.bad hkb hxb⟩
    have HM5 := Lib.hid M5
    clear M5
    clear hb5
    go_wp2
    go_ret
    exact (HM5.out).post rfl
end Go.Proofs.YteggenldmkbhiaaDoor.Parse
