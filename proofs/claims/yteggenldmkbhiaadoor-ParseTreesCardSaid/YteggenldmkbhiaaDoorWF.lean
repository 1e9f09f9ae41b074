/- The parser's functions with loops of their own. -/
import Derived.Test.YteggenldmkbhiaaDoorWD
namespace Go.Proofs.YteggenldmkbhiaaDoor.Parse
open Go.RowKit
set_option maxHeartbeats 4000000 in
set_option maxRecDepth 100000 in
theorem block_c {E : Env} (hE : E.ok) (he : endsOnce E.l = true) {f : Nat} (IH : ∀ f', f' ≤ f → Cs E f') : C E 49 #[ptr E] .block {} (f + 1) := by
  refine C.mk hE he fun X w s R M hk => ?_
  have HK := Lib.hid hk
  clear hk
  have HM0 := Lib.hid M
  have HI := Lib.hid IH
  clear M IH he hE
  have hf0 := field0
  have hf1 := field1
  unfold ptr
  go_enter Tryd.func49, Tryd.ntmps49
  go_wp2_with fail
  refine (Mid.peek (HM0.out)).mono ?_
  rintro e w1 ⟨rfl, M1⟩
  have HM1 := Lib.hid M1
  clear M1
  go_wp2_with fail
  refine (Mid.sign ((HM1.out).here)).mono ?_
  rintro e w2 (⟨kb, hkb, rfl, hxb⟩ | ⟨rfl, hb2, M2⟩)
  · exact ⟨rfl, Post1.bad hkb hxb⟩
  have HM2 := Lib.hid M2
  clear M2
  clear hb2
  obtain ⟨f1, hf, M2⟩ := (HM2.out).tail
  have HM1 := Lib.hid M2
  have HF := Lib.hid hf
  clear M2 hf
  go_wp2
  go_loopg [4] f1 (fun f' v wr => ∃ (p : Option Addr) (n d : Nat) (ks : List Nat) (st : PS), v = .slice p n d ∧ Hid (f' ≤ f1 ∧ Mid E X (.slice p n d) ks w R f' 0 (code .blockL) { place := (tokAt E.l s.pos).place, ks := ks } st wr))
  case atStart => exact ⟨_, _, _, _, _, rfl, Lib.hid ⟨Nat.le_refl _, HM1.out⟩⟩
  case round =>
    obtain ⟨p0, n0, d0, ks0, s0, rfl, HR⟩ := hrel
    obtain ⟨hle, M⟩ := HR.out
    have HL := Lib.hid hle
    have HMR := Lib.hid M
    clear HR hle M HM1
    go_wp2_with fail
    refine (Mid.acceptB (HMR.out) (by decide)).mono ?_
    rintro e w31 (⟨rfl, hb31, M31⟩ | ⟨rfl, M31⟩)
    · have HM31 := Lib.hid M31
      clear M31
      have HB31 := Lib.hid hb31
      clear hb31
      go_wp2_with fail
      refine (Mid.add (HM31.out) rfl).mono ?_
      rintro e w32 ⟨k32, rfl, M32⟩
      have HM32 := Lib.hid M32
      clear M32
      go_wp2
      go_ret
      exact (HM32.out).post rfl
    · have HM31 := Lib.hid M31
      clear M31
      go_wp2_with fail
      refine (Mid.call (HM31.out) ((HI.out _ (by have := HF.out; have := HL.out; omega)).stmt) rfl (by simp [needs])).mono ?_
      rintro e w33 (⟨kb, hkb, rfl, hxb⟩ | ⟨k33, s33, rfl, M33⟩)
      · exact ⟨rfl, Post1.bad hkb hxb⟩
      have HM33 := Lib.hid M33
      clear M33
      go_wp2_with (at_builtin; refine wpList_kids (by rfl) _ _ (by rfl) (HM33.out) (by rfl) k33 (by rfl) (by rfl) ?_; intro p34 n34 d34 w34 M34; have HM34 := Lib.hid M34; clear M34)
      obtain ⟨f2, hf2, MB⟩ := (HM34.out).tail
      have HMB := Lib.hid MB
      have HF2 := Lib.hid hf2
      clear MB hf2
      go_wp2
      go_roundg f2
      case rel => exact ⟨_, _, _, _, _, rfl, Lib.hid ⟨by have := HF2.out; have := HL.out; omega, HMB.out⟩⟩
      case measure => have := HF2.out; omega

set_option maxHeartbeats 4000000 in
set_option maxRecDepth 100000 in
theorem decl_c {E : Env} (hE : E.ok) (he : endsOnce E.l = true) {f : Nat} (IH : ∀ f', f' ≤ f → Cs E f') : C E 38 #[ptr E] .decl {} (f + 1) := by
  refine C.mk hE he fun X w s R M hk => ?_
  have HK := Lib.hid hk
  clear hk
  have HM0 := Lib.hid M
  have HI := Lib.hid IH
  clear M IH he hE
  have hf0 := field0
  have hf1 := field1
  unfold ptr
  go_enter Tryd.func38, Tryd.ntmps38
  go_wp2_with fail
  refine (Mid.typeWord (HM0.out)).mono ?_
  rintro e w1 (⟨kb, hkb, rfl, hxb⟩ | ⟨ty1, rfl, M1⟩)
  · exact ⟨rfl, Post1.bad hkb hxb⟩
  have HM1 := Lib.hid M1
  clear M1
  go_wp2_with fail
  refine (Mid.call (HM1.out) ((HI.out _ (Nat.le_refl _)).vard ty1) rfl (by simp [needs])).mono ?_
  rintro e w2 (⟨kb, hkb, rfl, hxb⟩ | ⟨k2, s2, rfl, M2⟩)
  · exact ⟨rfl, Post1.bad hkb hxb⟩
  have HM2 := Lib.hid M2
  clear M2
  obtain ⟨f1, hf, M2⟩ := ((HM2.out).kids1 k2).tail
  have HM1 := Lib.hid M2
  have HF := Lib.hid hf
  clear M2 hf
  go_wp2
  go_loopg [5] f1 (fun f' v wr => ∃ (p : Option Addr) (n d : Nat) (ks : List Nat) (st : PS), v = .slice p n d ∧ Hid (f' ≤ f1 ∧ Mid E X (.slice p n d) ks w R f' 0 (code .declL) { place := (tokAt E.l s.pos).place, typ := ty1, ks := ks } st wr))
  case atStart => exact ⟨_, _, _, _, _, rfl, Lib.hid ⟨Nat.le_refl _, HM1.out⟩⟩
  case round =>
    obtain ⟨p0, n0, d0, ks0, s0, rfl, HR⟩ := hrel
    obtain ⟨hle, M⟩ := HR.out
    have HL := Lib.hid hle
    have HMR := Lib.hid M
    clear HR hle M HM1
    go_wp2_with fail
    refine (Mid.acceptB (HMR.out) (by decide)).mono ?_
    rintro e w31 (⟨rfl, hb31, M31⟩ | ⟨rfl, M31⟩)
    · have HM31 := Lib.hid M31
      clear M31
      have HB31 := Lib.hid hb31
      clear hb31
      go_wp2_with fail
      refine (Mid.call (HM31.out) ((HI.out _ (by have := HF.out; have := HL.out; omega)).vard ty1) rfl (by simp [needs])).mono ?_
      rintro e w32 (⟨kb, hkb, rfl, hxb⟩ | ⟨k32, s32, rfl, M32⟩)
      · exact ⟨rfl, Post1.bad hkb hxb⟩
      have HM32 := Lib.hid M32
      clear M32
      go_wp2_with (at_builtin; refine wpList_kids (by rfl) _ _ (by rfl) (HM32.out) (by rfl) k32 (by rfl) (by rfl) ?_; intro p33 n33 d33 w33 M33; have HM33 := Lib.hid M33; clear M33)
      obtain ⟨f2, hf2, MB⟩ := (HM33.out).tail
      have HMB := Lib.hid MB
      have HF2 := Lib.hid hf2
      clear MB hf2
      go_wp2
      go_roundg f2
      case rel => exact ⟨_, _, _, _, _, rfl, Lib.hid ⟨by have := HF2.out; have := HL.out; omega, HMB.out⟩⟩
      case measure => have := HF2.out; omega
    · have HM31 := Lib.hid M31
      clear M31
      go_wp2_with fail
      refine (Mid.sign (HM31.out)).mono ?_
      rintro e w34 (⟨kb, hkb, rfl, hxb⟩ | ⟨rfl, hb34, M34⟩)
      · exact ⟨rfl, Post1.bad hkb hxb⟩
      have HM34 := Lib.hid M34
      clear M34
      clear hb34
      go_wp2_with fail
      refine (Mid.add ((HM34.out).typ) rfl).mono ?_
      rintro e w35 ⟨k35, rfl, M35⟩
      have HM35 := Lib.hid M35
      clear M35
      go_wp2
      go_ret
      exact (HM35.out).post rfl

set_option maxHeartbeats 4000000 in
set_option maxRecDepth 100000 in
theorem args_c {E : Env} (hE : E.ok) (he : endsOnce E.l = true) {f : Nat} (IH : ∀ f', f' ≤ f → Cs E f') : CL E 83 #[ptr E] .args {} (f + 1) := by
  refine CL.mk hE he fun X w s R M => ?_
  have HM0 := Lib.hid M
  have HI := Lib.hid IH
  clear M IH he hE
  have hf0 := field0
  have hf1 := field1
  unfold ptr
  go_enter Tryd.func83, Tryd.ntmps83
  go_wp2_with fail
  refine (Mid.acceptB (HM0.out) (by decide)).mono ?_
  rintro e w1 (⟨rfl, hb1, M1⟩ | ⟨rfl, M1⟩)
  · have HM1 := Lib.hid M1
    clear M1 hb1
    go_wp2
    go_ret
    exact (HM1.out).postL rfl
  have HM1 := Lib.hid M1
  clear M1
  go_wp2_with fail
  refine (Mid.call (HM1.out) ((HI.out _ (Nat.le_refl _)).assign) rfl (by simp [needs])).mono ?_
  rintro e w2 (⟨kb, hkb, rfl, hxb⟩ | ⟨k2, s2, rfl, M2⟩)
  · exact ⟨rfl, PostL.bad hkb hxb⟩
  have HM2 := Lib.hid M2
  clear M2
  obtain ⟨f1, hf, M2⟩ := ((HM2.out).kids1 k2).tail
  have HM1 := Lib.hid M2
  have HF := Lib.hid hf
  clear M2 hf
  go_wp2
  go_loopg [3] f1 (fun f' v wr => ∃ (p : Option Addr) (n d : Nat) (ks : List Nat) (st : PS), v = .slice p n d ∧ Hid (f' ≤ f1 ∧ Mid E X (.slice p n d) ks w R f' 0 (code .argsL) { ks := ks } st wr))
  case atStart => exact ⟨_, _, _, _, _, rfl, Lib.hid ⟨Nat.le_refl _, HM1.out⟩⟩
  case round =>
    obtain ⟨p0, n0, d0, ks0, s0, rfl, HR⟩ := hrel
    obtain ⟨hle, M⟩ := HR.out
    have HL := Lib.hid hle
    have HMR := Lib.hid M
    clear HR hle M HM1
    go_wp2_with fail
    refine (Mid.acceptB (HMR.out) (by decide)).mono ?_
    rintro e w31 (⟨rfl, hb31, M31⟩ | ⟨rfl, M31⟩)
    · have HM31 := Lib.hid M31
      clear M31
      have HB31 := Lib.hid hb31
      clear hb31
      go_wp2_with fail
      refine (Mid.call (HM31.out) ((HI.out _ (by have := HF.out; have := HL.out; omega)).assign) rfl (by simp [needs])).mono ?_
      rintro e w32 (⟨kb, hkb, rfl, hxb⟩ | ⟨k32, s32, rfl, M32⟩)
      · exact ⟨rfl, PostL.bad hkb hxb⟩
      have HM32 := Lib.hid M32
      clear M32
      go_wp2_with (at_builtin; refine wpList_kids (by rfl) _ _ (by rfl) (HM32.out) (by rfl) k32 (by rfl) (by rfl) ?_; intro p33 n33 d33 w33 M33; have HM33 := Lib.hid M33; clear M33)
      obtain ⟨f2, hf2, MB⟩ := (HM33.out).tail
      have HMB := Lib.hid MB
      have HF2 := Lib.hid hf2
      clear MB hf2
      go_wp2
      go_roundg f2
      case rel => exact ⟨_, _, _, _, _, rfl, Lib.hid ⟨by have := HF2.out; have := HL.out; omega, HMB.out⟩⟩
      case measure => have := HF2.out; omega
    · have HM31 := Lib.hid M31
      clear M31
      go_wp2_with fail
      refine (Mid.sign (HM31.out)).mono ?_
      rintro e w34 (⟨kb, hkb, rfl, hxb⟩ | ⟨rfl, hb34, M34⟩)
      · exact ⟨rfl, PostL.bad hkb hxb⟩
      have HM34 := Lib.hid M34
      clear M34
      clear hb34
      go_wp2
      go_ret
      exact (HM34.out).postL rfl

set_option maxHeartbeats 4000000 in
set_option maxRecDepth 100000 in
theorem enum_c {E : Env} (hE : E.ok) (he : endsOnce E.l = true) {f : Nat} (IH : ∀ f', f' ≤ f → Cs E f') : C E 35 #[ptr E] .enum {} (f + 1) := by
  refine C.mk hE he fun X w s R M hk => ?_
  have HK := Lib.hid hk
  clear hk
  have HM0 := Lib.hid M
  have HI := Lib.hid IH
  clear M IH he hE
  have hf0 := field0
  have hf1 := field1
  unfold ptr
  go_enter Tryd.func35, Tryd.ntmps35
  go_wp2_with fail
  refine (Mid.take ((HM0.out).here) ((HK.out rfl))).mono ?_
  rintro e w1 ⟨rfl, M1⟩
  have HM1 := Lib.hid M1
  clear M1
  go_wp2_with fail
  refine (Mid.sign (HM1.out)).mono ?_
  rintro e w2 (⟨kb, hkb, rfl, hxb⟩ | ⟨rfl, hb2, M2⟩)
  · exact ⟨rfl, Post1.bad hkb hxb⟩
  have HM2 := Lib.hid M2
  clear M2
  clear hb2
  go_wp2_with fail
  refine (Mid.call (HM2.out) ((HI.out _ (Nat.le_refl _)).entry) rfl (by simp [needs])).mono ?_
  rintro e w3 (⟨kb, hkb, rfl, hxb⟩ | ⟨k3, s3, rfl, M3⟩)
  · exact ⟨rfl, Post1.bad hkb hxb⟩
  have HM3 := Lib.hid M3
  clear M3
  obtain ⟨f1, hf, M2⟩ := ((HM3.out).kids1 k3).tail
  have HM1 := Lib.hid M2
  have HF := Lib.hid hf
  clear M2 hf
  go_wp2
  go_loopg [4] f1 (fun f' v wr => ∃ (p : Option Addr) (n d : Nat) (ks : List Nat) (st : PS), v = .slice p n d ∧ Hid (f' ≤ f1 ∧ Mid E X (.slice p n d) ks w R f' 0 (code .enumL) { place := (tokAt E.l s.pos).place, ks := ks } st wr))
  case atStart => exact ⟨_, _, _, _, _, rfl, Lib.hid ⟨Nat.le_refl _, HM1.out⟩⟩
  case round =>
    obtain ⟨p0, n0, d0, ks0, s0, rfl, HR⟩ := hrel
    obtain ⟨hle, M⟩ := HR.out
    have HL := Lib.hid hle
    have HMR := Lib.hid M
    clear HR hle M HM1
    go_wp2_with fail
    refine (Mid.acceptB (HMR.out) (by decide)).mono ?_
    rintro e w31 (⟨rfl, hb31, M31⟩ | ⟨rfl, M31⟩)
    · have HM31 := Lib.hid M31
      clear M31
      have HB31 := Lib.hid hb31
      clear hb31
      go_wp2_with fail
      refine (Mid.seesB (HM31.out)).mono ?_
      rintro e w32 (⟨rfl, hb32, M32⟩ | ⟨rfl, hb32, M32⟩)
      · have HM32 := Lib.hid M32
        clear M32 hb32
        go_wp2_with fail
        refine (Mid.sign (HM32.out)).mono ?_
        rintro e w33 (⟨kb, hkb, rfl, hxb⟩ | ⟨rfl, hb33, M33⟩)
        · exact ⟨rfl, Post1.bad hkb hxb⟩
        have HM33 := Lib.hid M33
        clear M33
        clear hb33
        go_wp2_with fail
        refine (Mid.sign (HM33.out)).mono ?_
        rintro e w34 (⟨kb, hkb, rfl, hxb⟩ | ⟨rfl, hb34, M34⟩)
        · exact ⟨rfl, Post1.bad hkb hxb⟩
        have HM34 := Lib.hid M34
        clear M34
        clear hb34
        go_wp2_with fail
        refine (Mid.add (HM34.out) rfl).mono ?_
        rintro e w35 ⟨k35, rfl, M35⟩
        have HM35 := Lib.hid M35
        clear M35
        go_wp2
        go_ret
        exact (HM35.out).post rfl
      have HM32 := Lib.hid M32
      clear M32 hb32
      go_wp2_with fail
      refine (Mid.call (HM32.out) ((HI.out _ (by have := HF.out; have := HL.out; omega)).entry) rfl (by simp [needs])).mono ?_
      rintro e w36 (⟨kb, hkb, rfl, hxb⟩ | ⟨k36, s36, rfl, M36⟩)
      · exact ⟨rfl, Post1.bad hkb hxb⟩
      have HM36 := Lib.hid M36
      clear M36
      go_wp2_with (at_builtin; refine wpList_kids (by rfl) _ _ (by rfl) (HM36.out) (by rfl) k36 (by rfl) (by rfl) ?_; intro p37 n37 d37 w37 M37; have HM37 := Lib.hid M37; clear M37)
      obtain ⟨f2, hf2, MB⟩ := (HM37.out).tail
      have HMB := Lib.hid MB
      have HF2 := Lib.hid hf2
      clear MB hf2
      go_wp2
      go_roundg f2
      case rel => exact ⟨_, _, _, _, _, rfl, Lib.hid ⟨by have := HF2.out; have := HL.out; omega, HMB.out⟩⟩
      case measure => have := HF2.out; omega
    · have HM31 := Lib.hid M31
      clear M31
      go_wp2_with fail
      refine (Mid.sign (HM31.out)).mono ?_
      rintro e w38 (⟨kb, hkb, rfl, hxb⟩ | ⟨rfl, hb38, M38⟩)
      · exact ⟨rfl, Post1.bad hkb hxb⟩
      have HM38 := Lib.hid M38
      clear M38
      clear hb38
      go_wp2_with fail
      refine (Mid.sign (HM38.out)).mono ?_
      rintro e w39 (⟨kb, hkb, rfl, hxb⟩ | ⟨rfl, hb39, M39⟩)
      · exact ⟨rfl, Post1.bad hkb hxb⟩
      have HM39 := Lib.hid M39
      clear M39
      clear hb39
      go_wp2_with fail
      refine (Mid.add (HM39.out) rfl).mono ?_
      rintro e w40 ⟨k40, rfl, M40⟩
      have HM40 := Lib.hid M40
      clear M40
      go_wp2
      go_ret
      exact (HM40.out).post rfl

set_option maxHeartbeats 4000000 in
set_option maxRecDepth 100000 in
theorem posts_c {E : Env} (hE : E.ok) (he : endsOnce E.l = true) {f : Nat} (IH : ∀ f', f' ≤ f → Cs E f') : C E 75 #[ptr E] .posts {} (f + 1) := by
  refine C.mk hE he fun X w s R M hk => ?_
  have HK := Lib.hid hk
  clear hk
  have HM0 := Lib.hid M
  have HI := Lib.hid IH
  clear M IH he hE
  have hf0 := field0
  have hf1 := field1
  unfold ptr
  go_enter Tryd.func75, Tryd.ntmps75
  go_wp2_with fail
  refine (Mid.call (HM0.out) ((HI.out _ (Nat.le_refl _)).primary) rfl (by simp [needs])).mono ?_
  rintro e w1 (⟨kb, hkb, rfl, hxb⟩ | ⟨k1, s1, rfl, M1⟩)
  · exact ⟨rfl, Post1.bad hkb hxb⟩
  have HM1 := Lib.hid M1
  clear M1
  obtain ⟨f1, hf, M2⟩ := (HM1.out).tail
  have HM1 := Lib.hid M2
  have HF := Lib.hid hf
  clear M2 hf
  go_wp2
  go_loopg [3] f1 (fun f' v wr => ∃ (k : Nat) (pl o : Int) (st : PS), v = .int .i64 k ∧ Hid (f' ≤ f1 ∧ Mid E X nilV [] w R f' 0 (code .postL) { place := pl, op := o, ks := [k] } st wr))
  case atStart => exact ⟨_, _, _, _, rfl, Lib.hid ⟨Nat.le_refl _, HM1.out⟩⟩
  case round =>
    obtain ⟨k0, pl0, o0, s0, rfl, HR⟩ := hrel
    obtain ⟨hle, M⟩ := HR.out
    have HL := Lib.hid hle
    have HMR := Lib.hid M
    clear HR hle M HM1
    go_wp2_with fail
    refine (Mid.seesB (HMR.out)).mono ?_
    rintro e w31 (⟨rfl, hb31, M31⟩ | ⟨rfl, hb31, M31⟩)
    · have HM31 := Lib.hid M31
      clear M31
      have HB31 := Lib.hid hb31
      clear hb31
      go_wp2_with fail
      refine (Mid.take (((HM31.out).here).op) (by rw [isT_kind HB31.out]; decide)).mono ?_
      rintro e w32 ⟨rfl, M32⟩
      have HM32 := Lib.hid M32
      clear M32
      go_wp2_with fail
      refine (Mid.add ((HM32.out).kids1 k0) rfl).mono ?_
      rintro e w33 ⟨k33, rfl, M33⟩
      have HM33 := Lib.hid M33
      clear M33
      obtain ⟨f2, hf2, MB⟩ := (HM33.out).tail
      have HMB := Lib.hid MB
      have HF2 := Lib.hid hf2
      clear MB hf2
      go_wp2
      go_roundg f2
      case rel => exact ⟨_, _, _, _, rfl, Lib.hid ⟨by have := HF2.out; have := HL.out; omega, HMB.out⟩⟩
      case measure => have := HF2.out; omega
    · have HM31 := Lib.hid M31
      clear M31
      have HB31 := Lib.hid hb31
      clear hb31
      go_wp2_with fail
      refine (Mid.seesB (HM31.out)).mono ?_
      rintro e w34 (⟨rfl, hb34, M34⟩ | ⟨rfl, hb34, M34⟩)
      · have HM34 := Lib.hid M34
        clear M34
        have HB34 := Lib.hid hb34
        clear hb34
        go_wp2_with fail
        refine (Mid.take (((HM34.out).here).op) (by rw [isT_kind HB34.out]; decide)).mono ?_
        rintro e w35 ⟨rfl, M35⟩
        have HM35 := Lib.hid M35
        clear M35
        go_wp2_with fail
        refine (Mid.add ((HM35.out).kids1 k0) rfl).mono ?_
        rintro e w36 ⟨k36, rfl, M36⟩
        have HM36 := Lib.hid M36
        clear M36
        obtain ⟨f2, hf2, MB⟩ := (HM36.out).tail
        have HMB := Lib.hid MB
        have HF2 := Lib.hid hf2
        clear MB hf2
        go_wp2
        go_roundg f2
        case rel => exact ⟨_, _, _, _, rfl, Lib.hid ⟨by have := HF2.out; have := HL.out; omega, HMB.out⟩⟩
        case measure => have := HF2.out; omega
      · have HM34 := Lib.hid M34
        clear M34
        have HB34 := Lib.hid hb34
        clear hb34
        go_wp2
        go_ret
        exact (HM34.out).post rfl
end Go.Proofs.YteggenldmkbhiaaDoor.Parse
namespace Go.Proofs.YteggenldmkbhiaaDoor.Parse
open Go.RowKit

theorem opT_range {k : Int} {t : Bs} {kd o : Int} {str : Nat} (h : opT k t = some (kd, o, str)) : k = 4 ∧ 1 ≤ str ∧ str ≤ 10 := by
  unfold opT at h
  split at h
  · rename_i hk
    refine ⟨hk, ?_⟩
    have := lookup_mem _ _ _ h
    have hall : ∀ p ∈ opL, 1 ≤ p.2.2.2 ∧ p.2.2.2 ≤ 10 := by decide
    exact hall _ this
  · cases h
theorem operatorOf_some {t : PT} {w : World} (hw : OpsAt w) {kd o : Int} {str : Nat} (h : opT t.kind t.text = some (kd, o, str)) :
    Calls Tryd.prog 64 #[.agg #[.int .i64 t.kind, .int .i64 t.place, .string ⟨t.text.toArray⟩, .int .u32 t.num, .bool t.uns]] w fun e w' => e = .returned (.agg #[.string ⟨t.text.toArray⟩, .int .i64 kd, .int .i64 o, .int .i64 (str : Int)]) ∧ Below w.heap.size w w' := by
  have := operatorOf_any t w hw
  unfold opVal at this
  rw [h] at this; exact this
theorem operatorOf_none {t : PT} {w : World} (hw : OpsAt w) (h : opT t.kind t.text = none) :
    Calls Tryd.prog 64 #[.agg #[.int .i64 t.kind, .int .i64 t.place, .string ⟨t.text.toArray⟩, .int .u32 t.num, .bool t.uns]] w fun e w' => e = .returned (.agg #[.string ⟨#[]⟩, .int .i64 0, .int .i64 0, .int .i64 0]) ∧ Below w.heap.size w w' := by
  have := operatorOf_any t w hw
  unfold opVal at this
  rw [h] at this; exact this
theorem Mid.takeX {E : Env} {X : Nat → Prop} {av : Value} {acc : List Nat} {w0 : World} {R : Res} {f m : Nat} {c : Code} {x : Loc} {s : PS} {w : World} (M : Mid E X av acc w0 R f m (.take c) x s w) (hk : (tokAt E.l s.pos).kind ≠ 0) :
    Calls Tryd.prog 41 #[ptr E] w fun e w' => e = .returned (.agg #[.int .i64 (tokAt E.l s.pos).kind, .int .i64 (tokAt E.l s.pos).place, .string ⟨(tokAt E.l s.pos).text.toArray⟩, .int .u32 (tokAt E.l s.pos).num, .bool (tokAt E.l s.pos).uns]) ∧
      Mid E X av acc w0 R f (m + 1) c x ⟨s.pos + 1, s.nodes⟩ w' ∧ Ext E.B w w' :=
  (take_any M.ok M.st M.pos).mono fun _ _ ⟨he, hs, hx⟩ => ⟨he, M.took hk hs hx, hx⟩
theorem Mid.callX {E : Env} {X : Nat → Prop} {av : Value} {acc : List Nat} {w0 : World} {R : Res} {f m : Nat} {c : Code} {x : Loc} {s : PS} {w : World} {fid : Nat} {args : Array Value} {nt : NT} {p : Bool} (M : Mid E X av acc w0 R f m (.call nt p c) x s w) (hc : C E fid args nt { typ := if p then x.typ else 0 } f) (hsp : spare nt = 0) (hk : needs nt = true → (tokAt E.l s.pos).kind ≠ 0) :
    Calls Tryd.prog fid args w (Either E w0 R fun e w' => ∃ (k : Nat) (s' : PS), e = .returned (.int .i64 (k : Int)) ∧ Mid E X av acc w0 R f m c { x with ks := x.ks ++ [k] } s' w' ∧ Ext E.B w w') := by
  have hres := M.res
  simp only [exec] at hres
  have hne : run E.l f nt { typ := if p then x.typ else 0 } s ≠ .out := fun h => by rw [h] at hres; exact M.ne hres
  refine (hc _ w s M.xlt M.st M.pos (by have := M.cnt; omega) hk hne).mono ?_
  rintro e w' (⟨k, h1, he, hx⟩ | ⟨k, s', h1, he, hs, hx⟩)
  · exact .inl ⟨k, by rw [hres, h1]; rfl, he, M.ext.trans hx⟩
  · have hl := endsOnce_last M.ends
    have hp := run_pos hl _ _ _ _ _ _ h1
    have hn := run_count _ _ _ _ _ _ h1
    have hq := run_len _ _ _ _ _ _ h1
    refine .inr ⟨k, s', he, ⟨M.ok, M.ends, M.sep, M.base0, M.ka.ext hx, hs, M.ext.trans hx, hp.2.2 M.pos, by have := M.cnt; omega, by rw [hres, h1]; rfl, M.ne, by have := M.xlen; simp at hq ⊢; omega⟩, hx⟩
theorem ext80 {B b : Nat} {w w' : World} {cs : Array Value} (h : w.heap[b]? = some (.cells cs 80 (0, 0))) (hx : Ext B w w') : w'.heap[b]? = some (.cells cs 80 (0, 0)) := by
  rw [hx.block b (lt_of_block h) (.inr (by rw [h]; rfl))]; exact h
theorem Mid.ops {E : Env} {X : Nat → Prop} {av : Value} {acc : List Nat} {w0 : World} {R : Res} {f m : Nat} {c : Code} {x : Loc} {s : PS} {w : World} (M : Mid E X av acc w0 R f m c x s w) : OpsAt w := let ⟨_, hv⟩ := M.st; hv.2.1.2

set_option maxHeartbeats 4000000 in
set_option maxRecDepth 100000 in
theorem climb_c {E : Env} (hE : E.ok) (he : endsOnce E.l = true) {f : Nat} (IH : ∀ f', f' ≤ f → Cs E f') (n : Nat) (h1 : 1 ≤ n) (h11 : n ≤ 11) : C E 57 #[ptr E, .int .i64 (n : Int)] (.climb n) {} (f + 1) := by
  refine C.mk hE he fun X w s R M hk => ?_
  have HK := Lib.hid hk
  clear hk
  have HM0 := Lib.hid M
  have HI := Lib.hid IH
  clear M IH he hE
  have hf0 := field0
  have hf1 := field1
  unfold ptr
  go_enter Tryd.func57, Tryd.ntmps57
  go_wp2_with fail
  refine (Mid.call (HM0.out) ((HI.out _ (Nat.le_refl _)).unary) rfl (by simp [needs])).mono ?_
  rintro e w1 (⟨kb, hkb, rfl, hxb⟩ | ⟨k1, s1, rfl, M1⟩)
  · exact ⟨rfl, Post1.bad hkb hxb⟩
  have HM1 := Lib.hid M1
  clear M1
  obtain ⟨f1, hf, M2⟩ := (HM1.out).tail
  have HMS := Lib.hid M2
  have HF := Lib.hid hf
  clear M2 hf
  go_wp2
  go_loopg [5] f1 (fun f' v wr => ∃ (k : Nat) (pl o : Int) (st : PS), v = .int .i64 k ∧ Hid (f' ≤ f1 ∧ Mid E X nilV [] w R f' 0 (code (.climbL n)) { place := pl, op := o, ks := [k] } st wr))
  case atStart => exact ⟨_, _, _, _, rfl, Lib.hid ⟨Nat.le_refl _, HMS.out⟩⟩
  case round =>
    obtain ⟨k0, pl0, o0, s0, rfl, HR⟩ := hrel
    obtain ⟨hle, M⟩ := HR.out
    have HL := Lib.hid hle
    have hL := M.look
    simp only [Nat.add_zero] at hL
    clear HR hle M HMS
    cases ha : opT (tokAt E.l s0.pos).kind (tokAt E.l s0.pos).text with
    | none =>
      simp only [ha] at hL
      have HM := Lib.hid hL
      have HA := Lib.hid ha
      have hd : ((0 : Int) < (n : Int)) := by omega
      clear hL ha
      go_wp2_with fail
      refine (Mid.peek HM.out).mono ?_
      rintro e w31 ⟨rfl, M31⟩
      have HM31 := Lib.hid M31
      clear M31 HM
      go_wp2_with fail
      refine (operatorOf_none HM31.out.ops HA.out).mono ?_
      rintro e w32 ⟨rfl, hb32⟩
      have HM32 := Lib.hid (HM31.out.below hb32)
      clear hb32 HM31
      go_wp2
      go_ret
      exact (HM32.out.alloc _).post rfl
    | some r =>
      obtain ⟨kd, o, str⟩ := r
      obtain ⟨hk4, hs1, hs10⟩ := opT_range ha
      simp only [ha] at hL
      by_cases hlt : str < n
      · rw [if_pos hlt] at hL
        have HM := Lib.hid hL
        have HA := Lib.hid ha
        have hd : decide (str < n) = true := by simpa using hlt
        have HOP := Lib.hid (fun (w : World) (h : OpsAt w) => operatorOf_some h ha)
        clear hL ha hlt hs1 hs10 hk4
        go_wp2_with fail
        refine (Mid.peek HM.out).mono ?_
        rintro e w31 ⟨rfl, M31⟩
        have HM31 := Lib.hid M31
        clear M31 HM
        go_wp2_with fail
        refine (HOP.out _ HM31.out.ops).mono ?_
        rintro e w32 ⟨rfl, hb32⟩
        have HM32 := Lib.hid (HM31.out.below hb32)
        clear hb32 HM31
        go_wp2
        go_ret
        exact (HM32.out.alloc _).post rfl
      · rw [if_neg hlt] at hL
        have HM := Lib.hid hL
        have HA := Lib.hid ha
        have HK4 := Lib.hid hk4
        have hd : decide (str < n) = false := by simpa using hlt
        have HOP := Lib.hid (fun (w : World) (h : OpsAt w) => operatorOf_some h ha)
        have HS10 := Lib.hid (And.intro hs1 hs10)
        clear hL ha hk4 hlt hs1 hs10
        go_wp2_with fail
        refine (Mid.peek HM.out).mono ?_
        rintro e w31 ⟨rfl, M31⟩
        have HM31 := Lib.hid M31
        clear M31 HM
        go_wp2_with fail
        refine (HOP.out _ HM31.out.ops).mono ?_
        rintro e w32 ⟨rfl, hb32⟩
        have HM32 := Lib.hid (HM31.out.below hb32)
        clear hb32 HM31
        go_wp2_with fail
        refine (Mid.takeX ((HM32.out.alloc _).here.op) (by rw [HK4.out]; decide)).mono ?_
        rintro e w33 ⟨rfl, M33, hx33⟩
        have hb33 := ext80 (heap_alloc_new w32 _) hx33
        have HB33 := Lib.hid hb33
        have c1 : w33.cell? ⟨w32.heap.size, 1, none⟩ = some (.int .i64 kd) := by rw [cell_of_row _ _ _ _ _ _ hb33]; rfl
        have c2 : w33.cell? ⟨w32.heap.size, 2, none⟩ = some (.int .i64 o) := by rw [cell_of_row _ _ _ _ _ _ hb33]; rfl
        have c3 : w33.cell? ⟨w32.heap.size, 3, none⟩ = some (.int .i64 (str : Int)) := by rw [cell_of_row _ _ _ _ _ _ hb33]; rfl
        have HM33 := Lib.hid M33
        clear M33 hx33 hb33 HM32
        have q0 : (0 : Int) ≤ (str : Int) := by omega
        have q1 : (str : Int) ≤ 10 := by have := HS10.out.2; omega
        go_wp2_with fail
        refine (Mid.callX HM33.out ((HI.out _ (by have := HF.out; have := HL.out; omega)).climb (str + 1) (by omega) (by have := HS10.out.2; omega)) rfl (by simp [needs])).mono ?_
        rintro e w34 (⟨kb, hkb, rfl, hxb⟩ | ⟨k34, s34, rfl, M34, hx34⟩)
        · exact ⟨rfl, Post1.bad hkb hxb⟩
        have hb34 := ext80 HB33.out hx34
        have d1 : w34.cell? ⟨w32.heap.size, 1, none⟩ = some (.int .i64 kd) := by rw [cell_of_row _ _ _ _ _ _ hb34]; rfl
        have d2 : w34.cell? ⟨w32.heap.size, 2, none⟩ = some (.int .i64 o) := by rw [cell_of_row _ _ _ _ _ _ hb34]; rfl
        have HM34 := Lib.hid M34
        clear M34 hx34 hb34 HM33 c1 c2 c3 q0 q1
        go_wp2_with fail
        refine (Mid.add (HM34.out.kids2 k0 k34) rfl).mono ?_
        rintro e w35 ⟨k35, rfl, M35⟩
        obtain ⟨f2, hf2, MB⟩ := M35.tail
        have HMB := Lib.hid MB
        have HF2 := Lib.hid hf2
        clear MB hf2 M35 HM34 d1 d2
        go_wp2
        go_roundg f2
        case rel => exact ⟨_, _, _, _, rfl, Lib.hid ⟨by have := HF2.out; have := HL.out; omega, HMB.out⟩⟩
        case measure => have := HF2.out; omega
end Go.Proofs.YteggenldmkbhiaaDoor.Parse
namespace Go.Proofs.YteggenldmkbhiaaDoor.Parse
open Go.RowKit

def PostF (E : Env) (X : Nat → Prop) (w0 : World) (R : Res) (e : Ending) (w' : World) : Prop :=
  (∃ k, R = .bad k ∧ e = thrown E k ∧ Ext E.B w0 w') ∨ (∃ (ks : List Nat) (s' : PS), R = .ok ks s' ∧ e = .returned (.tuple #[]) ∧ St E X s' w' ∧ Ext E.B w0 w')
theorem PostF.bad {E : Env} {X : Nat → Prop} {w0 w : World} {R : Res} {k : Nat} (h : R = .bad k) (hx : Ext E.B w0 w) : PostF E X w0 R (thrown E k) w := .inl ⟨k, h, rfl, hx⟩
theorem Mid.addEnd {E : Env} {X : Nat → Prop} {av : Value} {acc : List Nat} {w0 : World} {R : Res} {f m : Nat} {x : Loc} {s : PS} {w : World} {kind : Int} (M : Mid E X av acc w0 R f m (.add kind .ret) x s w) (hk : x.ks = acc) :
    Calls Tryd.prog 26 #[ptr E, .agg #[.int .i64 kind, .int .i64 x.place, .int .i64 x.op, .int .i64 x.typ, .int .i64 x.num, .int .i64 0, .string ⟨x.name.toArray⟩, av]] w fun e w' =>
      ∃ (k : Nat) (s' : PS), e = .returned (.int .i64 (k : Int)) ∧ R = .ok [k] s' ∧ St E X s' w' ∧ Ext E.B w0 w' :=
  (add_any M.ok (M.drop.st) M.len ⟨kind, x.place, x.op, x.typ, x.num, x.name, x.ks⟩ av (by rw [hk]; exact M.ka.mono M.base0) (fun b hb h => by
    rcases h with h | h
    · have := M.sep b h; have := (M.ka.lt b hb).1; omega
    · simp [nilV, Value.ownBlock] at h)).mono fun _ w' ⟨he, hs, hx⟩ =>
    ⟨s.nodes.length, _, he, by rw [M.res]; rfl, hs.sep (fun b h => .inl (.inl h)), M.ext.trans hx⟩

set_option maxHeartbeats 4000000 in
set_option maxRecDepth 100000 in
theorem file_c {E : Env} {f : Nat} (IH : ∀ f', f' ≤ f → Cs E f') {X : Nat → Prop} {w : World} {R : Res} {s0 : PS} (M : Mid E X nilV [] w R f 0 (code .fileL) {} s0 w) :
    Calls Tryd.prog 20 #[ptr E] w (PostF E X w R) := by
  have HM0 := Lib.hid M
  have HI := Lib.hid IH
  clear M IH
  have hf0 := field0
  unfold ptr
  go_enter Tryd.func20, Tryd.ntmps20
  go_wp2
  go_loopg [2] f (fun f' v wr => ∃ (p : Option Addr) (n d : Nat) (ks : List Nat) (st : PS), v = .slice p n d ∧ Hid (f' ≤ f ∧ Mid E X (.slice p n d) ks w R f' 0 (code .fileL) { ks := ks } st wr))
  case atStart => exact ⟨_, _, _, _, _, rfl, Lib.hid ⟨Nat.le_refl _, HM0.out⟩⟩
  case round =>
    obtain ⟨p0, n0, d0, ks0, s1, rfl, HR⟩ := hrel
    obtain ⟨hle, M⟩ := HR.out
    have HL := Lib.hid hle
    have hL := M.look
    simp only [Nat.add_zero] at hL
    clear HR hle M HM0
    by_cases h0 : (tokAt E.l s1.pos).kind = 0
    · rw [if_pos h0] at hL
      have hb : ((tokAt E.l s1.pos).kind != 0) = false := by simpa using h0
      have HM := Lib.hid hL
      clear hL h0
      go_wp2_with fail
      refine (Mid.peek HM.out).mono ?_
      rintro e w31 ⟨rfl, M31⟩
      have HM31 := Lib.hid M31
      clear M31 HM
      go_wp2_with fail
      refine (Mid.addEnd HM31.out rfl).mono ?_
      rintro e w32 ⟨k32, s32, rfl, hR, hS, hX⟩
      have HP := Lib.hid (And.intro hR (And.intro hS hX))
      clear hR hS hX HM31
      go_wp2
      go_end0
      exact .inr ⟨_, _, HP.out.1, rfl, HP.out.2.1, HP.out.2.2⟩
    · rw [if_neg h0] at hL
      have hb : ((tokAt E.l s1.pos).kind != 0) = true := by simpa using h0
      have HM := Lib.hid hL
      clear hL h0
      go_wp2_with fail
      refine (Mid.peek HM.out).mono ?_
      rintro e w31 ⟨rfl, M31⟩
      have HM31 := Lib.hid M31
      clear M31 HM
      go_wp2_with fail
      refine (Mid.call (HM31.out) ((HI.out _ (by have := HL.out; omega)).item) rfl (by simp [needs])).mono ?_
      rintro e w33 (⟨kb, hkb, rfl, hxb⟩ | ⟨k33, s33, rfl, M33⟩)
      · exact ⟨rfl, PostF.bad hkb hxb⟩
      have HM33 := Lib.hid M33
      clear M33
      go_wp2_with (at_builtin; refine wpList_kids (by rfl) _ _ (by rfl) (HM33.out) (by rfl) k33 (by rfl) (by rfl) ?_; intro p34 n34 d34 w34 M34; have HM34 := Lib.hid M34; clear M34)
      obtain ⟨f2, hf2, MB⟩ := (HM34.out).tail
      have HMB := Lib.hid MB
      have HF2 := Lib.hid hf2
      clear MB hf2
      go_wp2
      go_roundg f2
      case rel => exact ⟨_, _, _, _, _, rfl, Lib.hid ⟨by have := HF2.out; have := HL.out; omega, HMB.out⟩⟩
      case measure => have := HF2.out; omega
end Go.Proofs.YteggenldmkbhiaaDoor.Parse
