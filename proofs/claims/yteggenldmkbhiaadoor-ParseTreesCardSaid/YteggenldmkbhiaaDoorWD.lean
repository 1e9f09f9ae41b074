/- The parser's functions that choose by a token. -/
import Derived.Test.YteggenldmkbhiaaDoorWC
import Derived.IntWalk
namespace Go.Proofs.YteggenldmkbhiaaDoor.Parse
open Go.RowKit
set_option maxHeartbeats 4000000 in
set_option maxRecDepth 100000 in
theorem assign_c {E : Env} (hE : E.ok) (he : endsOnce E.l = true) {f : Nat} (IH : ∀ f', f' ≤ f → Cs E f') : C E 56 #[ptr E] .assign {} (f + 1) := by
  refine C.mk hE he fun X w s R M hk => ?_
  have HK := Lib.hid hk
  clear hk
  have HM0 := Lib.hid M
  have HI := Lib.hid IH
  clear M IH he hE
  have hf0 := field0
  have hf1 := field1
  unfold ptr
  go_enter Tryd.func56, Tryd.ntmps56
  go_wp2_with fail
  refine (Mid.call (HM0.out) ((HI.out _ (Nat.le_refl _)).cond) rfl (by simp [needs])).mono ?_
  rintro e w1 (⟨kb, hkb, rfl, hxb⟩ | ⟨k1, s1, rfl, M1⟩)
  · exact ⟨rfl, Post1.bad hkb hxb⟩
  have HM1 := Lib.hid M1
  clear M1
  go_wp2_with fail
  refine (Mid.peek (HM1.out)).mono ?_
  rintro e w2 ⟨rfl, M2⟩
  have HM2 := Lib.hid M2
  clear M2
  have hL := (HM2.out).look
  simp only [Nat.add_zero] at hL
  cases ha : assignT (tokAt E.l s1.pos).kind (tokAt E.l s1.pos).text with
  | none =>
    simp only [ha] at hL
    have HL0 := Lib.hid hL
    have HA := Lib.hid ha
    clear hL ha
    go_wp2_with fail
    refine (assignOp_none (tokAt E.l s1.pos) _ HA.out).mono ?_
    rintro e wt ⟨rfl, hbt⟩
    have HL1 := Lib.hid (HL0.out.below hbt)
    clear hbt
    go_wp2
    go_ret
    exact (HL1.out).post rfl
  | some op =>
    simp only [ha] at hL
    have HL0 := Lib.hid hL
    have HA := Lib.hid ha
    clear hL ha
    go_wp2_with fail
    refine (assignOp_some (tokAt E.l s1.pos) _ HA.out).mono ?_
    rintro e wt ⟨rfl, hbt⟩
    have HL1 := Lib.hid (HL0.out.below hbt)
    clear hbt
    go_wp2_with fail
    refine (Mid.take (((HL1.out).here).op) (by have := HA.out; intro h0; rw [h0] at this; simp [assignT] at this)).mono ?_
    rintro e w52 ⟨rfl, M52⟩
    have HM52 := Lib.hid M52
    clear M52
    go_wp2_with fail
    refine (Mid.call (HM52.out) ((HI.out _ (Nat.le_refl _)).assign) rfl (by simp [needs])).mono ?_
    rintro e w53 (⟨kb, hkb, rfl, hxb⟩ | ⟨k53, s53, rfl, M53⟩)
    · exact ⟨rfl, Post1.bad hkb hxb⟩
    have HM53 := Lib.hid M53
    clear M53
    go_wp2_with fail
    refine (Mid.add ((HM53.out).kids2 k1 k53) rfl).mono ?_
    rintro e w54 ⟨k54, rfl, M54⟩
    have HM54 := Lib.hid M54
    clear M54
    go_wp2
    go_ret
    exact (HM54.out).post rfl

set_option maxHeartbeats 4000000 in
set_option maxRecDepth 100000 in
theorem unary_c {E : Env} (hE : E.ok) (he : endsOnce E.l = true) {f : Nat} (IH : ∀ f', f' ≤ f → Cs E f') : C E 63 #[ptr E] .unary {} (f + 1) := by
  refine C.mk hE he fun X w s R M hk => ?_
  have HK := Lib.hid hk
  clear hk
  have HM0 := Lib.hid M
  have HI := Lib.hid IH
  clear M IH he hE
  have hf0 := field0
  have hf1 := field1
  unfold ptr
  go_enter Tryd.func63, Tryd.ntmps63
  go_wp2_with fail
  refine (Mid.peek (HM0.out)).mono ?_
  rintro e w1 ⟨rfl, M1⟩
  have HM1 := Lib.hid M1
  clear M1
  have hL := (HM1.out).look
  simp only [Nat.add_zero] at hL
  cases ha : prefixT (tokAt E.l s.pos).kind (tokAt E.l s.pos).text with
  | none =>
    simp only [ha] at hL
    have HL0 := Lib.hid hL
    have HA := Lib.hid ha
    clear hL ha
    go_wp2_with fail
    refine (prefixNode_none (tokAt E.l s.pos) _ HA.out).mono ?_
    rintro e wt ⟨rfl, hbt⟩
    have HL1 := Lib.hid (HL0.out.below hbt)
    clear hbt
    go_wp2_with fail
    refine (Mid.tailC (HL1.out) ((HI.out _ (Nat.le_refl _)).posts) (by simp [needs])).mono ?_
    rintro e w52 (⟨kb, hkb, rfl, hxb⟩ | ⟨k52, s52, hR52, rfl, hst52, hx52⟩)
    · exact ⟨rfl, Post1.bad hkb hxb⟩
    have HP := Lib.hid (And.intro hR52 (And.intro hst52 hx52))
    clear hR52 hst52 hx52
    go_wp2
    go_ret
    exact .inr ⟨k52, s52, HP.out.1, rfl, HP.out.2.1, HP.out.2.2⟩
  | some pr =>
    obtain ⟨kd, op⟩ := pr
    simp only [ha] at hL
    have HL0 := Lib.hid hL
    have HA := Lib.hid ha
    clear hL ha
    go_wp2_with fail
    refine (prefixNode_some (tokAt E.l s.pos) _ HA.out).mono ?_
    rintro e wt ⟨rfl, hbt⟩
    have HL1 := Lib.hid (HL0.out.below hbt)
    clear hbt
    go_wp2_with fail
    refine (Mid.take (((HL1.out).here).op) (by have := HA.out; intro h0; rw [h0] at this; simp [prefixT] at this)).mono ?_
    rintro e w53 ⟨rfl, M53⟩
    have HM53 := Lib.hid M53
    clear M53
    go_wp2_with fail
    refine (Mid.call (HM53.out) ((HI.out _ (Nat.le_refl _)).unary) rfl (by simp [needs])).mono ?_
    rintro e w54 (⟨kb, hkb, rfl, hxb⟩ | ⟨k54, s54, rfl, M54⟩)
    · exact ⟨rfl, Post1.bad hkb hxb⟩
    have HM54 := Lib.hid M54
    clear M54
    go_wp2_with fail
    refine (Mid.add ((HM54.out).kids1 k54) rfl).mono ?_
    rintro e w55 ⟨k55, rfl, M55⟩
    have HM55 := Lib.hid M55
    clear M55
    go_wp2
    go_ret
    exact (HM55.out).post rfl

set_option maxHeartbeats 4000000 in
set_option maxRecDepth 100000 in
theorem forFirst_c {E : Env} (hE : E.ok) (he : endsOnce E.l = true) {f : Nat} (IH : ∀ f', f' ≤ f → Cs E f') : C E 78 #[ptr E] .forFirst {} (f + 1) := by
  refine C.mk hE he fun X w s R M hk => ?_
  have HK := Lib.hid hk
  clear hk
  have HM0 := Lib.hid M
  have HI := Lib.hid IH
  clear M IH he hE
  have hf0 := field0
  have hf1 := field1
  unfold ptr
  go_enter Tryd.func78, Tryd.ntmps78
  go_wp2_with fail
  refine (Mid.peek (HM0.out)).mono ?_
  rintro e w1 ⟨rfl, M1⟩
  have HM1 := Lib.hid M1
  clear M1
  have hL := (HM1.out).look
  simp only [Nat.add_zero] at hL
  cases ha : typeT (tokAt E.l s.pos).kind (tokAt E.l s.pos).text with
  | none =>
    simp [ha] at hL
    have HL0 := Lib.hid hL
    have HA := Lib.hid ha
    clear hL ha
    go_wp2_with fail
    refine (typeOf_none (tokAt E.l s.pos) _ HA.out).mono ?_
    rintro e wt ⟨rfl, hbt⟩
    have HL1 := Lib.hid (HL0.out.below hbt)
    clear hbt
    go_wp2_with fail
    refine (Mid.tailC (HL1.out) ((HI.out _ (Nat.le_refl _)).upTo false) (by simp [needs])).mono ?_
    rintro e w52 (⟨kb, hkb, rfl, hxb⟩ | ⟨k52, s52, hR52, rfl, hst52, hx52⟩)
    · exact ⟨rfl, Post1.bad hkb hxb⟩
    have HP := Lib.hid (And.intro hR52 (And.intro hst52 hx52))
    clear hR52 hst52 hx52
    go_wp2
    go_ret
    exact .inr ⟨k52, s52, HP.out.1, rfl, HP.out.2.1, HP.out.2.2⟩
  | some ty =>
    simp [ha] at hL
    have HL0 := Lib.hid hL
    have HA := Lib.hid ha
    clear hL ha
    go_wp2_with fail
    refine (typeOf_some (tokAt E.l s.pos) _ HA.out).mono ?_
    rintro e wt ⟨rfl, hbt⟩
    have HL1 := Lib.hid (HL0.out.below hbt)
    clear hbt
    go_wp2_with fail
    refine (Mid.tailC (HL1.out) ((HI.out _ (Nat.le_refl _)).decl) (by simp [needs])).mono ?_
    rintro e w53 (⟨kb, hkb, rfl, hxb⟩ | ⟨k53, s53, hR53, rfl, hst53, hx53⟩)
    · exact ⟨rfl, Post1.bad hkb hxb⟩
    have HP := Lib.hid (And.intro hR53 (And.intro hst53 hx53))
    clear hR53 hst53 hx53
    go_wp2
    go_ret
    exact .inr ⟨k53, s53, HP.out.1, rfl, HP.out.2.1, HP.out.2.2⟩

set_option maxHeartbeats 4000000 in
set_option maxRecDepth 100000 in
theorem primary_c {E : Env} (hE : E.ok) (he : endsOnce E.l = true) {f : Nat} (IH : ∀ f', f' ≤ f → Cs E f') : C E 80 #[ptr E] .primary {} (f + 1) := by
  refine C.mk hE he fun X w s R M hk => ?_
  have hL := M.look
  simp only [Nat.add_zero] at hL
  have HM0 := Lib.hid M
  have HI := Lib.hid IH
  clear M IH he hE hk
  have hf0 := field0
  unfold ptr
  by_cases h2 : (tokAt E.l s.pos).kind = 2
  · rw [if_pos h2] at hL
    have hb : ((tokAt E.l s.pos).kind == 2) = true := by simpa using h2
    have H2 := Lib.hid h2
    have HL := Lib.hid hL
    clear hL h2
    go_enter Tryd.func80, Tryd.ntmps80
    go_wp2_with fail
    refine (Mid.peek HL.out).mono ?_
    rintro e w1 ⟨rfl, M1⟩
    have HM1 := Lib.hid M1
    clear M1
    go_wp2_with fail
    refine (Mid.tailC (HM1.out) ((HI.out _ (Nat.le_refl _)).num) (by rw [H2.out]; decide)).mono ?_
    rintro e w61 (⟨kb, hkb, rfl, hxb⟩ | ⟨k61, s61, hR61, rfl, hst61, hx61⟩)
    · exact ⟨rfl, Post1.bad hkb hxb⟩
    have HP := Lib.hid (And.intro hR61 (And.intro hst61 hx61))
    clear hR61 hst61 hx61
    go_wp2
    go_ret
    exact .inr ⟨k61, s61, HP.out.1, rfl, HP.out.2.1, HP.out.2.2⟩
  · rw [if_neg h2] at hL
    have hb : ((tokAt E.l s.pos).kind == 2) = false := by simpa using h2
    by_cases h1 : (tokAt E.l s.pos).kind = 1
    · rw [if_pos h1] at hL
      have hb1 : ((tokAt E.l s.pos).kind == 1) = true := by simpa using h1
      have HL := Lib.hid hL
      clear hL h2 h1
      go_enter Tryd.func80, Tryd.ntmps80
      go_wp2_with fail
      refine (Mid.peek HL.out).mono ?_
      rintro e w0 ⟨rfl, M0⟩
      have HM00 := Lib.hid M0
      clear M0
      go_wp2_with fail
      refine (Mid.peek HM00.out).mono ?_
      rintro e w1 ⟨rfl, M1⟩
      have HM1 := Lib.hid M1
      clear M1
      go_wp2_with fail
      refine (Mid.tailC (HM1.out) ((HI.out _ (Nat.le_refl _)).named) (by simp [needs])).mono ?_
      rintro e w61 (⟨kb, hkb, rfl, hxb⟩ | ⟨k61, s61, hR61, rfl, hst61, hx61⟩)
      · exact ⟨rfl, Post1.bad hkb hxb⟩
      have HP := Lib.hid (And.intro hR61 (And.intro hst61 hx61))
      clear hR61 hst61 hx61
      go_wp2
      go_ret
      exact .inr ⟨k61, s61, HP.out.1, rfl, HP.out.2.1, HP.out.2.2⟩
    · rw [if_neg h1] at hL
      have hb1 : ((tokAt E.l s.pos).kind == 1) = false := by simpa using h1
      have HL := Lib.hid hL
      clear hL h2 h1
      go_enter Tryd.func80, Tryd.ntmps80
      go_wp2_with fail
      refine (Mid.peek HL.out).mono ?_
      rintro e w0 ⟨rfl, M0⟩
      have HM00 := Lib.hid M0
      clear M0
      go_wp2_with fail
      refine (Mid.peek HM00.out).mono ?_
      rintro e w1 ⟨rfl, M1⟩
      have HM1 := Lib.hid M1
      clear M1
      go_wp2_with fail
      refine (Mid.tailC (HM1.out) ((HI.out _ (Nat.le_refl _)).bracketed) (by simp [needs])).mono ?_
      rintro e w61 (⟨kb, hkb, rfl, hxb⟩ | ⟨k61, s61, hR61, rfl, hst61, hx61⟩)
      · exact ⟨rfl, Post1.bad hkb hxb⟩
      have HP := Lib.hid (And.intro hR61 (And.intro hst61 hx61))
      clear hR61 hst61 hx61
      go_wp2
      go_ret
      exact .inr ⟨k61, s61, HP.out.1, rfl, HP.out.2.1, HP.out.2.2⟩
end Go.Proofs.YteggenldmkbhiaaDoor.Parse
namespace Go.Proofs.YteggenldmkbhiaaDoor.Parse
open Go.RowKit

/-- The end of a function that goes on as another one. -/
theorem wordT_decl {t : Bs} (h0 : t ≠ [105, 102]) (h1 : t ≠ [119, 104, 105, 108, 101]) (h2 : t ≠ [115, 119, 105, 116, 99, 104]) (h3 : t ≠ [100, 111]) (h4 : t ≠ [102, 111, 114]) (h5 : t ≠ [98, 114, 101, 97, 107]) (h6 : t ≠ [99, 111, 110, 116, 105, 110, 117, 101]) (h7 : t ≠ [114, 101, 116, 117, 114, 110]) (h8 : t ≠ [103, 111, 116, 111]) (h9 : t ≠ [99, 97, 115, 101]) (h10 : t ≠ [100, 101, 102, 97, 117, 108, 116]) : wordT t = .decl := by
  unfold wordT
  rw [List.lookup_eq_none_iff.2]
  · rfl
  · intro p hp
    simp only [List.mem_cons, List.not_mem_nil, or_false] at hp
    rcases hp with rfl | rfl | rfl | rfl | rfl | rfl | rfl | rfl | rfl | rfl | rfl <;> simpa

set_option maxHeartbeats 8000000 in
set_option maxRecDepth 100000 in
theorem wordS_c {E : Env} (hE : E.ok) (he : endsOnce E.l = true) {f : Nat} (IH : ∀ f', f' ≤ f → Cs E f') : C E 60 #[ptr E] .wordS {} (f + 1) := by
  refine C.mk hE he fun X w s R M hk => ?_
  have hL := M.look
  simp only [Nat.add_zero] at hL
  have HK := Lib.hid (hk rfl)
  have HI := Lib.hid IH
  clear M IH he hE hk
  unfold ptr
  obtain ⟨t, ht⟩ : ∃ t, t = (tokAt E.l s.pos).text := ⟨_, rfl⟩
  rw [← ht] at hL
  have hc := fun (w : World) (M : Mid E X nilV [] w R f 0 (.tail (wordT t)) {} s w) => Mid.peek M
  rw [← ht] at hc
  have HC := Lib.hid hc
  have HL := Lib.hid hL
  clear hc hL ht
  have hf2 := field2
  by_cases e0 : t = [105, 102]
  · have b0 : (t == [105, 102]) = true := by simpa using e0
    have HW := Lib.hid (show wordT t = .ifS by rw [e0]; rfl)
    clear e0
    go_enter Tryd.func60, Tryd.ntmps60
    go_wp2_with fail
    refine (HC.out _ HL.out).mono ?_
    rintro e w1 ⟨rfl, M1⟩
    have HM1 := Lib.hid M1
    clear M1
    go_wp2_with fail
    refine (Mid.tailC (HW.out ▸ HM1.out) ((HI.out _ (Nat.le_refl _)).ifS) (fun _ => HK.out)).mono ?_
    rintro e w2 (⟨kb, hkb, rfl, hxb⟩ | ⟨k2, s2, hR2, rfl, hst2, hx2⟩)
    · exact ⟨rfl, Post1.bad hkb hxb⟩
    have HP := Lib.hid (And.intro hR2 (And.intro hst2 hx2))
    clear hR2 hst2 hx2
    go_wp2
    go_ret
    exact .inr ⟨k2, s2, HP.out.1, rfl, HP.out.2.1, HP.out.2.2⟩
  have b0 : (t == [105, 102]) = false := by simpa using e0
  by_cases e1 : t = [119, 104, 105, 108, 101]
  · have b1 : (t == [119, 104, 105, 108, 101]) = true := by simpa using e1
    have HW := Lib.hid (show wordT t = .decided 24 by rw [e1]; rfl)
    clear e1 e0
    go_enter Tryd.func60, Tryd.ntmps60
    go_wp2_with fail
    refine (HC.out _ HL.out).mono ?_
    rintro e w1 ⟨rfl, M1⟩
    have HM1 := Lib.hid M1
    clear M1
    go_wp2_with fail
    refine (Mid.tailC (HW.out ▸ HM1.out) ((HI.out _ (Nat.le_refl _)).decided 24) (fun _ => HK.out)).mono ?_
    rintro e w2 (⟨kb, hkb, rfl, hxb⟩ | ⟨k2, s2, hR2, rfl, hst2, hx2⟩)
    · exact ⟨rfl, Post1.bad hkb hxb⟩
    have HP := Lib.hid (And.intro hR2 (And.intro hst2 hx2))
    clear hR2 hst2 hx2
    go_wp2
    go_ret
    exact .inr ⟨k2, s2, HP.out.1, rfl, HP.out.2.1, HP.out.2.2⟩
  have b1 : (t == [119, 104, 105, 108, 101]) = false := by simpa using e1
  by_cases e2 : t = [115, 119, 105, 116, 99, 104]
  · have b2 : (t == [115, 119, 105, 116, 99, 104]) = true := by simpa using e2
    have HW := Lib.hid (show wordT t = .decided 32 by rw [e2]; rfl)
    clear e2 e0 e1
    go_enter Tryd.func60, Tryd.ntmps60
    go_wp2_with fail
    refine (HC.out _ HL.out).mono ?_
    rintro e w1 ⟨rfl, M1⟩
    have HM1 := Lib.hid M1
    clear M1
    go_wp2_with fail
    refine (Mid.tailC (HW.out ▸ HM1.out) ((HI.out _ (Nat.le_refl _)).decided 32) (fun _ => HK.out)).mono ?_
    rintro e w2 (⟨kb, hkb, rfl, hxb⟩ | ⟨k2, s2, hR2, rfl, hst2, hx2⟩)
    · exact ⟨rfl, Post1.bad hkb hxb⟩
    have HP := Lib.hid (And.intro hR2 (And.intro hst2 hx2))
    clear hR2 hst2 hx2
    go_wp2
    go_ret
    exact .inr ⟨k2, s2, HP.out.1, rfl, HP.out.2.1, HP.out.2.2⟩
  have b2 : (t == [115, 119, 105, 116, 99, 104]) = false := by simpa using e2
  by_cases e3 : t = [100, 111]
  · have b3 : (t == [100, 111]) = true := by simpa using e3
    have HW := Lib.hid (show wordT t = .doS by rw [e3]; rfl)
    clear e3 e0 e1 e2
    go_enter Tryd.func60, Tryd.ntmps60
    go_wp2_with fail
    refine (HC.out _ HL.out).mono ?_
    rintro e w1 ⟨rfl, M1⟩
    have HM1 := Lib.hid M1
    clear M1
    go_wp2_with fail
    refine (Mid.tailC (HW.out ▸ HM1.out) ((HI.out _ (Nat.le_refl _)).doS) (fun _ => HK.out)).mono ?_
    rintro e w2 (⟨kb, hkb, rfl, hxb⟩ | ⟨k2, s2, hR2, rfl, hst2, hx2⟩)
    · exact ⟨rfl, Post1.bad hkb hxb⟩
    have HP := Lib.hid (And.intro hR2 (And.intro hst2 hx2))
    clear hR2 hst2 hx2
    go_wp2
    go_ret
    exact .inr ⟨k2, s2, HP.out.1, rfl, HP.out.2.1, HP.out.2.2⟩
  have b3 : (t == [100, 111]) = false := by simpa using e3
  by_cases e4 : t = [102, 111, 114]
  · have b4 : (t == [102, 111, 114]) = true := by simpa using e4
    have HW := Lib.hid (show wordT t = .forS by rw [e4]; rfl)
    clear e4 e0 e1 e2 e3
    go_enter Tryd.func60, Tryd.ntmps60
    go_wp2_with fail
    refine (HC.out _ HL.out).mono ?_
    rintro e w1 ⟨rfl, M1⟩
    have HM1 := Lib.hid M1
    clear M1
    go_wp2_with fail
    refine (Mid.tailC (HW.out ▸ HM1.out) ((HI.out _ (Nat.le_refl _)).forS) (fun _ => HK.out)).mono ?_
    rintro e w2 (⟨kb, hkb, rfl, hxb⟩ | ⟨k2, s2, hR2, rfl, hst2, hx2⟩)
    · exact ⟨rfl, Post1.bad hkb hxb⟩
    have HP := Lib.hid (And.intro hR2 (And.intro hst2 hx2))
    clear hR2 hst2 hx2
    go_wp2
    go_ret
    exact .inr ⟨k2, s2, HP.out.1, rfl, HP.out.2.1, HP.out.2.2⟩
  have b4 : (t == [102, 111, 114]) = false := by simpa using e4
  by_cases e5 : t = [98, 114, 101, 97, 107]
  · have b5 : (t == [98, 114, 101, 97, 107]) = true := by simpa using e5
    have HW := Lib.hid (show wordT t = .leave 27 by rw [e5]; rfl)
    clear e5 e0 e1 e2 e3 e4
    go_enter Tryd.func60, Tryd.ntmps60
    go_wp2_with fail
    refine (HC.out _ HL.out).mono ?_
    rintro e w1 ⟨rfl, M1⟩
    have HM1 := Lib.hid M1
    clear M1
    go_wp2_with fail
    refine (Mid.tailC (HW.out ▸ HM1.out) ((HI.out _ (Nat.le_refl _)).leave 27) (fun _ => HK.out)).mono ?_
    rintro e w2 (⟨kb, hkb, rfl, hxb⟩ | ⟨k2, s2, hR2, rfl, hst2, hx2⟩)
    · exact ⟨rfl, Post1.bad hkb hxb⟩
    have HP := Lib.hid (And.intro hR2 (And.intro hst2 hx2))
    clear hR2 hst2 hx2
    go_wp2
    go_ret
    exact .inr ⟨k2, s2, HP.out.1, rfl, HP.out.2.1, HP.out.2.2⟩
  have b5 : (t == [98, 114, 101, 97, 107]) = false := by simpa using e5
  by_cases e6 : t = [99, 111, 110, 116, 105, 110, 117, 101]
  · have b6 : (t == [99, 111, 110, 116, 105, 110, 117, 101]) = true := by simpa using e6
    have HW := Lib.hid (show wordT t = .leave 28 by rw [e6]; rfl)
    clear e6 e0 e1 e2 e3 e4 e5
    go_enter Tryd.func60, Tryd.ntmps60
    go_wp2_with fail
    refine (HC.out _ HL.out).mono ?_
    rintro e w1 ⟨rfl, M1⟩
    have HM1 := Lib.hid M1
    clear M1
    go_wp2_with fail
    refine (Mid.tailC (HW.out ▸ HM1.out) ((HI.out _ (Nat.le_refl _)).leave 28) (fun _ => HK.out)).mono ?_
    rintro e w2 (⟨kb, hkb, rfl, hxb⟩ | ⟨k2, s2, hR2, rfl, hst2, hx2⟩)
    · exact ⟨rfl, Post1.bad hkb hxb⟩
    have HP := Lib.hid (And.intro hR2 (And.intro hst2 hx2))
    clear hR2 hst2 hx2
    go_wp2
    go_ret
    exact .inr ⟨k2, s2, HP.out.1, rfl, HP.out.2.1, HP.out.2.2⟩
  have b6 : (t == [99, 111, 110, 116, 105, 110, 117, 101]) = false := by simpa using e6
  by_cases e7 : t = [114, 101, 116, 117, 114, 110]
  · have b7 : (t == [114, 101, 116, 117, 114, 110]) = true := by simpa using e7
    have HW := Lib.hid (show wordT t = .returnS by rw [e7]; rfl)
    clear e7 e0 e1 e2 e3 e4 e5 e6
    go_enter Tryd.func60, Tryd.ntmps60
    go_wp2_with fail
    refine (HC.out _ HL.out).mono ?_
    rintro e w1 ⟨rfl, M1⟩
    have HM1 := Lib.hid M1
    clear M1
    go_wp2_with fail
    refine (Mid.tailC (HW.out ▸ HM1.out) ((HI.out _ (Nat.le_refl _)).returnS) (fun _ => HK.out)).mono ?_
    rintro e w2 (⟨kb, hkb, rfl, hxb⟩ | ⟨k2, s2, hR2, rfl, hst2, hx2⟩)
    · exact ⟨rfl, Post1.bad hkb hxb⟩
    have HP := Lib.hid (And.intro hR2 (And.intro hst2 hx2))
    clear hR2 hst2 hx2
    go_wp2
    go_ret
    exact .inr ⟨k2, s2, HP.out.1, rfl, HP.out.2.1, HP.out.2.2⟩
  have b7 : (t == [114, 101, 116, 117, 114, 110]) = false := by simpa using e7
  by_cases e8 : t = [103, 111, 116, 111]
  · have b8 : (t == [103, 111, 116, 111]) = true := by simpa using e8
    have HW := Lib.hid (show wordT t = .gotoS by rw [e8]; rfl)
    clear e8 e0 e1 e2 e3 e4 e5 e6 e7
    go_enter Tryd.func60, Tryd.ntmps60
    go_wp2_with fail
    refine (HC.out _ HL.out).mono ?_
    rintro e w1 ⟨rfl, M1⟩
    have HM1 := Lib.hid M1
    clear M1
    go_wp2_with fail
    refine (Mid.tailC (HW.out ▸ HM1.out) ((HI.out _ (Nat.le_refl _)).gotoS) (fun _ => HK.out)).mono ?_
    rintro e w2 (⟨kb, hkb, rfl, hxb⟩ | ⟨k2, s2, hR2, rfl, hst2, hx2⟩)
    · exact ⟨rfl, Post1.bad hkb hxb⟩
    have HP := Lib.hid (And.intro hR2 (And.intro hst2 hx2))
    clear hR2 hst2 hx2
    go_wp2
    go_ret
    exact .inr ⟨k2, s2, HP.out.1, rfl, HP.out.2.1, HP.out.2.2⟩
  have b8 : (t == [103, 111, 116, 111]) = false := by simpa using e8
  by_cases e9 : t = [99, 97, 115, 101]
  · have b9 : (t == [99, 97, 115, 101]) = true := by simpa using e9
    have HW := Lib.hid (show wordT t = .caseS by rw [e9]; rfl)
    clear e9 e0 e1 e2 e3 e4 e5 e6 e7 e8
    go_enter Tryd.func60, Tryd.ntmps60
    go_wp2_with fail
    refine (HC.out _ HL.out).mono ?_
    rintro e w1 ⟨rfl, M1⟩
    have HM1 := Lib.hid M1
    clear M1
    go_wp2_with fail
    refine (Mid.tailC (HW.out ▸ HM1.out) ((HI.out _ (Nat.le_refl _)).caseS) (fun _ => HK.out)).mono ?_
    rintro e w2 (⟨kb, hkb, rfl, hxb⟩ | ⟨k2, s2, hR2, rfl, hst2, hx2⟩)
    · exact ⟨rfl, Post1.bad hkb hxb⟩
    have HP := Lib.hid (And.intro hR2 (And.intro hst2 hx2))
    clear hR2 hst2 hx2
    go_wp2
    go_ret
    exact .inr ⟨k2, s2, HP.out.1, rfl, HP.out.2.1, HP.out.2.2⟩
  have b9 : (t == [99, 97, 115, 101]) = false := by simpa using e9
  by_cases e10 : t = [100, 101, 102, 97, 117, 108, 116]
  · have b10 : (t == [100, 101, 102, 97, 117, 108, 116]) = true := by simpa using e10
    have HW := Lib.hid (show wordT t = .defaultS by rw [e10]; rfl)
    clear e10 e0 e1 e2 e3 e4 e5 e6 e7 e8 e9
    go_enter Tryd.func60, Tryd.ntmps60
    go_wp2_with fail
    refine (HC.out _ HL.out).mono ?_
    rintro e w1 ⟨rfl, M1⟩
    have HM1 := Lib.hid M1
    clear M1
    go_wp2_with fail
    refine (Mid.tailC (HW.out ▸ HM1.out) ((HI.out _ (Nat.le_refl _)).defaultS) (fun _ => HK.out)).mono ?_
    rintro e w2 (⟨kb, hkb, rfl, hxb⟩ | ⟨k2, s2, hR2, rfl, hst2, hx2⟩)
    · exact ⟨rfl, Post1.bad hkb hxb⟩
    have HP := Lib.hid (And.intro hR2 (And.intro hst2 hx2))
    clear hR2 hst2 hx2
    go_wp2
    go_ret
    exact .inr ⟨k2, s2, HP.out.1, rfl, HP.out.2.1, HP.out.2.2⟩
  have b10 : (t == [100, 101, 102, 97, 117, 108, 116]) = false := by simpa using e10
  have HW := Lib.hid (wordT_decl e0 e1 e2 e3 e4 e5 e6 e7 e8 e9 e10)
  clear e0 e1 e2 e3 e4 e5 e6 e7 e8 e9 e10
  go_enter Tryd.func60, Tryd.ntmps60
  go_wp2_with fail
  refine (HC.out _ HL.out).mono ?_
  rintro e w1 ⟨rfl, M1⟩
  have HM1 := Lib.hid M1
  clear M1
  go_wp2_with fail
  refine (Mid.tailC (HW.out ▸ HM1.out) ((HI.out _ (Nat.le_refl _)).decl) (by simp [needs])).mono ?_
  rintro e w2 (⟨kb, hkb, rfl, hxb⟩ | ⟨k2, s2, hR2, rfl, hst2, hx2⟩)
  · exact ⟨rfl, Post1.bad hkb hxb⟩
  have HP := Lib.hid (And.intro hR2 (And.intro hst2 hx2))
  clear hR2 hst2 hx2
  go_wp2
  go_ret
  exact .inr ⟨k2, s2, HP.out.1, rfl, HP.out.2.1, HP.out.2.2⟩

set_option maxHeartbeats 4000000 in
set_option maxRecDepth 100000 in
theorem num_c {E : Env} (hE : E.ok) (he : endsOnce E.l = true) {f : Nat} : C E 81 #[ptr E] .num {} (f + 1) := by
  refine C.mk hE he fun X w s R M hk => ?_
  have M1 := M.here.numd
  have hnum := (hE.2.2.2 s.pos).2
  have hk' := hk rfl
  clear M he hE hk
  unfold ptr
  cases hu : (tokAt E.l s.pos).uns with
  | true =>
    simp [hu] at M1
    have hc := Mid.take M1 hk'
    rw [hu] at hc
    have HC := Lib.hid hc
    clear hc M1 hk' hu
    go_enter Tryd.func81, Tryd.ntmps81
    go_wp2_with fail
    refine HC.out.mono ?_
    rintro e w1 ⟨rfl, M2⟩
    have HM2 := Lib.hid M2
    clear M2
    go_wp2_with fail
    refine (Mid.add (HM2.out.alloc _) rfl).mono ?_
    rintro e w3 ⟨k3, rfl, M3⟩
    have HM3 := Lib.hid M3
    clear M3
    go_wp2
    go_ret
    exact HM3.out.post rfl
  | false =>
    simp [hu] at M1
    have hc := Mid.take M1 hk'
    rw [hu] at hc
    have HC := Lib.hid hc
    clear hc M1 hk' hu
    go_enter Tryd.func81, Tryd.ntmps81
    go_wp2_with fail
    refine HC.out.mono ?_
    rintro e w1 ⟨rfl, M2⟩
    have HM2 := Lib.hid M2
    clear M2
    go_wp2_with fail
    refine (Mid.add (HM2.out.alloc _) rfl).mono ?_
    rintro e w3 ⟨k3, rfl, M3⟩
    have HM3 := Lib.hid M3
    clear M3
    go_wp2
    go_ret
    exact HM3.out.post rfl
end Go.Proofs.YteggenldmkbhiaaDoor.Parse
namespace Go.Proofs.YteggenldmkbhiaaDoor.Parse
open Go.RowKit

def begB (l : List PT) (p : Nat) : Bool := (typeT (tokAt l p).kind (tokAt l p).text).isSome && (decide ((tokAt l (p + 1)).kind = 1) && isT (tokAt l (p + 2)) 4 [40])

theorem below_drewN {B : Nat} {a w : World} (h : Below B a w) (n : Nat) : Below B a (w.drewN n) := ⟨h.os, h.tape, h.output, h.size, h.block⟩

set_option maxHeartbeats 4000000 in
set_option maxRecDepth 100000 in
theorem begins_any {E : Env} {X : Nat → Prop} (hE : E.ok) (he : endsOnce E.l = true) {s : PS} {w : World} (hs : St E X s w) (hp : s.pos < E.l.length) :
    Calls Tryd.prog 36 #[ptr E] w fun e w' => e = .returned (.bool (begB E.l s.pos)) ∧ Below w.heap.size w w' := by
  have hl := hE.2.2.1
  have HC := Lib.hid (peek_any hE hs hp)
  have HS := Lib.hid hs
  have HE := Lib.hid hE
  have hlast := endsOnce_last he
  unfold ptr
  cases ht : typeT (tokAt E.l s.pos).kind (tokAt E.l s.pos).text with
  | none =>
    have hV : begB E.l s.pos = false := by unfold begB; rw [ht]; rfl
    have HV := Lib.hid hV
    have HT := Lib.hid ht
    clear hV ht hs hE hlast
    go_enter Tryd.func36, Tryd.ntmps36
    go_wp2_with fail
    refine HC.out.mono ?_
    rintro e w1 ⟨rfl, hb1⟩
    go_wp2_with fail
    refine (typeOf_none _ _ HT.out).mono ?_
    rintro e w2 ⟨rfl, hb2⟩
    have HB := Lib.hid (hb1.trans (hb2.mono hb1.size))
    clear hb1 hb2
    go_wp2
    go_quiet (fail)
    go_wp2
    go_ret
    rw [HV.out]
    exact ⟨rfl, below_drewN HB.out _⟩
  | some n =>
    have hk0 : (tokAt E.l s.pos).kind ≠ 0 := by rw [typeT_kind ht]; decide
    have h1 := next_lt hlast hp hk0
    have HT := Lib.hid ht
    have i0 : (0 : Int) ≤ s.pos := by omega
    have i1 : (s.pos : Int) + 1 < E.l.length := by omega
    have i2 : (s.pos : Int) ≤ 4000 := by omega
    by_cases hk : (tokAt E.l (s.pos + 1)).kind = 1
    · have h2 := next_lt hlast h1 (by rw [hk]; decide)
      have hV : begB E.l s.pos = isT (tokAt E.l (s.pos + 2)) 4 [40] := by unfold begB; rw [ht, hk]; simp
      have HV := Lib.hid hV
      have hb : ((tokAt E.l (s.pos + 1)).kind != 1) = false := by simpa using hk
      have i3 : (s.pos : Int) + 2 < E.l.length := by omega
      clear hV ht hs hE hlast hk0 hk
      go_enter Tryd.func36, Tryd.ntmps36
      go_wp2_with fail
      refine HC.out.mono ?_
      rintro e w1 ⟨rfl, hb1⟩
      go_wp2_with fail
      refine (typeOf_some _ _ HT.out).mono ?_
      rintro e w2 ⟨rfl, hb2⟩
      have HB := Lib.hid (hb1.trans (hb2.mono hb1.size))
      clear hb1 hb2
      obtain ⟨v, hv⟩ := HS.out.below HE.out HB.out
      obtain ⟨c0, c1, c2, f1, f2⟩ := hv.cells
      obtain ⟨t0, -, -, -, -⟩ := hv.2.1.1 (s.pos + 1) h1
      obtain ⟨u0, u1, u2, u3, u4⟩ := hv.2.1.1 (s.pos + 2) h2
      have hg2 := hv.lt
      have htb2 : E.tb < w2.heap.size := by have := HE.out.1; have := HE.out.2.1; omega
      unfold tokV at c0
      clear hv c2 f1 f2
      go_wp2
      go_quiet (fail)
      go_wp2_with fail
      have i4 : IntKind.i64.wrap ((s.pos : Int) + 2) = (s.pos : Int) + 2 := IntWalk.i64_in _ (by omega)
      have i5 : (0 : Int) ≤ (s.pos : Int) + 2 := by omega
      have i6 : ((s.pos : Int) + 2).toNat = s.pos + 2 := by omega
      go_region_held3 (fun w' => w'.cell? ⟨E.g, 0, none⟩ = some (.slice (some ⟨E.tb, 0, none⟩) E.l.length E.cap) ∧ w'.cell? ⟨E.g, 1, none⟩ = some (.int .i64 (s.pos : Int)) ∧ w'.cell? ⟨E.tb, (s.pos + 2) * 5, none⟩ = some (.int .i64 (tokAt E.l (s.pos + 2)).kind) ∧
          w'.cell? ⟨E.tb, (s.pos + 2) * 5 + 1, none⟩ = some (.int .i64 (tokAt E.l (s.pos + 2)).place) ∧ w'.cell? ⟨E.tb, (s.pos + 2) * 5 + 2, none⟩ = some (.string ⟨(tokAt E.l (s.pos + 2)).text.toArray⟩) ∧
          w'.cell? ⟨E.tb, (s.pos + 2) * 5 + 3, none⟩ = some (.int .u32 (tokAt E.l (s.pos + 2)).num) ∧ w'.cell? ⟨E.tb, (s.pos + 2) * 5 + 4, none⟩ = some (.bool (tokAt E.l (s.pos + 2)).uns))
        (first
          | go_keep
          | (refine ⟨?_, ?_, ?_, ?_, ?_, ?_, ?_⟩ <;> (rw [hb3.cell (by simp; omega)]; go_simp; done)))
        ((go_at_call 40; refine (is_any (tokAt E.l (s.pos + 2)) _ _ _).mono ?_; rintro e w3 ⟨rfl, hb3⟩))
      all_goals
        have HB3 := Lib.hid hb3
        clear hb3
        go_wp2
        go_ret
        rw [HV.out]
        exact ⟨rfl, (below_drewN HB.out _).drew.trans (HB3.out.mono (by have := HB.out.size; exact this))⟩
    · have hV : begB E.l s.pos = false := by unfold begB; simp [hk]
      have HV := Lib.hid hV
      have hb : ((tokAt E.l (s.pos + 1)).kind != 1) = true := by simpa using hk
      clear hV ht hs hE hlast hk0 hk
      go_enter Tryd.func36, Tryd.ntmps36
      go_wp2_with fail
      refine HC.out.mono ?_
      rintro e w1 ⟨rfl, hb1⟩
      go_wp2_with fail
      refine (typeOf_some _ _ HT.out).mono ?_
      rintro e w2 ⟨rfl, hb2⟩
      have HB := Lib.hid (hb1.trans (hb2.mono hb1.size))
      clear hb1 hb2
      obtain ⟨v, hv⟩ := HS.out.below HE.out HB.out
      obtain ⟨c0, c1, c2, f1, f2⟩ := hv.cells
      obtain ⟨t0, -, -, -, -⟩ := hv.2.1.1 (s.pos + 1) h1
      unfold tokV at c0
      clear hv c2 f1 f2
      go_wp2
      go_quiet (fail)
      go_wp2
      go_ret
      rw [HV.out]
      exact ⟨rfl, below_drewN HB.out _⟩
theorem exec_item {l : List PT} {rn : NT → Loc → PS → Res} (x : Loc) (s : PS) : exec l rn (code .item) x s = exec l rn (sees 3 [101, 110, 117, 109] (.tail .enum) (if begB l s.pos = true then .tail .func else .tail .decl)) x s := by
  simp only [code, sees, exec, Nat.add_zero]
  split
  · rfl
  · simp only [exec, Nat.add_zero]
    by_cases ht : (typeT (tokAt l s.pos).kind (tokAt l s.pos).text).isSome = true
    · rw [if_pos ht]
      by_cases h1 : (tokAt l (s.pos + 1)).kind = 1
      · have hb : begB l s.pos = isT (tokAt l (s.pos + 2)) 4 [40] := by unfold begB; rw [ht, h1]; simp
        rw [hb, exec, if_pos h1, exec]
        by_cases h2 : (tokAt l (s.pos + 2)).kind = 4 ∧ (tokAt l (s.pos + 2)).text = [40]
        · rw [if_pos h2, if_pos (by simp only [isT, decide_eq_true_eq]; exact h2)]
        · rw [if_neg h2, if_neg (by simp only [isT, decide_eq_true_eq]; exact h2)]
      · have hb : begB l s.pos = false := by unfold begB; simp [h1]
        rw [hb, exec, if_neg h1]
        simp
    · have hb : begB l s.pos = false := by unfold begB; simp [ht]
      rw [if_neg ht, hb]
      simp

set_option maxHeartbeats 4000000 in
set_option maxRecDepth 100000 in
theorem item_c {E : Env} (hE : E.ok) (he : endsOnce E.l = true) {f : Nat} (IH : ∀ f', f' ≤ f → Cs E f') : C E 25 #[ptr E] .item {} (f + 1) := by
  refine C.mk hE he fun X w s R M0 hk => ?_
  have M : Mid E X nilV [] w R f 0 (sees 3 [101, 110, 117, 109] (.tail .enum) (if begB E.l s.pos = true then .tail .func else .tail .decl)) {} s w := { M0 with res := M0.res.trans (exec_item _ _) }
  have HM0 := Lib.hid M
  have HI := Lib.hid IH
  have HBG := Lib.hid (fun (w' : World) (h : St E (fun b => X b ∨ nilV.ownBlock = some b) s w') => begins_any hE he h M.pos)
  clear M M0 IH he hE hk
  unfold ptr
  go_enter Tryd.func25, Tryd.ntmps25
  go_wp2_with fail
  refine (Mid.seesB HM0.out).mono ?_
  rintro e w1 (⟨rfl, hb1, M1⟩ | ⟨rfl, hb1, M1⟩)
  · have HM1 := Lib.hid M1
    clear M1
    have HB1 := Lib.hid hb1
    clear hb1
    go_wp2_with fail
    refine (Mid.tailC HM1.out ((HI.out _ (Nat.le_refl _)).enum) (fun _ => by rw [isT_kind HB1.out]; decide)).mono ?_
    rintro e w2 (⟨kb, hkb, rfl, hxb⟩ | ⟨k2, s2, hR2, rfl, hst2, hx2⟩)
    · exact ⟨rfl, Post1.bad hkb hxb⟩
    have HP := Lib.hid (And.intro hR2 (And.intro hst2 hx2))
    clear hR2 hst2 hx2
    go_wp2
    go_ret
    exact .inr ⟨k2, s2, HP.out.1, rfl, HP.out.2.1, HP.out.2.2⟩
  · cases hbg : begB E.l s.pos with
    | true =>
      rw [hbg] at HBG M1
      have HM1 := Lib.hid M1
      clear M1 hb1 hbg HM0
      go_wp2_with fail
      refine (HBG.out _ HM1.out.st).mono ?_
      rintro e w2 ⟨rfl, hb2⟩
      have HM2 := Lib.hid (HM1.out.below hb2)
      clear hb2
      go_wp2_with fail
      refine (Mid.tailC (nt := .func) HM2.out ((HI.out _ (Nat.le_refl _)).func) (by simp [needs])).mono ?_
      rintro e w3 (⟨kb, hkb, rfl, hxb⟩ | ⟨k2, s2, hR2, rfl, hst2, hx2⟩)
      · exact ⟨rfl, Post1.bad hkb hxb⟩
      have HP := Lib.hid (And.intro hR2 (And.intro hst2 hx2))
      clear hR2 hst2 hx2
      go_wp2
      go_ret
      exact .inr ⟨k2, s2, HP.out.1, rfl, HP.out.2.1, HP.out.2.2⟩
    | false =>
      rw [hbg] at HBG M1
      have HM1 := Lib.hid M1
      clear M1 hb1 hbg HM0
      go_wp2_with fail
      refine (HBG.out _ HM1.out.st).mono ?_
      rintro e w2 ⟨rfl, hb2⟩
      have HM2 := Lib.hid (HM1.out.below hb2)
      clear hb2
      go_wp2_with fail
      refine (Mid.tailC (nt := .decl) HM2.out ((HI.out _ (Nat.le_refl _)).decl) (by simp [needs])).mono ?_
      rintro e w3 (⟨kb, hkb, rfl, hxb⟩ | ⟨k2, s2, hR2, rfl, hst2, hx2⟩)
      · exact ⟨rfl, Post1.bad hkb hxb⟩
      have HP := Lib.hid (And.intro hR2 (And.intro hst2 hx2))
      clear hR2 hst2 hx2
      go_wp2
      go_ret
      exact .inr ⟨k2, s2, HP.out.1, rfl, HP.out.2.1, HP.out.2.2⟩
end Go.Proofs.YteggenldmkbhiaaDoor.Parse
