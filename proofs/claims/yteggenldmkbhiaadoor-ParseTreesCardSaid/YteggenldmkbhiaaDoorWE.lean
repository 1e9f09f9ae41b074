/- The parser's function that reads any statement. -/
import Derived.Test.YteggenldmkbhiaaDoorWD
namespace Go.Proofs.YteggenldmkbhiaaDoor.Parse
open Go.RowKit

def labB (l : List PT) (p : Nat) : Bool := decide ((tokAt l p).kind = 1) && isT (tokAt l (p + 1)) 4 [58]
def exprC : Code := .here (.call .expr false (sg [59] (.add 21 .ret)))
def stmtC (l : List PT) (p : Nat) : Code := if (tokAt l p).kind = 3 then .tail .wordS else sees 4 [59] (.here (.take (.add 20 .ret))) (sees 4 [123] (.tail .block) (if labB l p = true then .tail .label else exprC))
theorem exec_stmt {l : List PT} {rn : NT → Loc → PS → Res} (x : Loc) (s : PS) : exec l rn (code .stmt) x s = exec l rn (stmtC l s.pos) x s := by
  simp only [code, stmtC, sees, exec, Nat.add_zero]
  by_cases h3 : (tokAt l s.pos).kind = 3
  · rw [if_pos h3, if_pos h3]
  · rw [if_neg h3, if_neg h3]
    simp only [exec, Nat.add_zero]
    by_cases h4 : (tokAt l s.pos).kind = 4 ∧ (tokAt l s.pos).text = [59]
    · rw [if_pos h4, if_pos h4]
    · rw [if_neg h4, if_neg h4]
      simp only [exec, Nat.add_zero]
      by_cases h5 : (tokAt l s.pos).kind = 4 ∧ (tokAt l s.pos).text = [123]
      · rw [if_pos h5, if_pos h5]
      · rw [if_neg h5, if_neg h5]
        by_cases h1 : (tokAt l s.pos).kind = 1
        · have hb : labB l s.pos = isT (tokAt l (s.pos + 1)) 4 [58] := by unfold labB; rw [h1]; simp
          rw [hb, if_pos h1, exec]
          by_cases h2 : (tokAt l (s.pos + 1)).kind = 4 ∧ (tokAt l (s.pos + 1)).text = [58]
          · rw [if_pos h2, if_pos (by simp only [isT, decide_eq_true_eq]; exact h2)]
          · rw [if_neg h2, if_neg (by simp only [isT, decide_eq_true_eq]; exact h2)]; rfl
        · have hb : labB l s.pos = false := by unfold labB; simp [h1]
          rw [hb, if_neg h1]; simp [exprC]

theorem peek_k1 {E : Env} {X : Nat → Prop} (hE : E.ok) {s : PS} {w : World} (hs : St E X s w) (hp : s.pos < E.l.length) (h : (tokAt E.l s.pos).kind = 1) :
    Calls Tryd.prog 24 #[.pointer (some ⟨E.g, 0, none⟩)] w fun e w' => e = .returned (.agg #[.int .i64 1, .int .i64 (tokAt E.l s.pos).place, .string ⟨(tokAt E.l s.pos).text.toArray⟩, .int .u32 (tokAt E.l s.pos).num, .bool (tokAt E.l s.pos).uns]) ∧ Below w.heap.size w w' := by
  have := peek_agg hE hs hp
  rw [h] at this; exact this

set_option maxHeartbeats 8000000 in
set_option maxRecDepth 100000 in
theorem stmt_c {E : Env} (hE : E.ok) (he : endsOnce E.l = true) {f : Nat} (IH : ∀ f', f' ≤ f → Cs E f') : C E 55 #[ptr E] .stmt {} (f + 1) := by
  refine C.mk hE he fun X w s R M0 hk => ?_
  have M : Mid E X nilV [] w R f 0 (stmtC E.l s.pos) {} s w := { M0 with res := M0.res.trans (exec_stmt _ _) }
  have HI := Lib.hid IH
  have hlast := endsOnce_last he
  have hl := hE.2.2.1
  have hp := M0.pos
  clear M0 IH he hk
  have HE := Lib.hid hE
  clear hE
  have hf0 := field0
  have hf1 := field1
  unfold ptr
  by_cases h3 : (tokAt E.l s.pos).kind = 3
  · unfold stmtC at M
    rw [if_pos h3] at M
    have hb : ((tokAt E.l s.pos).kind == 3) = true := by simpa using h3
    have H3 := Lib.hid h3
    have HM := Lib.hid M
    clear M h3
    go_enter Tryd.func55, Tryd.ntmps55
    go_wp2_with fail
    refine (Mid.peek HM.out).mono ?_
    rintro e w1 ⟨rfl, M1⟩
    have HM1 := Lib.hid M1
    clear M1
    go_wp2_with fail
    refine (Mid.tailC (nt := .wordS) HM1.out ((HI.out _ (Nat.le_refl _)).wordS) (fun _ => by rw [H3.out]; decide)).mono ?_
    rintro e w3 (⟨kb, hkb, rfl, hxb⟩ | ⟨k2, s2, hR2, rfl, hst2, hx2⟩)
    · exact ⟨rfl, Post1.bad hkb hxb⟩
    have HP := Lib.hid (And.intro hR2 (And.intro hst2 hx2))
    clear hR2 hst2 hx2
    go_wp2
    go_ret
    exact .inr ⟨k2, s2, HP.out.1, rfl, HP.out.2.1, HP.out.2.2⟩
  · unfold stmtC at M
    rw [if_neg h3] at M
    have hb : ((tokAt E.l s.pos).kind == 3) = false := by simpa using h3
    have HM := Lib.hid M
    clear M h3
    go_enter Tryd.func55, Tryd.ntmps55
    go_wp2_with fail
    refine (Mid.peek HM.out).mono ?_
    rintro e w1 ⟨rfl, M1⟩
    have HM1 := Lib.hid M1
    clear M1 HM
    go_wp2_with fail
    refine (Mid.seesB HM1.out).mono ?_
    rintro e w2 (⟨rfl, hb2, M2⟩ | ⟨rfl, hb2, M2⟩)
    · have HM2 := Lib.hid M2
      have HB2 := Lib.hid hb2
      clear M2 HM1 hb2
      go_wp2_with fail
      refine (Mid.take (HM2.out.here) (by rw [isT_kind HB2.out]; decide)).mono ?_
      rintro e w3 ⟨rfl, M3⟩
      have HM3 := Lib.hid M3
      clear M3
      go_wp2_with fail
      refine (Mid.add HM3.out rfl).mono ?_
      rintro e w4 ⟨k4, rfl, M4⟩
      have HM4 := Lib.hid M4
      clear M4
      go_wp2
      go_ret
      exact HM4.out.post rfl
    · have HM2 := Lib.hid M2
      clear M2 HM1 hb2
      go_wp2_with fail
      refine (Mid.seesB HM2.out).mono ?_
      rintro e w3 (⟨rfl, hb3, M3⟩ | ⟨rfl, hb3, M3⟩)
      · have HM3 := Lib.hid M3
        clear M3 HM2 hb3
        go_wp2_with fail
        refine (Mid.tailC (nt := .block) HM3.out ((HI.out _ (Nat.le_refl _)).block) (by simp [needs])).mono ?_
        rintro e w4 (⟨kb, hkb, rfl, hxb⟩ | ⟨k2, s2, hR2, rfl, hst2, hx2⟩)
        · exact ⟨rfl, Post1.bad hkb hxb⟩
        have HP := Lib.hid (And.intro hR2 (And.intro hst2 hx2))
        clear hR2 hst2 hx2
        go_wp2
        go_ret
        exact .inr ⟨k2, s2, HP.out.1, rfl, HP.out.2.1, HP.out.2.2⟩
      · have HM3 := Lib.hid M3
        clear M3 HM2 hb3
        by_cases h1 : (tokAt E.l s.pos).kind = 1
        · have h2 := next_lt hlast hp (by rw [h1]; decide)
          have hb1 : ((tokAt E.l s.pos).kind == 1) = true := by simpa using h1
          have i0 : (0 : Int) ≤ s.pos := by omega
          have i1 : (s.pos : Int) + 1 < E.l.length := by omega
          have i2 : (s.pos : Int) ≤ 4000 := by omega
          have hL : labB E.l s.pos = isT (tokAt E.l (s.pos + 1)) 4 [58] := by unfold labB; rw [h1]; simp
          have HLB := Lib.hid hL
          have H1 := Lib.hid h1
          have his := fun w => is_any (tokAt E.l (s.pos + 1)) 4 [58] w
          have i4 : IntKind.i64.wrap ((s.pos : Int) + 1) = (s.pos : Int) + 1 := IntWalk.i64_in _ (by omega)
          have i5 : (0 : Int) ≤ (s.pos : Int) + 1 := by omega
          have i6 : ((s.pos : Int) + 1).toNat = s.pos + 1 := by omega
          have i7 : ¬ ((s.pos : Int) + 1 < 0) := by omega
          clear h1 hL hlast hb1
          cases hi : isT (tokAt E.l (s.pos + 1)) 4 [58] with
          | true =>
            rw [hi] at his
            have HIS := Lib.hid his
            have HM4 := Lib.hid (show Mid E X nilV [] w R f 0 (.tail .label) {} s w3 by
              have h := HM3.out
              rw [if_pos (by rw [HLB.out]; exact hi)] at h; exact h)
            clear hi HM3 his
            go_wp2
            refine wp_region_any (by kernel_rfl) ?_
            refine wpAny_take (i := 0) (v := .pointer (some ⟨E.g, 0, none⟩)) rfl (by kernel_rfl) (by kernel_rfl) (by kernel_rfl) (fun _ _ _ h => h) (Or.inl ⟨by kernel_rfl, fun w => by go_simp⟩) ?_
            refine wpAny_ready (rs := [1]) (by kernel_rfl) (by simp) ?_
            refine AllReady.cons rfl (fun K hK => ?_) AllReady.nil
            rw [if_pos (by kernel_rfl)]
            go_simp
            refine (peek_k1 HE.out HM4.out.drew.st hp H1.out).mono ?_
            rintro e w5 ⟨rfl, hb5⟩
            refine hK _ _ ?_
            clear hK
            have HM5 := Lib.hid (HM4.out.drew.below hb5)
            clear hb5
            obtain ⟨v5, hv5⟩ := HM5.out.st
            obtain ⟨c0, c1, c2, f1, f2⟩ := hv5.cells
            obtain ⟨u0, u1, u2, u3, u4⟩ := hv5.2.1.1 (s.pos + 1) h2
            unfold tokV at c0
            clear hv5 c2 f1 f2
            refine wpAny_take (i := 2) (v := .int .i64 1) rfl (by kernel_rfl) (by kernel_rfl) (by kernel_rfl) (fun _ _ _ h => h) (Or.inl ⟨by kernel_rfl, fun w => by go_simp⟩) ?_
            refine wpAny_take (i := 3) (v := .bool true) rfl (by kernel_rfl) (by kernel_rfl) (by kernel_rfl) (fun _ _ _ h => h) (Or.inl ⟨by kernel_rfl, fun w => by go_simp⟩) ?_
            refine wpAny_take (i := 4) (v := .bool true) rfl (by kernel_rfl) (by kernel_rfl) (by kernel_rfl) (fun _ _ _ h => h) (Or.inl ⟨by kernel_rfl, fun w => by go_simp⟩) ?_
            refine wpAny_take (i := 5) (v := .pointer (some ⟨E.g, 0, none⟩)) rfl (by kernel_rfl) (by kernel_rfl) (by kernel_rfl) (fun _ _ _ h => h) (Or.inl ⟨by kernel_rfl, fun w => by go_simp⟩) ?_
            refine wpAny_take (i := 6) (v := .pointer (some ⟨E.g, 0, none⟩)) rfl (by kernel_rfl) (by kernel_rfl) (by kernel_rfl) (fun _ _ _ h => h) (Or.inl ⟨by kernel_rfl, fun w => by go_simp⟩) ?_
            refine wpAny_take (i := 7) (v := .pointer (some ⟨E.g, 0, none⟩)) rfl (by kernel_rfl) (by kernel_rfl) (by kernel_rfl) (fun _ _ _ h => h) (Or.inl ⟨by kernel_rfl, fun w => by go_simp⟩) ?_
            refine wpAny_take (i := 9) (v := .pointer (some ⟨E.g, 0, none⟩)) rfl (by kernel_rfl) (by kernel_rfl) (by kernel_rfl) (fun _ _ _ h => h) (Or.inl ⟨by kernel_rfl, fun w => by go_simp⟩) ?_
            refine wpAny_take (i := 10) (v := .pointer (some ⟨E.g, 0, none⟩)) rfl (by kernel_rfl) (by kernel_rfl) (by kernel_rfl) (fun _ _ _ h => h) (Or.inl ⟨by kernel_rfl, fun w => by go_simp⟩) ?_
            refine wpAny_take (i := 11) (v := .pointer (some ⟨E.g, 1, none⟩)) rfl (by kernel_rfl) (by kernel_rfl) (by kernel_rfl) (fun _ _ _ h => h) (Or.inl ⟨by kernel_rfl, fun w => by go_simp⟩) ?_
            refine wpAny_ready (rs := [8, 12]) (by kernel_rfl) (by simp) ?_
            refine AllReady.cons rfl (fun K hK => ?_) (AllReady.cons rfl (fun K hK => ?_) AllReady.nil)
            · rw [if_pos (by kernel_rfl)]
              go_simp
              refine hK _ _ ?_
              clear hK
              refine wpAny_ready (rs := [12]) (by kernel_rfl) (by simp) ?_
              refine AllReady.cons rfl (fun K hK => ?_) AllReady.nil
              rw [if_pos (by kernel_rfl)]
              go_simp
              refine hK _ _ ?_
              clear hK
              refine wpAny_take (i := 13) (v := .int .i64 ((s.pos : Int) + 1)) rfl (by kernel_rfl) (by kernel_rfl) (by kernel_rfl) (fun _ _ _ h => h) (Or.inl ⟨by kernel_rfl, fun w => by go_simp⟩) ?_
              refine wpAny_take (i := 14) (v := .pointer (some ⟨E.tb, (s.pos + 1) * 5, none⟩)) rfl (by kernel_rfl) (by kernel_rfl) (by kernel_rfl) (fun _ _ _ h => h) (Or.inl ⟨by kernel_rfl, fun w => by go_simp⟩) ?_
              refine wpAny_ready (rs := [15]) (by kernel_rfl) (by simp) ?_
              refine AllReady.cons rfl (fun K hK => ?_) AllReady.nil
              rw [if_pos (by kernel_rfl)]
              go_simp
              refine hK _ _ ?_
              clear hK
              refine wpAny_ready (rs := [16]) (by kernel_rfl) (by simp) ?_
              refine AllReady.cons rfl (fun K hK => ?_) AllReady.nil
              rw [if_pos (by kernel_rfl)]
              go_simp
              refine (HIS.out _).mono ?_
              rintro e w6 ⟨rfl, hb6⟩
              refine hK _ _ ?_
              clear hK
              refine wpAny_take (i := 17) (v := .bool true) rfl (by kernel_rfl) (by kernel_rfl) (by kernel_rfl) (fun _ _ _ h => h) (Or.inl ⟨by kernel_rfl, fun w => by go_simp⟩) ?_
              refine wpAny_take (i := 18) (v := .bool true) rfl (by kernel_rfl) (by kernel_rfl) (by kernel_rfl) (fun _ _ _ h => h) (Or.inl ⟨by kernel_rfl, fun w => by go_simp⟩) ?_
              refine wpAny_done (by kernel_rfl) ?_ _
              have HM6 := Lib.hid (HM5.out.below hb6)
              clear hb6 c0 c1 u0 u1 u2 u3 u4 hb HM5
              go_simp
              go_wp2_with fail
              refine (Mid.tailC (HM6.out) ((HI.out _ (Nat.le_refl _)).label) (by simp [needs])).mono ?_
              rintro e w71 (⟨kb, hkb, rfl, hxb⟩ | ⟨k71, s71, hR71, rfl, hst71, hx71⟩)
              · exact ⟨rfl, Post1.bad hkb hxb⟩
              have HP := Lib.hid (And.intro hR71 (And.intro hst71 hx71))
              clear hR71 hst71 hx71
              go_wp2
              go_ret
              exact .inr ⟨k71, s71, HP.out.1, rfl, HP.out.2.1, HP.out.2.2⟩
            · rw [if_pos (by kernel_rfl)]
              go_simp
              refine hK _ _ ?_
              clear hK
              refine wpAny_take (i := 13) (v := .int .i64 ((s.pos : Int) + 1)) rfl (by kernel_rfl) (by kernel_rfl) (by kernel_rfl) (fun _ _ _ h => h) (Or.inl ⟨by kernel_rfl, fun w => by go_simp⟩) ?_
              refine wpAny_ready (rs := [8]) (by kernel_rfl) (by simp) ?_
              refine AllReady.cons rfl (fun K hK => ?_) AllReady.nil
              rw [if_pos (by kernel_rfl)]
              go_simp
              refine hK _ _ ?_
              clear hK
              refine wpAny_take (i := 14) (v := .pointer (some ⟨E.tb, (s.pos + 1) * 5, none⟩)) rfl (by kernel_rfl) (by kernel_rfl) (by kernel_rfl) (fun _ _ _ h => h) (Or.inl ⟨by kernel_rfl, fun w => by go_simp⟩) ?_
              refine wpAny_ready (rs := [15]) (by kernel_rfl) (by simp) ?_
              refine AllReady.cons rfl (fun K hK => ?_) AllReady.nil
              rw [if_pos (by kernel_rfl)]
              go_simp
              refine hK _ _ ?_
              clear hK
              refine wpAny_ready (rs := [16]) (by kernel_rfl) (by simp) ?_
              refine AllReady.cons rfl (fun K hK => ?_) AllReady.nil
              rw [if_pos (by kernel_rfl)]
              go_simp
              refine (HIS.out _).mono ?_
              rintro e w6 ⟨rfl, hb6⟩
              refine hK _ _ ?_
              clear hK
              refine wpAny_take (i := 17) (v := .bool true) rfl (by kernel_rfl) (by kernel_rfl) (by kernel_rfl) (fun _ _ _ h => h) (Or.inl ⟨by kernel_rfl, fun w => by go_simp⟩) ?_
              refine wpAny_take (i := 18) (v := .bool true) rfl (by kernel_rfl) (by kernel_rfl) (by kernel_rfl) (fun _ _ _ h => h) (Or.inl ⟨by kernel_rfl, fun w => by go_simp⟩) ?_
              refine wpAny_done (by kernel_rfl) ?_ _
              have HM6 := Lib.hid (HM5.out.below hb6)
              clear hb6 c0 c1 u0 u1 u2 u3 u4 hb HM5
              go_simp
              go_wp2_with fail
              refine (Mid.tailC (HM6.out) ((HI.out _ (Nat.le_refl _)).label) (by simp [needs])).mono ?_
              rintro e w71 (⟨kb, hkb, rfl, hxb⟩ | ⟨k71, s71, hR71, rfl, hst71, hx71⟩)
              · exact ⟨rfl, Post1.bad hkb hxb⟩
              have HP := Lib.hid (And.intro hR71 (And.intro hst71 hx71))
              clear hR71 hst71 hx71
              go_wp2
              go_ret
              exact .inr ⟨k71, s71, HP.out.1, rfl, HP.out.2.1, HP.out.2.2⟩
          | false =>
            rw [hi] at his
            have HIS := Lib.hid his
            have HM4 := Lib.hid (show Mid E X nilV [] w R f 0 exprC {} s w3 by
              have h := HM3.out
              rw [if_neg (by rw [HLB.out, hi]; simp)] at h; exact h)
            clear hi HM3 his
            go_wp2
            refine wp_region_any (by kernel_rfl) ?_
            refine wpAny_take (i := 0) (v := .pointer (some ⟨E.g, 0, none⟩)) rfl (by kernel_rfl) (by kernel_rfl) (by kernel_rfl) (fun _ _ _ h => h) (Or.inl ⟨by kernel_rfl, fun w => by go_simp⟩) ?_
            refine wpAny_ready (rs := [1]) (by kernel_rfl) (by simp) ?_
            refine AllReady.cons rfl (fun K hK => ?_) AllReady.nil
            rw [if_pos (by kernel_rfl)]
            go_simp
            refine (peek_k1 HE.out HM4.out.drew.st hp H1.out).mono ?_
            rintro e w5 ⟨rfl, hb5⟩
            refine hK _ _ ?_
            clear hK
            have HM5 := Lib.hid (HM4.out.drew.below hb5)
            clear hb5
            obtain ⟨v5, hv5⟩ := HM5.out.st
            obtain ⟨c0, c1, c2, f1, f2⟩ := hv5.cells
            obtain ⟨u0, u1, u2, u3, u4⟩ := hv5.2.1.1 (s.pos + 1) h2
            unfold tokV at c0
            clear hv5 c2 f1 f2
            refine wpAny_take (i := 2) (v := .int .i64 1) rfl (by kernel_rfl) (by kernel_rfl) (by kernel_rfl) (fun _ _ _ h => h) (Or.inl ⟨by kernel_rfl, fun w => by go_simp⟩) ?_
            refine wpAny_take (i := 3) (v := .bool true) rfl (by kernel_rfl) (by kernel_rfl) (by kernel_rfl) (fun _ _ _ h => h) (Or.inl ⟨by kernel_rfl, fun w => by go_simp⟩) ?_
            refine wpAny_take (i := 4) (v := .bool true) rfl (by kernel_rfl) (by kernel_rfl) (by kernel_rfl) (fun _ _ _ h => h) (Or.inl ⟨by kernel_rfl, fun w => by go_simp⟩) ?_
            refine wpAny_take (i := 5) (v := .pointer (some ⟨E.g, 0, none⟩)) rfl (by kernel_rfl) (by kernel_rfl) (by kernel_rfl) (fun _ _ _ h => h) (Or.inl ⟨by kernel_rfl, fun w => by go_simp⟩) ?_
            refine wpAny_take (i := 6) (v := .pointer (some ⟨E.g, 0, none⟩)) rfl (by kernel_rfl) (by kernel_rfl) (by kernel_rfl) (fun _ _ _ h => h) (Or.inl ⟨by kernel_rfl, fun w => by go_simp⟩) ?_
            refine wpAny_take (i := 7) (v := .pointer (some ⟨E.g, 0, none⟩)) rfl (by kernel_rfl) (by kernel_rfl) (by kernel_rfl) (fun _ _ _ h => h) (Or.inl ⟨by kernel_rfl, fun w => by go_simp⟩) ?_
            refine wpAny_take (i := 9) (v := .pointer (some ⟨E.g, 0, none⟩)) rfl (by kernel_rfl) (by kernel_rfl) (by kernel_rfl) (fun _ _ _ h => h) (Or.inl ⟨by kernel_rfl, fun w => by go_simp⟩) ?_
            refine wpAny_take (i := 10) (v := .pointer (some ⟨E.g, 0, none⟩)) rfl (by kernel_rfl) (by kernel_rfl) (by kernel_rfl) (fun _ _ _ h => h) (Or.inl ⟨by kernel_rfl, fun w => by go_simp⟩) ?_
            refine wpAny_take (i := 11) (v := .pointer (some ⟨E.g, 1, none⟩)) rfl (by kernel_rfl) (by kernel_rfl) (by kernel_rfl) (fun _ _ _ h => h) (Or.inl ⟨by kernel_rfl, fun w => by go_simp⟩) ?_
            refine wpAny_ready (rs := [8, 12]) (by kernel_rfl) (by simp) ?_
            refine AllReady.cons rfl (fun K hK => ?_) (AllReady.cons rfl (fun K hK => ?_) AllReady.nil)
            · rw [if_pos (by kernel_rfl)]
              go_simp
              refine hK _ _ ?_
              clear hK
              refine wpAny_ready (rs := [12]) (by kernel_rfl) (by simp) ?_
              refine AllReady.cons rfl (fun K hK => ?_) AllReady.nil
              rw [if_pos (by kernel_rfl)]
              go_simp
              refine hK _ _ ?_
              clear hK
              refine wpAny_take (i := 13) (v := .int .i64 ((s.pos : Int) + 1)) rfl (by kernel_rfl) (by kernel_rfl) (by kernel_rfl) (fun _ _ _ h => h) (Or.inl ⟨by kernel_rfl, fun w => by go_simp⟩) ?_
              refine wpAny_take (i := 14) (v := .pointer (some ⟨E.tb, (s.pos + 1) * 5, none⟩)) rfl (by kernel_rfl) (by kernel_rfl) (by kernel_rfl) (fun _ _ _ h => h) (Or.inl ⟨by kernel_rfl, fun w => by go_simp⟩) ?_
              refine wpAny_ready (rs := [15]) (by kernel_rfl) (by simp) ?_
              refine AllReady.cons rfl (fun K hK => ?_) AllReady.nil
              rw [if_pos (by kernel_rfl)]
              go_simp
              refine hK _ _ ?_
              clear hK
              refine wpAny_ready (rs := [16]) (by kernel_rfl) (by simp) ?_
              refine AllReady.cons rfl (fun K hK => ?_) AllReady.nil
              rw [if_pos (by kernel_rfl)]
              go_simp
              refine (HIS.out _).mono ?_
              rintro e w6 ⟨rfl, hb6⟩
              refine hK _ _ ?_
              clear hK
              refine wpAny_take (i := 17) (v := .bool false) rfl (by kernel_rfl) (by kernel_rfl) (by kernel_rfl) (fun _ _ _ h => h) (Or.inl ⟨by kernel_rfl, fun w => by go_simp⟩) ?_
              refine wpAny_take (i := 18) (v := .bool false) rfl (by kernel_rfl) (by kernel_rfl) (by kernel_rfl) (fun _ _ _ h => h) (Or.inl ⟨by kernel_rfl, fun w => by go_simp⟩) ?_
              refine wpAny_done (by kernel_rfl) ?_ _
              have HM6 := Lib.hid (HM5.out.below hb6)
              clear hb6 c0 c1 u0 u1 u2 u3 u4 hb HM5
              go_simp
              go_wp2_with fail
              refine (Mid.peek (HM6.out)).mono ?_
              rintro e w71 ⟨rfl, M71⟩
              have HM71 := Lib.hid M71
              clear M71
              go_wp2_with fail
              refine (Mid.call ((HM71.out).here) ((HI.out _ (Nat.le_refl _)).expr) rfl (by simp [needs])).mono ?_
              rintro e w72 (⟨kb, hkb, rfl, hxb⟩ | ⟨k72, s72, rfl, M72⟩)
              · exact ⟨rfl, Post1.bad hkb hxb⟩
              have HM72 := Lib.hid M72
              clear M72
              go_wp2_with fail
              refine (Mid.sign (HM72.out)).mono ?_
              rintro e w73 (⟨kb, hkb, rfl, hxb⟩ | ⟨rfl, hb73, M73⟩)
              · exact ⟨rfl, Post1.bad hkb hxb⟩
              have HM73 := Lib.hid M73
              clear M73
              clear hb73
              go_wp2_with fail
              refine (Mid.add ((HM73.out).kids1 k72) rfl).mono ?_
              rintro e w74 ⟨k74, rfl, M74⟩
              have HM74 := Lib.hid M74
              clear M74
              go_wp2
              go_ret
              exact (HM74.out).post rfl
            · rw [if_pos (by kernel_rfl)]
              go_simp
              refine hK _ _ ?_
              clear hK
              refine wpAny_take (i := 13) (v := .int .i64 ((s.pos : Int) + 1)) rfl (by kernel_rfl) (by kernel_rfl) (by kernel_rfl) (fun _ _ _ h => h) (Or.inl ⟨by kernel_rfl, fun w => by go_simp⟩) ?_
              refine wpAny_ready (rs := [8]) (by kernel_rfl) (by simp) ?_
              refine AllReady.cons rfl (fun K hK => ?_) AllReady.nil
              rw [if_pos (by kernel_rfl)]
              go_simp
              refine hK _ _ ?_
              clear hK
              refine wpAny_take (i := 14) (v := .pointer (some ⟨E.tb, (s.pos + 1) * 5, none⟩)) rfl (by kernel_rfl) (by kernel_rfl) (by kernel_rfl) (fun _ _ _ h => h) (Or.inl ⟨by kernel_rfl, fun w => by go_simp⟩) ?_
              refine wpAny_ready (rs := [15]) (by kernel_rfl) (by simp) ?_
              refine AllReady.cons rfl (fun K hK => ?_) AllReady.nil
              rw [if_pos (by kernel_rfl)]
              go_simp
              refine hK _ _ ?_
              clear hK
              refine wpAny_ready (rs := [16]) (by kernel_rfl) (by simp) ?_
              refine AllReady.cons rfl (fun K hK => ?_) AllReady.nil
              rw [if_pos (by kernel_rfl)]
              go_simp
              refine (HIS.out _).mono ?_
              rintro e w6 ⟨rfl, hb6⟩
              refine hK _ _ ?_
              clear hK
              refine wpAny_take (i := 17) (v := .bool false) rfl (by kernel_rfl) (by kernel_rfl) (by kernel_rfl) (fun _ _ _ h => h) (Or.inl ⟨by kernel_rfl, fun w => by go_simp⟩) ?_
              refine wpAny_take (i := 18) (v := .bool false) rfl (by kernel_rfl) (by kernel_rfl) (by kernel_rfl) (fun _ _ _ h => h) (Or.inl ⟨by kernel_rfl, fun w => by go_simp⟩) ?_
              refine wpAny_done (by kernel_rfl) ?_ _
              have HM6 := Lib.hid (HM5.out.below hb6)
              clear hb6 c0 c1 u0 u1 u2 u3 u4 hb HM5
              go_simp
              go_wp2_with fail
              refine (Mid.peek (HM6.out)).mono ?_
              rintro e w71 ⟨rfl, M71⟩
              have HM71 := Lib.hid M71
              clear M71
              go_wp2_with fail
              refine (Mid.call ((HM71.out).here) ((HI.out _ (Nat.le_refl _)).expr) rfl (by simp [needs])).mono ?_
              rintro e w72 (⟨kb, hkb, rfl, hxb⟩ | ⟨k72, s72, rfl, M72⟩)
              · exact ⟨rfl, Post1.bad hkb hxb⟩
              have HM72 := Lib.hid M72
              clear M72
              go_wp2_with fail
              refine (Mid.sign (HM72.out)).mono ?_
              rintro e w73 (⟨kb, hkb, rfl, hxb⟩ | ⟨rfl, hb73, M73⟩)
              · exact ⟨rfl, Post1.bad hkb hxb⟩
              have HM73 := Lib.hid M73
              clear M73
              clear hb73
              go_wp2_with fail
              refine (Mid.add ((HM73.out).kids1 k72) rfl).mono ?_
              rintro e w74 ⟨k74, rfl, M74⟩
              have HM74 := Lib.hid M74
              clear M74
              go_wp2
              go_ret
              exact (HM74.out).post rfl
        · have hb1 : ((tokAt E.l s.pos).kind == 1) = false := by simpa using h1
          have hd1 : decide ((tokAt E.l s.pos).kind = 1) = false := by simpa using h1
          have HM4 := Lib.hid (show Mid E X nilV [] w R f 0 exprC {} s w3 by
            have h := HM3.out
            rw [if_neg (by unfold labB; simp [h1])] at h; exact h)
          clear h1 hlast HM3
          go_wp2
          refine wp_region_any (by kernel_rfl) ?_
          refine wpAny_take (i := 0) (v := .pointer (some ⟨E.g, 0, none⟩)) rfl (by kernel_rfl) (by kernel_rfl) (by kernel_rfl) (fun _ _ _ h => h) (Or.inl ⟨by kernel_rfl, fun w => by go_simp⟩) ?_
          refine wpAny_ready (rs := [1]) (by kernel_rfl) (by simp) ?_
          refine AllReady.cons rfl (fun K hK => ?_) AllReady.nil
          rw [if_pos (by rfl)]
          go_simp
          refine (Mid.peek HM4.out.drew).mono ?_
          rintro e w5 ⟨rfl, M5⟩
          refine hK _ _ ?_
          clear hK
          refine wpAny_take (i := 2) (v := .int .i64 (tokAt E.l s.pos).kind) rfl (by kernel_rfl) (by kernel_rfl) (by kernel_rfl) (fun _ _ _ h => h) (Or.inl ⟨by kernel_rfl, fun w => by go_simp⟩) ?_
          refine wpAny_take (i := 3) (v := .bool false) rfl (by kernel_rfl) (by kernel_rfl) (by kernel_rfl) (fun _ _ _ h => h) (Or.inl ⟨by kernel_rfl, fun w => by go_simp⟩) ?_
          refine wpAny_take (i := 4) (v := .bool false) rfl (by kernel_rfl) (by kernel_rfl) (by kernel_rfl) (fun _ _ _ h => h) (Or.inl ⟨by kernel_rfl, fun w => by go_simp⟩) ?_
          refine wpAny_take (i := 5) (v := undef) rfl (by kernel_rfl) (by kernel_rfl) (by kernel_rfl) (fun _ _ _ h => h) (Or.inr ⟨by kernel_rfl, rfl⟩) ?_
          refine wpAny_take (i := 6) (v := undef) rfl (by kernel_rfl) (by kernel_rfl) (by kernel_rfl) (fun _ _ _ h => h) (Or.inr ⟨by kernel_rfl, rfl⟩) ?_
          refine wpAny_take (i := 7) (v := undef) rfl (by kernel_rfl) (by kernel_rfl) (by kernel_rfl) (fun _ _ _ h => h) (Or.inr ⟨by kernel_rfl, rfl⟩) ?_
          refine wpAny_take (i := 8) (v := undef) rfl (by kernel_rfl) (by kernel_rfl) (by kernel_rfl) (fun _ _ _ h => h) (Or.inr ⟨by kernel_rfl, rfl⟩) ?_
          refine wpAny_take (i := 9) (v := undef) rfl (by kernel_rfl) (by kernel_rfl) (by kernel_rfl) (fun _ _ _ h => h) (Or.inr ⟨by kernel_rfl, rfl⟩) ?_
          refine wpAny_take (i := 10) (v := undef) rfl (by kernel_rfl) (by kernel_rfl) (by kernel_rfl) (fun _ _ _ h => h) (Or.inr ⟨by kernel_rfl, rfl⟩) ?_
          refine wpAny_take (i := 11) (v := undef) rfl (by kernel_rfl) (by kernel_rfl) (by kernel_rfl) (fun _ _ _ h => h) (Or.inr ⟨by kernel_rfl, rfl⟩) ?_
          refine wpAny_take (i := 12) (v := undef) rfl (by kernel_rfl) (by kernel_rfl) (by kernel_rfl) (fun _ _ _ h => h) (Or.inr ⟨by kernel_rfl, rfl⟩) ?_
          refine wpAny_take (i := 13) (v := undef) rfl (by kernel_rfl) (by kernel_rfl) (by kernel_rfl) (fun _ _ _ h => h) (Or.inr ⟨by kernel_rfl, rfl⟩) ?_
          refine wpAny_take (i := 14) (v := undef) rfl (by kernel_rfl) (by kernel_rfl) (by kernel_rfl) (fun _ _ _ h => h) (Or.inr ⟨by kernel_rfl, rfl⟩) ?_
          refine wpAny_take (i := 15) (v := undef) rfl (by kernel_rfl) (by kernel_rfl) (by kernel_rfl) (fun _ _ _ h => h) (Or.inr ⟨by kernel_rfl, rfl⟩) ?_
          refine wpAny_take (i := 16) (v := undef) rfl (by kernel_rfl) (by kernel_rfl) (by kernel_rfl) (fun _ _ _ h => h) (Or.inr ⟨by kernel_rfl, rfl⟩) ?_
          refine wpAny_take (i := 17) (v := .bool false) rfl (by kernel_rfl) (by kernel_rfl) (by kernel_rfl) (fun _ _ _ h => h) (Or.inl ⟨by kernel_rfl, fun w => by go_simp⟩) ?_
          refine wpAny_take (i := 18) (v := .bool false) rfl (by kernel_rfl) (by kernel_rfl) (by kernel_rfl) (fun _ _ _ h => h) (Or.inl ⟨by kernel_rfl, fun w => by go_simp⟩) ?_
          refine wpAny_done (by kernel_rfl) ?_ _
          all_goals
            have HM5 := Lib.hid M5
            clear M5 hb hb1 hd1
            go_simp
            go_wp2_with fail
            refine (Mid.peek (HM5.out)).mono ?_
            rintro e w71 ⟨rfl, M71⟩
            have HM71 := Lib.hid M71
            clear M71
            go_wp2_with fail
            refine (Mid.call ((HM71.out).here) ((HI.out _ (Nat.le_refl _)).expr) rfl (by simp [needs])).mono ?_
            rintro e w72 (⟨kb, hkb, rfl, hxb⟩ | ⟨k72, s72, rfl, M72⟩)
            · exact ⟨rfl, Post1.bad hkb hxb⟩
            have HM72 := Lib.hid M72
            clear M72
            go_wp2_with fail
            refine (Mid.sign (HM72.out)).mono ?_
            rintro e w73 (⟨kb, hkb, rfl, hxb⟩ | ⟨rfl, hb73, M73⟩)
            · exact ⟨rfl, Post1.bad hkb hxb⟩
            have HM73 := Lib.hid M73
            clear M73
            clear hb73
            go_wp2_with fail
            refine (Mid.add ((HM73.out).kids1 k72) rfl).mono ?_
            rintro e w74 ⟨k74, rfl, M74⟩
            have HM74 := Lib.hid M74
            clear M74
            go_wp2
            go_ret
            exact (HM74.out).post rfl
end Go.Proofs.YteggenldmkbhiaaDoor.Parse
