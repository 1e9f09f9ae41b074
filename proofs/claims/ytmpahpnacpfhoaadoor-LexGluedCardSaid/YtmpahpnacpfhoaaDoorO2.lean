/- The law LexGlued where both texts have tokens and are not too great together. -/
import Derived.Test.YtmpahpnacpfhoaaDoorO
namespace Go.Proofs.YtmpahpnacpfhoaaDoor
open Go.RowKit

theorem row_cells2 {w : World} {B : Nat} {g cap n : Nat} {xs ys : List Value} (h : w.ownsRow B 29 5 (.slice (some ⟨g, 0, none⟩) n cap) n (xs ++ ys)) :
    ∀ j u, xs[j]? = some u → w.cell? ((⟨g, 0, none⟩ : Addr).add j) = some u := by
  intro j u hj
  refine World.ownsRow.cells h (g := g) rfl j u ?_
  rw [List.getElem?_append_left (List.getElem?_eq_some_iff.1 hj).1]
  exact hj
theorem row_append (us vs : List PTok) : rowOf (us ++ vs) = rowOf us ++ rowOf vs := by simp [rowOf]

set_option maxHeartbeats 4000000 in
set_option maxRecDepth 100000 in
theorem glued_ok (a b : ByteArray) (w : World) (hr : Rdy w) (ta tb us : List PTok) (na A B pa pb : Nat) (hLa : Calls Tryd.prog 11 #[.string a] w fun e w' => LexEnd w (ta, pa, 0) e w')
    (hLb : ∀ w, Rdy w → Calls Tryd.prog 11 #[.string b] w fun e w' => LexEnd w (tb, pb, 0) e w') (hua : ta = us ++ [(endTok, na)]) (hA : A = ta.length) (hB : B = tb.length) (hA1 : 1 ≤ A) (hA2 : A ≤ 4000) (hB1 : 1 ≤ B) (hB2 : B ≤ 4000)
    (hsa : a.size + b.size + 1 ≤ 20000) (hm : A + B - 1 ≤ 4000) (tc : List PTok)
    (hLc : ∀ w, Rdy w → Calls Tryd.prog 11 #[.string (a ++ ⟨#[10]⟩ ++ b)] w fun e w' => LexEnd w (tc, 0, 0) e w') (hc2 : tc.map (·.1) = (us ++ tb).map (·.1)) :
    Calls Tryd.prog 7 #[.string a, .string b] w fun e w' => e = .returned (.bool true) ∧ Below w.heap.size w w' := by
  obtain ⟨i0, hi, hz0, hz1, hz2⟩ := info_parts Tryd.info29
  have HR := Lib.hid hr
  have HV := Lib.hid live_any
  have hul : us.length = A - 1 := by rw [hA, hua]; simp
  have hrow : rowOf ta = rowOf us ++ tokCells (endTok, na) := by rw [hua, row_snoc]
  have hAB : A - 1 + B ≤ 4000 := by omega
  have HLa := Lib.hid hLa
  have HLb := Lib.hid hLb
  have HLc := Lib.hid hLc
  have HC2 := Lib.hid hc2
  have HA := Lib.hid hA
  have HB := Lib.hid hB
  have HU := Lib.hid hul
  have HRow := Lib.hid hrow
  have eA : ((A : Int) == 0) = false := by rw [beq_eq_false_iff_ne]; omega
  have eB : ((B : Int) == 0) = false := by rw [beq_eq_false_iff_ne]; omega
  have f1 : (a.size : Int) + b.size + 1 ≤ 20000 := by omega
  have f2 : (A : Int) + B - 1 ≤ 4000 := by omega
  clear hr hLa hLb hLc hc2 hA hB hul hrow hua
  go_enter Tryd.func7, Tryd.ntmps7
  go_wp2_with fail
  refine HLa.out.mono ?_
  rintro e w1 ⟨v, rfl, hTa, hb1⟩
  have hTa' : w1.ownsRow w.heap.size 29 5 v ta.length (rowOf ta) := hTa
  rw [← HA.out, HRow.out] at hTa'
  obtain ⟨ga, ca, hv, hca, hcam⟩ := tok_form2 hTa' hA1
  subst hv
  have HTa := Lib.hid hTa'
  clear hTa hTa'
  have hr1 := HR.out.below hb1
  go_wp2_with fail
  refine (HLb.out _ hr1).mono ?_
  rintro e w2 ⟨v, rfl, hTb, hb2⟩
  have hTb' : w2.ownsRow w1.heap.size 29 5 v tb.length (rowOf tb) := hTb
  rw [← HB.out] at hTb'
  obtain ⟨gb, cb, hv, hcb, hcbm⟩ := tok_form2 hTb' hB1
  subst hv
  have HTb := Lib.hid hTb'
  have hr2 := Lib.hid (hr1.below hb2)
  have hw2 := Lib.hid (hb1.trans (hb2.mono hb1.size))
  clear hTb hTb' hr1
  go_wp2_with fail
  refine (HLc.out _ hr2.out).mono ?_
  rintro e w3 ⟨v, rfl, hTc, hb3⟩
  have HTc := Lib.hid (TokRow.toks hTc)
  have hw3 := Lib.hid (hw2.out.trans (hb3.mono hw2.out.size))
  have hr3 := Lib.hid (hr2.out.below hb3)
  have HTa3 := Lib.hid (own_below (own_below HTa.out hb2) hb3)
  have HTb3 := Lib.hid (own_below HTb.out hb3)
  clear hTc hb1 hb2 hb3
  have g1 : (1 : Int) ≤ A := by omega
  have g2 : (A : Int) - 1 ≤ ca := by omega
  go_wp2_with (first | (at_builtin; refine wpList_append_own _ rfl (.tmp 71) (.tmp 76) 22 rfl w3.heap.size 29 i0 (.agg #[.int .i64 0, .int .i64 0, .string ⟨#[]⟩, .int .u32 0, .bool false]) 5 40 Tryd.underlying22 hi hz0 hz1 hz2 rfl (by decide) (.slice none 0 0) 0 [] rfl ⟨rfl, .inl ⟨rfl, rfl⟩⟩ ⟨ga, 0, none⟩ (A - 1) ca (rowOf us) rfl (by rw [row_len, HU.out]) (row_cells2 HTa3.out) (row_one _) (by unfold maxLen; omega) (by omega) (Nat.le_refl _) ?_; intro v4 w4 hown4 hgrow4 hnil4; clear hnil4) | (at_builtin; refine wpList_append_own _ rfl (.tmp 78) (.tmp 79) 22 rfl w3.heap.size 29 i0 (.agg #[.int .i64 0, .int .i64 0, .string ⟨#[]⟩, .int .u32 0, .bool false]) 5 40 Tryd.underlying22 hi hz0 hz1 hz2 rfl (by decide) v4 (0 + (A - 1)) ([] ++ rowOf us) rfl hown4 ⟨gb, 0, none⟩ B cb (rowOf tb) rfl (by rw [row_len, HB.out]) (World.ownsRow.cells (World.ownsRow.kept HTb3.out hgrow4 (Or.inr (by simp [Value.ownBlock]))) (g := gb) rfl) (row_one _) (by unfold maxLen; omega) (by omega) hgrow4.size ?_; intro v5 w5 hown5 hgrow5 hnil5; clear hnil5) | fail)
  have hb35 : Below w3.heap.size w3 w5 := ((Below.refl w3.heap.size w3).grown hgrow4 (Nat.le_refl _) (fun k hk => by cases hk)).grown hgrow5 hgrow4.size (fun k hk => (hown4.lt k hk).1)
  have hT5 : TokRow w5 w3.heap.size v5 (us ++ tb) := by
    unfold TokRow
    rw [row_append, List.length_append, HU.out, ← HB.out]
    simpa using hown5
  have hct : tc.length ≤ 4000 := by
    have h1 := congrArg List.length HC2.out
    simp only [List.length_map, List.length_append] at h1
    rw [h1, HU.out, ← HB.out]
    exact hAB
  have HK := Lib.hid (alike_any tc (us ++ tb) v v5 _ _ w5 (HTc.out.below hb35) (TokRow.toks hT5) HC2.out hct)
  have hr5 := Lib.hid (hr3.out.below hb35)
  have hw5 := Lib.hid (hw3.out.trans (hb35.mono hw3.out.size))
  clear hown4 hgrow4 hown5 hgrow5 hb35 hT5 hct
  go_wp2_with (first | (go_at_call 15; refine HK.out.mono ?_; rintro e w6 ⟨rfl, hb6⟩) | (go_at_call 14; refine (HV.out _ (hr5.out.below hb6)).mono ?_; rintro e w7 ⟨rfl, hb7⟩))
  go_ret
  exact ⟨rfl, (hw5.out.trans (hb6.mono hw5.out.size)).trans (hb7.mono (Nat.le_trans hw5.out.size hb6.size))⟩

theorem glued_any (a b : ByteArray) (w : World) (hr : Rdy w) : Calls Tryd.prog 7 #[.string a, .string b] w fun e w' => e = .returned (.bool true) ∧ Below w.heap.size w w' := by
  obtain ⟨⟨ta, pa, ea⟩, hRa⟩ : ∃ R, R = lexAll a.data.toList := ⟨_, rfl⟩
  obtain ⟨⟨tb, pb, eb⟩, hRb⟩ : ∃ R, R = lexAll b.data.toList := ⟨_, rfl⟩
  have hLa := lex_any a w hr
  have hLb := fun w hr => lex_any b w hr
  rw [← hRa] at hLa
  rw [← hRb] at hLb
  by_cases hea : ea = 0
  · subst hea
    by_cases heb : eb = 0
    · subst heb
      obtain ⟨us, hua, _, hla, hsa, hna⟩ := lexAll_lp (l := a.data.toList) (by rw [← hRa])
      obtain ⟨vs, hvb, _, hlb, hsb, hnb⟩ := lexAll_lp (l := b.data.toList) (by rw [← hRb])
      rw [← hRa] at hua
      rw [← hRb] at hvb
      simp only at hua hvb
      have hAu : ta.length = us.length + 1 := by rw [hua]; simp
      have hBu : tb.length = vs.length + 1 := by rw [hvb]; simp
      rw [← Lib.size_eq] at hsa hsb
      by_cases hg : 20000 < a.size + b.size + 1 ∨ 4000 < ta.length + tb.length - 1
      · exact glued_great a b w hr ta tb ta.length tb.length pa pb hLa hLb rfl rfl (by omega) (by omega) (by omega) (by omega) hsa hsb hg
      · obtain ⟨tc, hc1, hc2⟩ := glue_plain hla hlb (by rw [← Lib.size_eq, ← Lib.size_eq]; omega) (by omega)
        rw [← hvb] at hc2
        refine glued_ok a b w hr ta tb us _ ta.length tb.length pa pb hLa hLb hua rfl rfl (by omega) (by omega) (by omega) (by omega) (by omega) (by omega) tc ?_ hc2
        intro w hr
        have := lex_any (a ++ ⟨#[10]⟩ ++ b) w hr
        rw [append_data, append_data] at this
        rw [← hc1]; exact this
    · exact glued_err2 a b w hr ta tb pa pb eb hLa hLb heb
  · exact glued_err1 a b w hr ta tb pa ea pb eb hLa hLb hea
end Go.Proofs.YtmpahpnacpfhoaaDoor
