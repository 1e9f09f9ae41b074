/- The document's own answer for package lex: the tokens of any text of at most 20000 bytes. -/
import Derived.Test.YtmpahpnacpfhoaaDoorT13
import Derived.Test.YtmpahpnacpfhoaaDoorT14
namespace Go.Proofs.YtmpahpnacpfhoaaDoor
open Go.RowKit
set_option maxHeartbeats 400000 in
theorem rLex_long (s : ByteArray) (w : World) (hs : 20000 < s.size) :
    Calls Tryd.prog 12 #[.string s] w fun e w' => e = .returned (.tuple #[.slice none 0 0, .int .i64 0, .int .i64 2]) ∧ w = w' := by
  go_enter Tryd.func12, Tryd.ntmps12
  go_wp2
  go_ret3
  exact ⟨rfl, rfl⟩

set_option maxHeartbeats 4000000 in
set_option maxRecDepth 100000 in
theorem rLex_short (s : ByteArray) (w : World) (hs : s.size ≤ 20000) :
    Calls Tryd.prog 12 #[.string s] w fun e w' => LexEnd w (lexL (s.data.toList.length + 1) s.data.toList 0 []) e w' := by
  obtain ⟨i0, hi, hz0, hz1, hz2⟩ := info_parts Tryd.info29
  obtain ⟨R, hR⟩ : ∃ R, R = lexL (s.data.toList.length + 1) s.data.toList 0 [] := ⟨_, rfl⟩
  rw [← hR]
  have HL0 := Lib.hid hR
  clear hR
  go_enter Tryd.func12, Tryd.ntmps12
  go_wp2
  go_loopw [5, 6] (fun v i wr => ∃ (a f : Nat) (ts : List PTok) (ao : Option Addr) (cv : Nat), a ≤ s.size ∧ i = .int .i64 a ∧ s.size - a < f ∧ ts.length ≤ 3999 ∧ v = .slice ao ts.length cv ∧
      Hid (TokRow wr w.heap.size (.slice ao ts.length cv) ts) ∧ Below w.heap.size w wr ∧ Hid (R = lexL f s.data.toList a ts))
    (fun _ i _ => s.size - (intOf i).toNat)
  case atStart => exact ⟨0, s.data.toList.length + 1, [], none, 0, by omega, rfl, by rw [← Lib.size_eq]; omega, by simp, rfl, Lib.hid (TokRow.nil _ _), Below.refl _ _, HL0⟩
  case round =>
    obtain ⟨a, f, ts, ao, cv, ha, rfl, hf, hts, rfl, hT, hnx, hH⟩ := hrel
    obtain ⟨g, rfl⟩ : ∃ g, f = g + 1 := ⟨f - 1, by omega⟩
    by_cases hlt : a < s.size
    · have hl : a < s.data.toList.length := by rw [← Lib.size_eq]; exact hlt
      have hbl := rBlank_any s[a]
      have hgb : s.data.toList.getD a 0 = s[a] := by rw [← getD_drop s a hlt]; simp [List.getD]
      have i1 : (a : Int) < s.size := by omega
      cases hb : blankB s[a] with
      | true =>
        have HS := Lib.hid (hH.out.trans (lexL_same (f := g) (ts := ts) (skipAt_blank hl (by rw [hgb]; exact hb))))
        rw [hb] at hbl
        have HB := Lib.hid hbl
        clear hb hbl hgb hH
        go_wp2_with (first | (go_at_call 20; refine (HB.out _).mono ?_; rintro e w' ⟨rfl, rfl⟩))
        go_roundw
        case rel => exact ⟨a + 1, g + 1, ts, ao, cv, by omega, by go_num, by omega, hts, rfl, hT, hnx, HS⟩
        case measure => simp [intOf]; omega
      | false =>
        rw [hb] at hbl
        have HB := Lib.hid hbl
        have hcm := fun w => rComment_any s a hlt w hs
        rcases cmt_facts hl (by rw [hgb]; exact hb) with ⟨h1, h2⟩ | ⟨h1, h2⟩ | ⟨e, h1, h3, h4, h2⟩
        · rw [h1] at hcm
          have HC := Lib.hid hcm
          have HS := Lib.hid (hH.out.trans (lex_skipErr h2))
          clear hb hbl hgb hH hcm h1 h2
          go_wp2_with (first | (go_at_call 20; refine (HB.out _).mono ?_; rintro e w' ⟨rfl, rfl⟩) | (go_at_call 21; refine (HC.out _).mono ?_; rintro e w' ⟨rfl, rfl⟩))
          go_ret3
          rw [HS.out]
          exact LexEnd.err rfl hnx
        · rw [h1] at hcm
          have HC := Lib.hid hcm
          have hrt := fun w => rTok_any s a hlt w hs
          obtain ⟨r, hrr⟩ : ∃ r, r = readL (s.data.toList.drop a) := ⟨_, rfl⟩
          rw [← hrr] at hrt
          have HD := Lib.hid hrt
          have hend : a ≠ s.data.toList.length := by rw [← Lib.size_eq]; omega
          clear hrt hcm h1 hbl
          by_cases he : r.2.2 = 0
          · by_cases hm : ts.length = 3999
            · have HS := Lib.hid (hH.out.trans (lex_many h2 hend (by rw [← hrr]; exact he) hm))
              have he1 : ((r.2.2 : Int) != 0) = false := by rw [bne_eq_false_iff_eq]; omega
              have hm1 : (3999 : Int) ≤ (ts.length : Int) := by omega
              clear hrr h2 hend he hm hb hgb hH
              go_wp2_with (first | (go_at_call 20; refine (HB.out _).mono ?_; rintro e w' ⟨rfl, rfl⟩) | (go_at_call 21; refine (HC.out _).mono ?_; rintro e w' ⟨rfl, rfl⟩) | (go_at_call 22; refine (HD.out _).mono ?_; rintro e w' ⟨⟨t, n, rfl, hok⟩, hb⟩; obtain ⟨hq, hf⟩ := bcell hb; have hz := hb.size; unfold aggT))
              go_ret3
              rw [HS.out]
              exact LexEnd.err rfl ((hnx.trans (hb.mono hnx.size)).alloc (Nat.le_trans hnx.size hz) _)
            · have hrl := readL_len (l := s.data.toList.drop a) (by rw [List.length_drop, ← Lib.size_eq]; omega) (by rw [← hrr]; exact he)
              rw [← hrr, List.length_drop, ← Lib.size_eq] at hrl
              have HS := Lib.hid (hH.out.trans (lex_on h2 hend (by rw [← hrr]; exact he) hm))
              rw [← hrr] at HS
              obtain ⟨hn1, hn2⟩ := hrl
              have he1 : ((r.2.2 : Int) != 0) = false := by rw [bne_eq_false_iff_eq]; omega
              have hm1 : (ts.length : Int) < 3999 := by omega
              have hm2 : ts.length < 3999 := by omega
              have HE := Lib.hid he
              have hT' := hT.out
              unfold TokRow at hT'
              have HT := Lib.hid hT'
              have hsz := hnx.size
              clear hrr h2 hend hm hb hgb hH hT' he
              go_wp2_with (first | (go_at_call 20; refine (HB.out _).mono ?_; rintro e w' ⟨rfl, rfl⟩) | (go_at_call 21; refine (HC.out _).mono ?_; rintro e w' ⟨rfl, rfl⟩) | (go_at_call 22; refine (HD.out _).mono ?_; rintro e w' ⟨⟨t, n, rfl, hok⟩, hb⟩; obtain ⟨ht, hn⟩ := hok HE.out; subst ht hn; obtain ⟨hq, hf⟩ := bcell hb; have hz := hb.size; unfold aggT) | (at_builtin; refine wpList_append_own _ rfl (.tmp 48) (.tmp 50) 22 rfl w.heap.size 29 i0 (.agg #[.int .i64 0, .int .i64 0, .string ⟨#[]⟩, .int .u32 0, .bool false]) 5 40 Tryd.underlying22 hi hz0 hz1 hz2 rfl (by decide) _ _ _ rfl (((own_below HT.out hb).alloc _).alloc _) ⟨w'.heap.size + 1, 0, none⟩ 1 1 (tokCells (r.1, a)) rfl rfl (by have h5 := cells_new5 (w'.alloc (.cells #[.int .i64 r.1.kind, .int .i64 a, .string ⟨r.1.text.toArray⟩, .int .u32 r.1.num, .bool r.1.uns] 29)) (.int .i64 r.1.kind) (.int .i64 a) (.string ⟨r.1.text.toArray⟩) (.int .u32 r.1.num) (.bool r.1.uns) 29; rw [World.size_alloc] at h5; exact h5) (tok_one _) (by unfold maxLen; omega) (by omega) (by rw [World.size_alloc, World.size_alloc]; omega) ?_; intro v3 w3 hown3 hgrow3 hnil3))
              obtain ⟨ao3, cv3, hv3⟩ := tok_form hown3
              go_roundw
              case rel =>
                have hbw : Below w.heap.size w w' := hnx.trans (hb.mono hsz)
                have hB3 : Below w.heap.size w w3 := ((hbw.alloc (by omega) _).alloc (by rw [World.size_alloc]; omega) _).grown hgrow3 (by rw [World.size_alloc, World.size_alloc]; omega) (fun k hk => (HT.out.lt k hk).1)
                have hT3 : TokRow w3 w.heap.size v3 (ts ++ [(r.1, a)]) := TokRow.snoc (t := (r.1, a)) hown3
                rw [hv3] at hT3
                have hlen : (ts ++ [(r.1, a)]).length = ts.length + 1 := by simp
                exact ⟨a + r.2.1, g, ts ++ [(r.1, a)], ao3, cv3, by omega, by go_num, by omega, by omega, by rw [hlen]; exact hv3, Lib.hid (by rw [hlen]; exact hT3), hB3, HS⟩
              case measure => simp [intOf]; omega
          · have HS := Lib.hid (hH.out.trans (lex_err h2 hend (by rw [← hrr]; exact he)))
            rw [← hrr] at HS
            have he1 : ((r.2.2 : Int) != 0) = true := by rw [bne_iff_ne]; omega
            clear hrr h2 hend he hb hgb hH
            go_wp2_with (first | (go_at_call 20; refine (HB.out _).mono ?_; rintro e w' ⟨rfl, rfl⟩) | (go_at_call 21; refine (HC.out _).mono ?_; rintro e w' ⟨rfl, rfl⟩) | (go_at_call 22; refine (HD.out _).mono ?_; rintro e w' ⟨⟨t, n, rfl, hok⟩, hb⟩; obtain ⟨hq, hf⟩ := bcell hb; have hz := hb.size; unfold aggT))
            go_ret3
            rw [HS.out]
            exact LexEnd.err rfl ((hnx.trans (hb.mono hnx.size)).alloc (Nat.le_trans hnx.size hz) _)
        · rw [h1] at hcm
          have HC := Lib.hid hcm
          have HS := Lib.hid (hH.out.trans (lexL_same (f := g) (ts := ts) h2))
          have h4' : e ≤ s.size := by rw [Lib.size_eq]; exact h4
          have j1 : (0 : Int) ≤ e := by omega
          clear hb hbl hgb hH hcm h1 h2 h4
          go_wp2_with (first | (go_at_call 20; refine (HB.out _).mono ?_; rintro e w' ⟨rfl, rfl⟩) | (go_at_call 21; refine (HC.out _).mono ?_; rintro e w' ⟨rfl, rfl⟩))
          go_roundw
          case rel => exact ⟨e, g + 1, ts, ao, cv, by omega, by first | rfl | go_num, by omega, hts, rfl, hT, hnx, HS⟩
          case measure => simp [intOf]; omega
    · have haa : a = s.size := by omega
      subst haa
      have HS := Lib.hid (hH.out.trans (lex_end (ts := ts) (f := g) (by unfold skipAt; rw [skip_end (by rw [← Lib.size_eq]; omega), Lib.size_eq])))
      rw [← Lib.size_eq] at HS
      have hT' := hT.out
      unfold TokRow at hT'
      have HT := Lib.hid hT'
      have hsz := hnx.size
      clear hT' hH
      go_wp2_with (first | (at_builtin; refine wpList_append_own _ rfl (.tmp 53) (.tmp 57) 22 rfl w.heap.size 29 i0 (.agg #[.int .i64 0, .int .i64 0, .string ⟨#[]⟩, .int .u32 0, .bool false]) 5 40 Tryd.underlying22 hi hz0 hz1 hz2 rfl (by decide) _ _ _ rfl (HT.out.alloc _) ⟨wr.heap.size, 0, none⟩ 1 1 (tokCells (endTok, s.size)) rfl rfl (cells_new5 _ _ _ _ _ _ _) (tok_one _) (by unfold maxLen; omega) (by omega) (by rw [World.size_alloc]; omega) ?_; intro v3 w3 hown3 hgrow3 hnil3))
      go_ret3
      rw [HS.out]
      exact ⟨v3, rfl, TokRow.snoc (t := (endTok, s.size)) hown3, (hnx.alloc hsz _).grown hgrow3 (by rw [World.size_alloc]; omega) (fun k hk => (HT.out.lt k hk).1)⟩

theorem rLex_any (s : ByteArray) (w : World) : Calls Tryd.prog 12 #[.string s] w fun e w' => LexEnd w (lexAll s.data.toList) e w' := by
  unfold lexAll
  by_cases h : s.size ≤ 20000
  · rw [if_neg (by rw [← Lib.size_eq]; omega)]
    exact rLex_short s w h
  · rw [if_pos (by rw [← Lib.size_eq]; omega)]
    refine (rLex_long s w (by omega)).mono ?_
    rintro e w' ⟨he, rfl⟩
    exact LexEnd.err he (Below.refl _ _)
end Go.Proofs.YtmpahpnacpfhoaaDoor
