/- The law LexParted: walked, for every text. -/
import Derived.Test.YtmpahpnacpfhoaaDoorN
namespace Go.Proofs.YtmpahpnacpfhoaaDoor
open Go.RowKit

/-- The pieces of tokens k on, of tokens that end with the end. -/
theorem parts_step {l s : Bs} {us : List PTok} {k : Nat} {t u : PTok} (ht : us[k]? = some t) (hu : (us ++ [(endTok, l.length)])[k + 1]? = some u) :
    parts l s (us.drop k) = (l.drop t.2).take (u.2 - t.2) ++ s ++ parts l s (us.drop (k + 1)) := by
  have hk : k < us.length := (List.getElem?_eq_some_iff.1 ht).1
  have hd : us.drop k = t :: us.drop (k + 1) := by
    rw [List.drop_eq_getElem_cons hk]
    congr 1
    have := (List.getElem?_eq_some_iff.1 ht).2
    exact this
  have hn : nextOf l.length (us.drop (k + 1)) = u.2 := by
    rcases Nat.lt_or_ge (k + 1) us.length with h | h
    · rw [List.getElem?_append_left h] at hu
      rw [List.drop_eq_getElem_cons h]
      have := (List.getElem?_eq_some_iff.1 hu).2
      rw [this]; rfl
    · rw [List.getElem?_append_right h, show k + 1 - us.length = 0 by omega] at hu
      simp at hu
      rw [List.drop_eq_nil_of_le h, ← hu]; rfl
  rw [hd]
  obtain ⟨t1, t2⟩ := t
  simp only [parts, hn]

theorem part_plain {l : Bs} {us : List PTok} (h : Lp l 0 us) (s : Bs) (hs : Gap s) (hl : (parts l (10 :: s) us).length ≤ 20000) (hn : us.length ≤ 3999) :
    ∃ ts, lexAll (parts l (10 :: s) us) = (ts, 0, 0) ∧ ts.map (·.1) = (us ++ [(endTok, l.length)]).map (·.1) := by
  obtain ⟨ts, h1, h2⟩ := lx_lexAll (lx_parts hs h).2 hl (by simp; exact hn)
  exact ⟨ts, h1, by rw [h2]; simp⟩

/-- Places of tokens that rise, and lie within the text. -/
theorem places_in {n : Nat} {ts : List PTok} (h : Placed n ts) : ∀ (k : Nat) (t : PTok), ts[k]? = some t → t.2 ≤ n := by
  obtain ⟨h0, h1, h2⟩ := h
  have : ∀ d k t, k + d + 1 = ts.length → ts[k]? = some t → t.2 ≤ n := by
    intro d
    induction d with
    | zero => intro k t hk ht; exact Nat.le_of_eq ((h1 k t ht).2 (by omega))
    | succ d ih =>
      intro k t hk ht
      obtain ⟨u, hu⟩ : ∃ u, ts[k + 1]? = some u := ⟨_, List.getElem?_eq_getElem (by omega)⟩
      have := ih (k + 1) u (by omega) hu
      have := h2 k t u ht hu
      omega
  intro k t ht
  have hk := (List.getElem?_eq_some_iff.1 ht).1
  exact this (ts.length - 1 - k) k t (by omega) ht

set_option maxHeartbeats 2000000 in
set_option maxRecDepth 100000 in
theorem parted_err (s : ByteArray) (w : World) (hr : Rdy w) (ts : List PTok) (p er : Nat) (hL : Calls Tryd.prog 11 #[.string s] w fun e w' => LexEnd w (ts, p, er) e w') (he : er ≠ 0) :
    Calls Tryd.prog 5 #[.string s] w fun e w' => e = .returned (.bool true) ∧ Below w.heap.size w w' := by
  have HR := Lib.hid hr
  have HV := Lib.hid live_any
  have HL := Lib.hid hL
  have e1 : ((er : Int) != 0) = true := by rw [bne_iff_ne]; omega
  clear hr hL he
  go_enter Tryd.func5, Tryd.ntmps5
  go_wp2_with fail
  refine HL.out.mono ?_
  rintro e w1 ⟨v, rfl, hT, hb⟩
  have hr1 := Lib.hid (HR.out.below hb)
  clear hT
  go_wp2_with (go_at_call 14; refine (HV.out _ hr1.out).mono ?_; rintro e w2 ⟨rfl, hb2⟩)
  go_ret
  exact ⟨rfl, hb.trans (hb2.mono hb.size)⟩

set_option maxHeartbeats 4000000 in
set_option maxRecDepth 100000 in
theorem parted_ok (s : ByteArray) (w : World) (hr : Rdy w) (ts us : List PTok) (hs : s.size ≤ 20000) (hL : Calls Tryd.prog 11 #[.string s] w fun e w' => LexEnd w (ts, 0, 0) e w')
    (hus : ts = us ++ [(endTok, s.data.toList.length)]) (hp : Placed s.size ts) (hl4 : ts.length ≤ 4000) (hlp : Lp s.data.toList 0 us) :
    Calls Tryd.prog 5 #[.string s] w fun e w' => e = .returned (.bool true) ∧ Below w.heap.size w w' := by
  obtain ⟨N, hN⟩ : ∃ N, N = ts.length := ⟨_, rfl⟩
  have hNu : us.length + 1 = N := by rw [hN, hus]; simp
  have hpl := parts_len (s := [10]) hlp
  have hlen0 : (parts s.data.toList [10] us).length ≤ 24000 := by
    have h1 := lp_next hlp
    simp only [List.length_cons, List.length_nil, Nat.zero_add, Nat.mul_one] at hpl
    rw [← Lib.size_eq] at hpl
    omega
  have hpi := places_in hp
  have HR := Lib.hid hr
  have HV := Lib.hid live_any
  have HL := Lib.hid hL
  have HN := Lib.hid hN
  have HNu := Lib.hid hNu
  have HUS := Lib.hid hus
  have HP := Lib.hid hp
  have HPI := Lib.hid hpi
  have HLP := Lib.hid hlp
  have HLEN := Lib.hid hlen0
  have hN0 : 1 ≤ N := by omega
  have hN4 : N ≤ 4000 := by omega
  have eN : ((N : Int) == 0) = false := by rw [beq_eq_false_iff_ne]; omega
  clear hr hL hN hNu hus hp hpi hlp hlen0 hpl hl4
  go_enter Tryd.func5, Tryd.ntmps5
  go_wp2_with fail
  refine HL.out.mono ?_
  rintro e w1 ⟨v, rfl, hT, hb⟩
  have hT0 : TokRow w1 w.heap.size v ts := hT
  rcases hT0.toks with ⟨h, _⟩ | ⟨g, cap, rfl, hg, hcap, hgl, _, hc⟩
  · rw [h] at HN; have := HN.out; simp at this; omega
  · rw [← HN.out] at hcap ⊢
    have HC := Lib.hid hc
    have HT := Lib.hid hT0.toks
    have hr1 := Lib.hid (HR.out.below hb)
    clear hc hT hT0
    simp only [Int.natCast_zero]
    go_wp2_with fail
    go_loopw [6, 7] (fun x i wr => ∃ (k : Nat) (X : ByteArray), k + 1 ≤ N ∧ i = .int .i64 k ∧ x = .string X ∧ X.size ≤ 24000 ∧ Hid (X.data.toList ++ parts s.data.toList [10] (us.drop k) = parts s.data.toList [10] us) ∧ Below w1.heap.size w1 wr) (fun _ i _ => N - (intOf i).toNat)
    case atStart => exact ⟨0, ⟨#[]⟩, hN0, rfl, rfl, by show 0 ≤ 24000; omega, Lib.hid (by simp), Below.refl _ _⟩
    case round =>
      obtain ⟨k, X, hk, rfl, rfl, hX, hH, hbw⟩ := hrel
      by_cases hlt : k + 1 < N
      · obtain ⟨t, ht⟩ : ∃ t, ts[k]? = some t := ⟨_, List.getElem?_eq_getElem (by rw [← HN.out]; omega)⟩
        obtain ⟨u, hu⟩ : ∃ u, ts[k + 1]? = some u := ⟨_, List.getElem?_eq_getElem (by rw [← HN.out]; exact hlt)⟩
        obtain ⟨-, a1, -, -, -⟩ := HC.out k t ht
        obtain ⟨-, b1, -, -, -⟩ := HC.out (k + 1) u hu
        have c1 := (hbw.cell (p := ⟨g, k * 5 + 1, none⟩) hgl).trans a1
        have d1 := (hbw.cell (p := ⟨g, (k + 1) * 5 + 1, none⟩) hgl).trans b1
        have htu : t.2 < u.2 := HP.out.2.2 k t u ht hu
        have hul : u.2 ≤ s.size := HPI.out (k + 1) u hu
        have hut : us[k]? = some t := by
          rw [HUS.out, List.getElem?_append_left (by have := HNu.out; omega)] at ht
          exact ht
        have hst := parts_step (l := s.data.toList) (s := [10]) hut (by rw [← HUS.out]; exact hu)
        obtain ⟨Y, hY⟩ : ∃ Y : ByteArray, Y = X ++ s.extract t.2 u.2 ++ ⟨#[10]⟩ := ⟨_, rfl⟩
        have hYl : Y.data.toList = X.data.toList ++ ((s.data.toList.drop t.2).take (u.2 - t.2) ++ [10]) := by
          rw [hY, append_data, append_data, Lib.extract_data]; simp
        have hH2 : Y.data.toList ++ parts s.data.toList [10] (us.drop (k + 1)) = parts s.data.toList [10] us := by
          rw [hYl, ← hH.out, hst]; simp
        have hYs : Y.size ≤ 24000 := by
          have h1 := congrArg List.length hH2
          rw [List.length_append] at h1
          have := HLEN.out
          rw [Lib.size_eq]; omega
        have HY := Lib.hid hY
        have HH := Lib.hid hH2
        obtain ⟨q, hq⟩ : ∃ q : Nat, q = k + 1 := ⟨_, rfl⟩
        rw [← hq] at d1
        have HQ := Lib.hid hq
        have i0 : (0 : Int) ≤ k := by omega
        have i1 : (k : Int) < N := by omega
        have j0 : (0 : Int) ≤ q := by omega
        have j1 : (q : Int) < N := by omega
        have l0 : (0 : Int) ≤ t.2 := by omega
        have l1 : (t.2 : Int) ≤ u.2 := by omega
        have l2 : (u.2 : Int) ≤ s.size := by omega
        have l3 : t.2 ≤ u.2 := by omega
        have wq : Hid (IntKind.i64.wrap ((k : Int) + 1) = q) := Lib.hid (by rw [IntKind.wrap_i64]; omega)
        clear ht hu a1 b1 hut hst hY hYl hH2 hH hq
        go_wp2
        have wq' := wq.out
        go_quiet (fail)
        clear wq'
        go_wp2
        go_roundw
        case rel => exact ⟨k + 1, Y, by omega, by go_num, by rw [HY.out], hYs, HH, below_drewN hbw _⟩
        case measure => simp [intOf]; omega
      · have hkk : N = k + 1 := by omega
        subst hkk
        have hXe : X.data.toList = parts s.data.toList [10] us := by
          have h1 := hH.out
          rw [List.drop_eq_nil_of_le (by have := HNu.out; omega)] at h1
          simpa [parts] using h1
        have hr2 := Lib.hid (hr1.out.below hbw)
        have hw2 := Lib.hid (hb.trans (hbw.mono hb.size))
        have HT2 := Lib.hid (HT.out.below hbw)
        have HXE := Lib.hid hXe
        have hXi : (X.size : Int) ≤ 24000 := by omega
        clear hH hXe
        by_cases hbig : 20000 < X.size
        · have hbi : (20000 : Int) < X.size := by omega
          go_wp2_with (go_at_call 14; refine (HV.out _ hr2.out).mono ?_; rintro e w3 ⟨rfl, hb3⟩)
          go_ret
          exact ⟨rfl, hw2.out.trans (hb3.mono hw2.out.size)⟩
        · have hbi : ¬ (20000 : Int) < X.size := by omega
          obtain ⟨tc, hc1, hc2⟩ := part_plain HLP.out [] .nil (by rw [← HXE.out, ← Lib.size_eq]; omega) (by have := HNu.out; omega)
          rw [← HXE.out] at hc1
          rw [← HUS.out] at hc2
          have hLc : ∀ w, Rdy w → Calls Tryd.prog 11 #[.string X] w fun e w' => LexEnd w (tc, 0, 0) e w' := fun w hr => by
            have := lex_any X w hr
            rw [hc1] at this; exact this
          have HLc := Lib.hid hLc
          have HC2 := Lib.hid hc2
          have hct : ts.length ≤ 4000 := by rw [← HN.out]; exact hN4
          have HCT := Lib.hid hct
          clear hLc hc1 hc2 hct
          go_wp2_with fail
          refine (HLc.out _ hr2.out).mono ?_
          rintro e w3 ⟨v3, rfl, hT3, hb3⟩
          have hw3 := Lib.hid (hw2.out.trans (hb3.mono hw2.out.size))
          have hr3 := Lib.hid (hr2.out.below hb3)
          have hTA := HT2.out.below hb3
          rw [← HN.out] at hTA
          have HK := Lib.hid (alike_any ts tc _ v3 _ _ w3 hTA (TokRow.toks hT3) HC2.out.symm HCT.out)
          clear hT3 hTA hb3
          go_wp2_with (first | (go_at_call 15; refine HK.out.mono ?_; rintro e w4 ⟨rfl, hb4⟩) | (go_at_call 14; refine (HV.out _ (hr3.out.below hb4)).mono ?_; rintro e w5 ⟨rfl, hb5⟩))
          go_ret
          exact ⟨rfl, (hw3.out.trans (hb4.mono hw3.out.size)).trans (hb5.mono (Nat.le_trans hw3.out.size hb4.size))⟩

theorem parted_any (s : ByteArray) (w : World) (hr : Rdy w) : Calls Tryd.prog 5 #[.string s] w fun e w' => e = .returned (.bool true) ∧ Below w.heap.size w w' := by
  obtain ⟨⟨ts, p, er⟩, hR⟩ : ∃ R, R = lexAll s.data.toList := ⟨_, rfl⟩
  have hL := lex_any s w hr
  have hA := lexAll_answer s.data.toList
  have hlen := lexAll_len s.data.toList
  rw [← hR] at hL hA hlen
  rw [← Lib.size_eq] at hA
  by_cases he : er = 0
  · subst he
    obtain ⟨us, hu, h0, hlp, hs, _⟩ := lexAll_lp (l := s.data.toList) (by rw [← hR])
    rw [← hR] at hu h0
    simp only at hu h0
    subst h0
    rw [← Lib.size_eq] at hs
    rcases hA with ⟨_, _, h3⟩ | ⟨h1, _⟩
    · exact parted_ok s w hr ts us hs hL hu h3 hlen hlp
    · exact absurd rfl h1
  · exact parted_err s w hr ts p er hL he
end Go.Proofs.YtmpahpnacpfhoaaDoor
