/- The law LexGlued: walked, for every two texts. -/
import Derived.Test.YtmpahpnacpfhoaaDoorN
namespace Go.Proofs.YtmpahpnacpfhoaaDoor
open Go.RowKit

theorem glue_plain {a b : Bs} {us vs : List PTok} (ha : Lp a 0 us) (hb : Lp b 0 vs) (hl : a.length + b.length + 1 ≤ 20000) (hn : us.length + vs.length ≤ 3999) :
    ∃ ts, lexAll (a ++ [10] ++ b) = (ts, 0, 0) ∧ ts.map (·.1) = (us ++ (vs ++ [(endTok, b.length)])).map (·.1) := by
  have h := lx_glue (lp_lx ha) (lp_lx hb)
  simp only [List.drop_zero] at h
  obtain ⟨ts, h1, h2⟩ := lx_lexAll h (by simp; omega) (by simp; omega)
  refine ⟨ts, ?_, ?_⟩
  · have e : a ++ [10] ++ b = a ++ 10 :: b := by simp
    rw [e]; exact h1
  · rw [h2]; simp

/-- The cells of tokens that lie in a row. -/
theorem row_cells {w : World} {B : Nat} {g cap : Nat} {us vs : List PTok} (h : w.ownsRow B 29 5 (.slice (some ⟨g, 0, none⟩) (us ++ vs).length cap) (us ++ vs).length (rowOf (us ++ vs))) :
    ∀ j u, (rowOf us)[j]? = some u → w.cell? ((⟨g, 0, none⟩ : Addr).add j) = some u := by
  intro j u hj
  have hc := World.ownsRow.cells h (g := g) rfl
  refine hc j u ?_
  have e : rowOf (us ++ vs) = rowOf us ++ rowOf vs := by simp [rowOf]
  rw [e, List.getElem?_append_left (List.getElem?_eq_some_iff.1 hj).1]
  exact hj
theorem row_one (ts : List PTok) : ∀ u ∈ rowOf ts, u.oneCell' = true := by
  intro u hu
  unfold rowOf at hu
  obtain ⟨t, _, h⟩ := List.mem_flatMap.1 hu
  exact tok_one t u h

theorem tok_form2 {w : World} {B : Nat} {v : Value} {n : Nat} {xs : List Value} (h : w.ownsRow B 29 5 v n xs) (hn : 0 < n) :
    ∃ g cap, v = .slice (some ⟨g, 0, none⟩) n cap ∧ n ≤ cap ∧ cap ≤ 9223372036854775807 := by
  rcases h.2 with ⟨_, h2⟩ | ⟨g, cap, cur, h1, _, _, h3, h4, _⟩
  · omega
  · exact ⟨g, cap, h1, h3, h4⟩

set_option maxHeartbeats 2000000 in
set_option maxRecDepth 100000 in
theorem glued_err1 (a b : ByteArray) (w : World) (hr : Rdy w) (ta tb : List PTok) (pa ea pb eb : Nat) (hLa : Calls Tryd.prog 11 #[.string a] w fun e w' => LexEnd w (ta, pa, ea) e w')
    (hLb : ∀ w, Rdy w → Calls Tryd.prog 11 #[.string b] w fun e w' => LexEnd w (tb, pb, eb) e w') (hea : ea ≠ 0) :
    Calls Tryd.prog 7 #[.string a, .string b] w fun e w' => e = .returned (.bool true) ∧ Below w.heap.size w w' := by
  have HR := Lib.hid hr
  have HV := Lib.hid live_any
  have HLa := Lib.hid hLa
  have HLb := Lib.hid hLb
  clear hr hLa hLb
  have e1 : ((ea : Int) != 0) = true := by rw [bne_iff_ne]; omega
  clear hea
  go_enter Tryd.func7, Tryd.ntmps7
  go_wp2_with fail
  refine HLa.out.mono ?_
  rintro e w1 ⟨v, rfl, hTa, hb1⟩
  have hr1 := HR.out.below hb1
  clear hTa
  go_wp2_with fail
  refine (HLb.out _ hr1).mono ?_
  rintro e w2 ⟨v2, rfl, hTb, hb2⟩
  have hr2 := Lib.hid (hr1.below hb2)
  have hw2 := Lib.hid (hb1.trans (hb2.mono hb1.size))
  clear hTb hr1
  go_wp2_with (go_at_call 14; refine (HV.out _ hr2.out).mono ?_; rintro e w3 ⟨rfl, hb3⟩)
  go_ret
  exact ⟨rfl, hw2.out.trans (hb3.mono hw2.out.size)⟩

set_option maxHeartbeats 2000000 in
set_option maxRecDepth 100000 in
theorem glued_err2 (a b : ByteArray) (w : World) (hr : Rdy w) (ta tb : List PTok) (pa pb eb : Nat) (hLa : Calls Tryd.prog 11 #[.string a] w fun e w' => LexEnd w (ta, pa, 0) e w')
    (hLb : ∀ w, Rdy w → Calls Tryd.prog 11 #[.string b] w fun e w' => LexEnd w (tb, pb, eb) e w') (heb : eb ≠ 0) :
    Calls Tryd.prog 7 #[.string a, .string b] w fun e w' => e = .returned (.bool true) ∧ Below w.heap.size w w' := by
  have HR := Lib.hid hr
  have HV := Lib.hid live_any
  have HLa := Lib.hid hLa
  have HLb := Lib.hid hLb
  clear hr hLa hLb
  have e1 : ((eb : Int) != 0) = true := by rw [bne_iff_ne]; omega
  clear heb
  go_enter Tryd.func7, Tryd.ntmps7
  go_wp2_with fail
  refine HLa.out.mono ?_
  rintro e w1 ⟨v, rfl, hTa, hb1⟩
  have hr1 := HR.out.below hb1
  clear hTa
  go_wp2_with fail
  refine (HLb.out _ hr1).mono ?_
  rintro e w2 ⟨v2, rfl, hTb, hb2⟩
  have hr2 := Lib.hid (hr1.below hb2)
  have hw2 := Lib.hid (hb1.trans (hb2.mono hb1.size))
  clear hTb hr1
  go_wp2_with (go_at_call 14; refine (HV.out _ hr2.out).mono ?_; rintro e w3 ⟨rfl, hb3⟩)
  go_ret
  exact ⟨rfl, hw2.out.trans (hb3.mono hw2.out.size)⟩

set_option maxHeartbeats 4000000 in
set_option maxRecDepth 100000 in
theorem glued_great (a b : ByteArray) (w : World) (hr : Rdy w) (ta tb : List PTok) (A B pa pb : Nat) (hLa : Calls Tryd.prog 11 #[.string a] w fun e w' => LexEnd w (ta, pa, 0) e w')
    (hLb : ∀ w, Rdy w → Calls Tryd.prog 11 #[.string b] w fun e w' => LexEnd w (tb, pb, 0) e w') (hA : A = ta.length) (hB : B = tb.length) (hA1 : 1 ≤ A) (hA2 : A ≤ 4000) (hB1 : 1 ≤ B) (hB2 : B ≤ 4000) (hsa : a.size ≤ 20000) (hsb : b.size ≤ 20000)
    (hg : 20000 < a.size + b.size + 1 ∨ 4000 < A + B - 1) :
    Calls Tryd.prog 7 #[.string a, .string b] w fun e w' => e = .returned (.bool true) ∧ Below w.heap.size w w' := by
  have HR := Lib.hid hr
  have HV := Lib.hid live_any
  have HLa := Lib.hid hLa
  have HLb := Lib.hid hLb
  have HA := Lib.hid hA
  have HB := Lib.hid hB
  have eA : ((A : Int) == 0) = false := by rw [beq_eq_false_iff_ne]; omega
  have eB : ((B : Int) == 0) = false := by rw [beq_eq_false_iff_ne]; omega
  have HG := Lib.hid hg
  clear hr hLa hLb hA hB hg
  go_enter Tryd.func7, Tryd.ntmps7
  go_wp2_with fail
  refine HLa.out.mono ?_
  rintro e w1 ⟨v, rfl, hTa, hb1⟩
  have hTa' : TokRow w1 w.heap.size v ta := hTa
  obtain ⟨ao, ca, hv⟩ := tok_form hTa'
  rw [← HA.out] at hv
  subst hv
  clear hTa hTa'
  have hr1 := HR.out.below hb1
  go_wp2_with fail
  refine (HLb.out _ hr1).mono ?_
  rintro e w2 ⟨v, rfl, hTb, hb2⟩
  have hTb' : TokRow w2 w1.heap.size v tb := hTb
  obtain ⟨bo, cb, hv⟩ := tok_form hTb'
  rw [← HB.out] at hv
  subst hv
  have hr2 := Lib.hid (hr1.below hb2)
  have hw2 := Lib.hid (hb1.trans (hb2.mono hb1.size))
  clear hTb hTb' hr1
  by_cases hbig : 20000 < a.size + b.size + 1
  · have f1 : (20000 : Int) < a.size + b.size + 1 := by omega
    go_wp2_with (go_at_call 14; refine (HV.out _ hr2.out).mono ?_; rintro e w3 ⟨rfl, hb3⟩)
    go_ret
    exact ⟨rfl, hw2.out.trans (hb3.mono hw2.out.size)⟩
  · have f1 : (a.size : Int) + b.size + 1 ≤ 20000 := by omega
    have f2 : (4000 : Int) < A + B - 1 := by have := HG.out; omega
    go_wp2_with (go_at_call 14; refine (HV.out _ hr2.out).mono ?_; rintro e w3 ⟨rfl, hb3⟩)
    go_ret
    exact ⟨rfl, hw2.out.trans (hb3.mono hw2.out.size)⟩
end Go.Proofs.YtmpahpnacpfhoaaDoor
