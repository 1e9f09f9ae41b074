/- The law LexTells: walked, for every source. -/
import Derived.Test.YtmpahpnacpfhoaaDoorT15
import Derived.Test.YtmpahpnacpfhoaaDoorT16
import Derived.Test.YtmpahpnacpfhoaaDoorPlP
namespace Go.Proofs.YtmpahpnacpfhoaaDoor
open Go.RowKit

/-- What a write into the first answer's row leaves: all below the call, the row that was wanted, the row's own cells. -/
def TInv (w w3 : World) (B1 g n : Nat) (v2 : Value) (ts : List PTok) (wr : World) : Prop :=
  Below w.heap.size w wr ∧ wr.heap.size = w3.heap.size ∧ TokRow wr B1 v2 ts ∧ (∀ (k : Nat), k < n → ∀ j, j < 5 → ∃ v, wr.cell? ⟨g, k * 5 + j, none⟩ = some v) ∧ ∀ j, wr.frozen? ⟨g, j, none⟩ = false
theorem TInv.set {w w3 : World} {B1 g n : Nat} {v2 : Value} {ts : List PTok} {wr : World} (h : TInv w w3 B1 g n v2 ts wr) (hg : w.heap.size ≤ g) (hgb : v2.ownBlock ≠ some g) (o : Nat) (u : Value) :
    TInv w w3 B1 g n v2 ts (wr.setCell ⟨g, o, none⟩ u) := by
  obtain ⟨h1, h2, h3, h4, h5⟩ := h
  refine ⟨h1.setCell hg u, by rw [World.size_setCell]; exact h2, ownsRow_setCell_other h3 hgb u, fun k hk j hj => ?_, fun j => ?_⟩
  · obtain ⟨v, hv⟩ := h4 k hk j hj
    exact cell?_setCell_some hv
  · exact (World.frozen?_setCells g [u] o wr ⟨g, j, none⟩).trans (h5 j)

set_option maxHeartbeats 4000000 in
set_option maxRecDepth 100000 in
theorem tells_any (s : ByteArray) (w : World) (hr : Rdy w) : Calls Tryd.prog 3 #[.string s] w fun e w' => e = .returned (.bool true) ∧ Below w.heap.size w w' := by
  have hL := fun w hr => lex_any s w hr
  have hRf := fun w => rLex_any s w
  have hn := lexAll_len s.data.toList
  obtain ⟨R, hR⟩ : ∃ R, R = lexAll s.data.toList := ⟨_, rfl⟩
  rw [← hR] at hL hRf hn
  obtain ⟨ts, p, er⟩ := R
  have HL := Lib.hid hL
  have HF := Lib.hid hRf
  have HR := Lib.hid hr
  have hlv : ∀ w, Rdy w → Calls Tryd.prog 14 #[] w fun e w' => e = .returned (.bool true) ∧ Below w.heap.size w w' := live_any
  have HV := Lib.hid hlv
  clear hL hRf hr hR hlv
  simp only at hn
  go_enter Tryd.func3, Tryd.ntmps3
  go_wp2_with fail
  refine (HL.out _ HR.out).mono ?_
  rintro e w1 ⟨v1, rfl, hT1, hb1⟩
  simp only at hT1
  have hr1 := Lib.hid (HR.out.below hb1)
  have HT1 := Lib.hid hT1
  clear hT1
  go_wp2_with fail
  refine (HF.out _).mono ?_
  rintro e w2 ⟨v2, rfl, hT2, hb2⟩
  simp only at hT2
  have HT2 := Lib.hid hT2
  clear hT2
  go_wp2_with fail
  refine (same_any ts ts v1 v2 _ _ w2 (HT1.out.toks.below hb2) HT2.out.toks rfl hn).mono ?_
  rintro e w3 ⟨rfl, hb3⟩
  rcases HT1.out.toks with ⟨h, ao, cv, rfl⟩ | ⟨g, cap, rfl, hg, hcap, hgl, hne, hc⟩
  · subst h
    have hb13 : Below w1.heap.size w1 w3 := hb2.trans (hb3.mono hb2.size)
    have hb03 : Below w.heap.size w w3 := hb1.trans (hb13.mono hb1.size)
    have h23 : TokRow w3 w1.heap.size v2 [] := own_below HT2.out hb3
    have H23 := Lib.hid h23
    clear h23
    go_wp2
    go_loopw [9] (fun i wr => i = .int .i64 0 ∧ wr = w3) (fun i _ => 0)
    case atStart => exact ⟨rfl, rfl⟩
    case round =>
      obtain ⟨rfl, rfl⟩ := hrel
      have hr4 := Lib.hid (HR.out.below hb03)
      go_wp2_with fail
      refine (HL.out _ hr4.out).mono ?_
      rintro e w5 ⟨v5, rfl, hT5, hb5⟩
      simp only at hT5
      have hr5 := Lib.hid (hr4.out.below hb5)
      have HT5 := Lib.hid hT5
      clear hT5
      go_wp2_with fail
      refine (same_any [] [] v5 v2 _ _ w5 HT5.out.toks (TokRow.toks (B := w1.heap.size) (ts := []) (own_below H23.out hb5)) rfl (by simp)).mono ?_
      rintro e w6 ⟨rfl, hb6⟩
      have hr6 := Lib.hid (hr5.out.below hb6)
      go_wp2_with (go_at_call 14; refine (HV.out _ hr6.out).mono ?_; rintro e w7 ⟨rfl, hb7⟩)
      go_ret
      exact ⟨rfl, ((hb03.trans (hb5.mono hb03.size)).trans (hb6.mono (by have := hb03.size; have := hb5.size; omega))).trans (hb7.mono (by have := hb03.size; have := hb5.size; have := hb6.size; omega))⟩
  · have hgb : v2.ownBlock ≠ some g := fun h => by have := (HT2.out.lt g h).1; omega
    have hc0 : ∀ (k : Nat), k < ts.length → ∀ j, j < 5 → ∃ v, w1.cell? ⟨g, k * 5 + j, none⟩ = some v := by
      intro k hk j hj
      have h := hc k _ (List.getElem?_eq_getElem hk)
      match j, hj with
      | 0, _ => exact ⟨_, h.1⟩
      | 1, _ => exact ⟨_, h.2.1⟩
      | 2, _ => exact ⟨_, h.2.2.1⟩
      | 3, _ => exact ⟨_, h.2.2.2.1⟩
      | 4, _ => exact ⟨_, h.2.2.2.2⟩
    have hb13 : Below w1.heap.size w1 w3 := hb2.trans (hb3.mono hb2.size)
    have hc3 : ∀ (k : Nat), k < ts.length → ∀ j, j < 5 → ∃ v, w3.cell? ⟨g, k * 5 + j, none⟩ = some v := fun k hk j hj => by
      obtain ⟨v, hv⟩ := hc0 k hk j hj
      exact ⟨v, (hb13.cell (p := ⟨g, k * 5 + j, none⟩) hgl).trans hv⟩
    have hz3 : ∀ j, w3.frozen? ⟨g, j, none⟩ = false := fun j => (hb13.frozen (p := ⟨g, j, none⟩) hgl).trans (World.ownsRow.frozenAt HT1.out j)
    have HC := Lib.hid hc3
    have HZ := Lib.hid hz3
    have h23 : TokRow w3 w1.heap.size v2 ts := own_below HT2.out hb3
    have H23 := Lib.hid h23
    obtain ⟨n, hN⟩ : ∃ n, n = ts.length := ⟨_, rfl⟩
    rw [← hN] at hn hcap HC
    clear hc hc0 hc3 h23 hz3
    rw [← hN]
    have HN := Lib.hid hN
    have hgl3 : g < w3.heap.size := Nat.lt_of_lt_of_le hgl hb13.size
    have hb03 : Below w.heap.size w w3 := hb1.trans (hb13.mono hb1.size)
    clear hN
    go_wp2
    go_loopw [9] (fun i wr => ∃ k : Nat, k ≤ n ∧ i = .int .i64 k ∧ Below w.heap.size w wr ∧ wr.heap.size = w3.heap.size ∧ Hid (TokRow wr w1.heap.size v2 ts) ∧ Hid (∀ (k : Nat), k < n → ∀ j, j < 5 → ∃ v, wr.cell? ⟨g, k * 5 + j, none⟩ = some v) ∧ Hid (∀ j, wr.frozen? ⟨g, j, none⟩ = false)) (fun i _ => n - (intOf i).toNat)
    case atStart => exact ⟨0, Nat.zero_le _, rfl, hb03, rfl, H23, HC, HZ⟩
    case round =>
      obtain ⟨k, hk, rfl, hbw, hsz, hT, hcc, hzz⟩ := hrel
      by_cases hlt : k < n
      · obtain ⟨x0, c0⟩ := hcc.out k hlt 0 (by omega)
        obtain ⟨x1, c1⟩ := hcc.out k hlt 1 (by omega)
        obtain ⟨x2, c2⟩ := hcc.out k hlt 2 (by omega)
        obtain ⟨x3, c3⟩ := hcc.out k hlt 3 (by omega)
        obtain ⟨x4, c4⟩ := hcc.out k hlt 4 (by omega)
        simp only [Nat.add_zero] at c0
        have z0 := hzz.out (k * 5)
        have z1 := hzz.out (k * 5 + 1)
        have z2 := hzz.out (k * 5 + 2)
        have z3 := hzz.out (k * 5 + 3)
        have z4 := hzz.out (k * 5 + 4)
        have i0 : (0 : Int) ≤ k := by omega
        have i1 : (k : Int) < n := by omega
        go_wp2
        go_roundw
        case rel =>
          obtain ⟨q1, q2, q3, q4, q5⟩ := (((((show TInv w w3 w1.heap.size g n v2 ts wr from ⟨hbw, hsz, hT.out, hcc.out, hzz.out⟩).set hg hgb (k * 5) (.int .i64 9)).set hg hgb (k * 5 + 1) (.int .i64 0)).set hg hgb (k * 5 + 2) (.string ⟨#[]⟩)).set hg hgb (k * 5 + 3) (.int .u32 0)).set hg hgb (k * 5 + 4) (.bool false)
          exact ⟨k + 1, by omega, by go_num, q1, q2, Lib.hid q3, Lib.hid q4, Lib.hid q5⟩
        case measure => simp [intOf]; omega
      · have hkk : k = n := by omega
        subst hkk
        have hr4 := Lib.hid (HR.out.below hbw)
        clear HC H23
        go_wp2_with fail
        refine (HL.out _ hr4.out).mono ?_
        rintro e w5 ⟨v5, rfl, hT5, hb5⟩
        simp only at hT5
        have hr5 := Lib.hid (hr4.out.below hb5)
        have HT5 := Lib.hid hT5
        clear hT5
        go_wp2_with fail
        refine (same_any ts ts v5 v2 _ _ w5 HT5.out.toks (TokRow.toks (B := w1.heap.size) (ts := ts) (own_below hT.out hb5)) rfl (by rw [← HN.out]; exact hn)).mono ?_
        rintro e w6 ⟨rfl, hb6⟩
        have hr6 := Lib.hid (hr5.out.below hb6)
        go_wp2_with (go_at_call 14; refine (HV.out _ hr6.out).mono ?_; rintro e w7 ⟨rfl, hb7⟩)
        go_ret
        exact ⟨rfl, ((hbw.trans (hb5.mono hbw.size)).trans (hb6.mono (by have := hbw.size; have := hb5.size; omega))).trans (hb7.mono (by have := hbw.size; have := hb5.size; have := hb6.size; omega))⟩
end Go.Proofs.YtmpahpnacpfhoaaDoor
