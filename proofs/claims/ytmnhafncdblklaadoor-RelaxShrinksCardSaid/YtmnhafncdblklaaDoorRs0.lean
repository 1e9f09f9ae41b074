/- The law RelaxShrinks, where the program's assembler and Decode do what the plain ones do. -/
import Derived.Test.YtmnhafncdblklaaDoorRx2
import Derived.Test.YtmnhafncdblklaaDoorGP
import Derived.Test.YtmnhafncdblklaaDoorLr
import Derived.Test.YtmnhafncdblklaaDoorPk
import Derived.Deep.DeepAppendWide
namespace Go.Proofs.YtmnhafncdblklaaDoor.Relax
open Go.RowKit Go.Proofs.YtmnhafncdblklaaDoor.Enc Go.Proofs.YtmnhafncdblklaaDoor.Graph

theorem info_line : (Tryd.prog.info? 45).map (fun i => (i.zero, i.size, i.bytes)) = some (some (.agg #[.int .i64 0, .int .i64 0, .int .i64 0, .int .i64 0, .int .u32 0, .int .i64 0, .slice none 0 0]), 7, 72) := by kernel_rfl
set_option maxHeartbeats 16000000 in
set_option maxRecDepth 100000 in
theorem shrinks_no (D : DoesAsm) (l : List PL) (v : Value) (which : Int) (w : World) (h : LinesR w v l) (hs : SmL l) (hF : FormsAt w) (hno : (asmP l).2.2 ≠ 0 ∨ l.length = 0) :
    Calls Tryd.prog 9 #[v, .int .i64 which] w (Is (.bool true) w) := by
  obtain ⟨a, line, er, ha⟩ : ∃ a line er, asmP l = (a, line, er) := ⟨_, _, _, rfl⟩
  rw [ha] at hno
  have HA := Lib.hid (D.at_ ha v w h hs hF)
  have HL := Lib.hid (live_any D)
  obtain ⟨p, c, rfl⟩ := h.form
  by_cases he : er = 0
  case neg =>
    have hno := asm_no ha he
    subst hno
    have g0 : (er == 0) = false := by simpa using he
    have g1 : (er != 0) = true := by simpa using he
    unfold noAsm at HA
    simp only at HA
    obtain ⟨n, hn⟩ : ∃ n, n = l.length := ⟨_, rfl⟩
    rw [← hn] at HA ⊢
    clear ha hs h D hn he hno
    go_enter Tryd.func9, Tryd.ntmps9
    go_wp2_with (first
      | (go_at_call 11; refine HA.out.mono ?_; rintro e w2 ⟨pw, cw, pk, ck, pp, cp, rfl, hr, hb⟩; have H2 := Lib.hid hb; have HR := Lib.hid hr; have kf2 := hF.below hb; clear hr hb)
      | (go_at_call 13; refine (HL.out _ (by repeat (first | assumption | apply FormsAt.alloc | apply FormsAt.drew | apply FormsAt.drewN))).mono ?_; rintro e w9 ⟨rfl, hb9⟩; have H9 := Lib.hid hb9; have d2 := hb9.cell (p := ⟨w2.heap.size, 2, none⟩) (by simp); clear hb9))
    go_ret
    exact ⟨rfl, bt H2.out (bt (below_one w2 _) H9.out)⟩
  subst he
  have hl0 : l.length = 0 := by rcases hno with h | h; exact absurd rfl h; exact h
  obtain ⟨_, _, hl3⟩ := asm_len ha
  rw [hl3, hl0] at HA
  rw [hl0]
  clear ha hs h D hno hl3 hl0
  go_enter Tryd.func9, Tryd.ntmps9
  go_wp2_with (first
    | (go_at_call 11; refine HA.out.mono ?_; rintro e w2 ⟨pw, cw, pk, ck, pp, cp, rfl, hr, hb⟩; have H2 := Lib.hid hb; have HR := Lib.hid hr; have kf2 := hF.below hb; clear hr hb)
    | (go_at_call 13; refine (HL.out _ (by repeat (first | assumption | apply FormsAt.alloc | apply FormsAt.drew | apply FormsAt.drewN))).mono ?_; rintro e w9 ⟨rfl, hb9⟩; have H9 := Lib.hid hb9; have d2 := hb9.cell (p := ⟨w2.heap.size, 2, none⟩) (by simp); clear hb9))
  go_ret
  exact ⟨rfl, bt H2.out (bt (below_one w2 _) H9.out)⟩
/-- What the walk of a list that is taken wants to know. -/
def plainL (x : PL) : Bool := x.op != 0 && !goesB x && x.op != 42 && x.op != 2
set_option maxHeartbeats 16000000 in
set_option maxRecDepth 100000 in
theorem shrinks_idle (D : DoesAsm) (l : List PL) (v : Value) (which : Int) (w : World) (h : LinesR w v l) (hs : SmL l) (hF : FormsAt w) (a : Asm) (line : Int) (ha : asmP l = (a, line, 0)) (hn0 : 0 < l.length)
    (hw1 : -9223372036854775808 ≤ which) (hw2 : which ≤ 9223372036854775807) (hno : plainL (lineAt l (pickN which l.length)) = false) :
    Calls Tryd.prog 9 #[v, .int .i64 which] w (Is (.bool true) w) := by
  have HA := Lib.hid (D.at_ ha v w h hs hF)
  have HL := Lib.hid (live_any D)
  have hn6 := taken_len (asm_ref ha)
  have hr := pickN_lt which hn0
  have HP := Lib.hid (pick_any which l.length hw1 hw2 hn0 (by omega))
  obtain ⟨_, _, hl3⟩ := asm_len ha
  rw [hl3] at HA
  rcases h with ⟨hz, ap, ac, rfl⟩ | ⟨g, o, cap, rfl, hn, hcap, hgl, hc⟩
  · omega
  obtain ⟨r, hR⟩ : ∃ r, r = pickN which l.length := ⟨_, rfl⟩
  unfold PickPost at HP
  rw [← hR] at hr HP hno
  obtain ⟨x, hx⟩ := getN (n := l.length) rfl hr
  obtain ⟨vl, hL⟩ := hc r hr x hx
  rw [lineAt_of hx] at hno
  obtain ⟨q0, q1, q2, q3, q4, q5, q6, q7⟩ := hL
  obtain ⟨lp, lc, rfl⟩ := q7.form
  have HG := Lib.hid (fun w => goes_any x lp x.list.length lc w)
  obtain ⟨n, hN⟩ : ∃ n, n = l.length := ⟨_, rfl⟩
  obtain ⟨nw, hnw⟩ : ∃ n, n = a.words.length := ⟨_, rfl⟩
  obtain ⟨nk, hnk⟩ : ∃ n, n = a.kinds.length := ⟨_, rfl⟩
  obtain ⟨rd, hrd⟩ : ∃ n, n = a.rounds := ⟨_, rfl⟩
  rw [← hN] at hn hcap hr HP hn6
  rw [← hN, ← hnw, ← hnk, ← hrd] at HA
  rw [← hN]
  have hpl : x.op = 0 ∨ (x.op ≠ 0 ∧ (goesB x = true ∨ (goesB x = false ∧ (x.op = 42 ∨ x.op = 2)))) := by
    unfold plainL at hno
    by_cases h0 : x.op = 0
    · exact .inl h0
    · cases hg : goesB x with
      | true => exact .inr ⟨h0, .inl rfl⟩
      | false =>
        rw [hg] at hno
        simp [h0] at hno
        exact .inr ⟨h0, .inr ⟨rfl, by omega⟩⟩
  obtain ⟨xop, xa, xb, ximm, xn, xlabel, xlist⟩ := x
  obtain ⟨nl, hnl⟩ : ∃ n, n = xlist.length := ⟨_, rfl⟩
  unfold lineV at HG
  simp only at q0 q1 q2 q3 q4 q5 q6 hpl
  rw [← hnl] at q6 HG
  obtain ⟨m1, m2⟩ := hcap
  have j1 : (n : Int) ≤ 60000 := by omega
  have j2 : (r : Int) < n := by omega
  have j3 : (0 : Int) ≤ r := by omega
  have j4 : (n : Int) ≤ cap := by omega
  have j5 : (n : Int) ≠ 0 := by omega
  have g9 : ((n : Int) == 0) = false := by simp; omega
  clear hc hx hN hnw hnk hrd q7 hnl D ha hs hno hl3 hR
  rcases hpl with h0 | ⟨h0, hg | ⟨hg, h42 | h2⟩⟩
  · subst h0
    clear HG
    go_enter Tryd.func9, Tryd.ntmps9
    go_wp2_with (first
      | (go_at_call 11; refine HA.out.mono ?_; rintro e w2 ⟨pw, cw, pk, ck, pp, cp, rfl, hr, hb⟩; have H2 := Lib.hid hb; have HR := Lib.hid hr; have kf2 := hF.below hb; have hg2 : g < w2.heap.size := Nat.lt_of_lt_of_le hgl hb.size; have hg3 : w2.heap.size ≠ g := (by omega); have hg4 : g ≠ w2.heap.size := (by omega); have q0_ := (hb.cell (p := ⟨g, o + r * 7, none⟩) hgl).trans q0; have q1_ := (hb.cell (p := ⟨g, o + r * 7 + 1, none⟩) hgl).trans q1; have q2_ := (hb.cell (p := ⟨g, o + r * 7 + 2, none⟩) hgl).trans q2; have q3_ := (hb.cell (p := ⟨g, o + r * 7 + 3, none⟩) hgl).trans q3; have q4_ := (hb.cell (p := ⟨g, o + r * 7 + 4, none⟩) hgl).trans q4; have q5_ := (hb.cell (p := ⟨g, o + r * 7 + 5, none⟩) hgl).trans q5; have q6_ := (hb.cell (p := ⟨g, o + r * 7 + 6, none⟩) hgl).trans q6; clear hr hb)
      | (go_at_call 23; refine (HP.out _).mono ?_; rintro e w4 ⟨rfl, rfl⟩)
      | (go_at_call 24; refine (HG.out _).mono ?_; rintro e w7 ⟨rfl, hb7⟩; have H7 := Lib.hid hb7; have kf7 := FormsAt.below (FormsAt.alloc (FormsAt.alloc kf2 _) _) hb7; have e0 := hb7.cell (p := ⟨w2.heap.size + 1, 0, none⟩) (by first | (simp; done) | (simp; omega)); clear hb7)
      | (go_at_call 13; refine (HL.out _ (by repeat (first | assumption | apply FormsAt.alloc | apply FormsAt.drew | apply FormsAt.drewN))).mono ?_; rintro e w9 ⟨rfl, hb9⟩; have H9 := Lib.hid hb9; clear hb9))
    go_ret
    exact ⟨rfl, bt H2.out (bt ((below_one w2 _).alloc (by simp) _) H9.out)⟩
  · have g0 : (xop == 0) = false := by simpa using h0
    have g1 : (xop != 0) = true := by simpa using h0
    rw [hg] at HG
    clear h0 hg
    go_enter Tryd.func9, Tryd.ntmps9
    go_wp2_with (first
      | (go_at_call 11; refine HA.out.mono ?_; rintro e w2 ⟨pw, cw, pk, ck, pp, cp, rfl, hr, hb⟩; have H2 := Lib.hid hb; have HR := Lib.hid hr; have kf2 := hF.below hb; have hg2 : g < w2.heap.size := Nat.lt_of_lt_of_le hgl hb.size; have hg3 : w2.heap.size ≠ g := (by omega); have hg4 : g ≠ w2.heap.size := (by omega); have q0_ := (hb.cell (p := ⟨g, o + r * 7, none⟩) hgl).trans q0; have q1_ := (hb.cell (p := ⟨g, o + r * 7 + 1, none⟩) hgl).trans q1; have q2_ := (hb.cell (p := ⟨g, o + r * 7 + 2, none⟩) hgl).trans q2; have q3_ := (hb.cell (p := ⟨g, o + r * 7 + 3, none⟩) hgl).trans q3; have q4_ := (hb.cell (p := ⟨g, o + r * 7 + 4, none⟩) hgl).trans q4; have q5_ := (hb.cell (p := ⟨g, o + r * 7 + 5, none⟩) hgl).trans q5; have q6_ := (hb.cell (p := ⟨g, o + r * 7 + 6, none⟩) hgl).trans q6; clear hr hb)
      | (go_at_call 23; refine (HP.out _).mono ?_; rintro e w4 ⟨rfl, rfl⟩)
      | (go_at_call 24; refine (HG.out _).mono ?_; rintro e w7 ⟨rfl, hb7⟩; have H7 := Lib.hid hb7; have kf7 := FormsAt.below (FormsAt.alloc (FormsAt.alloc kf2 _) _) hb7; have e0 := hb7.cell (p := ⟨w2.heap.size + 1, 0, none⟩) (by first | (simp; done) | (simp; omega)); clear hb7)
      | (go_at_call 13; refine (HL.out _ (by repeat (first | assumption | apply FormsAt.alloc | apply FormsAt.drew | apply FormsAt.drewN))).mono ?_; rintro e w9 ⟨rfl, hb9⟩; have H9 := Lib.hid hb9; clear hb9))
    go_ret
    exact ⟨rfl, bt H2.out (bt ((below_one w2 _).alloc (by simp) _) (bt H7.out H9.out))⟩
  · have g0 : (xop == 0) = false := by simpa using h0
    have g1 : (xop != 0) = true := by simpa using h0
    rw [hg] at HG
    subst h42
    clear h0 hg
    go_enter Tryd.func9, Tryd.ntmps9
    go_wp2_with (first
      | (go_at_call 11; refine HA.out.mono ?_; rintro e w2 ⟨pw, cw, pk, ck, pp, cp, rfl, hr, hb⟩; have H2 := Lib.hid hb; have HR := Lib.hid hr; have kf2 := hF.below hb; have hg2 : g < w2.heap.size := Nat.lt_of_lt_of_le hgl hb.size; have hg3 : w2.heap.size ≠ g := (by omega); have hg4 : g ≠ w2.heap.size := (by omega); have q0_ := (hb.cell (p := ⟨g, o + r * 7, none⟩) hgl).trans q0; have q1_ := (hb.cell (p := ⟨g, o + r * 7 + 1, none⟩) hgl).trans q1; have q2_ := (hb.cell (p := ⟨g, o + r * 7 + 2, none⟩) hgl).trans q2; have q3_ := (hb.cell (p := ⟨g, o + r * 7 + 3, none⟩) hgl).trans q3; have q4_ := (hb.cell (p := ⟨g, o + r * 7 + 4, none⟩) hgl).trans q4; have q5_ := (hb.cell (p := ⟨g, o + r * 7 + 5, none⟩) hgl).trans q5; have q6_ := (hb.cell (p := ⟨g, o + r * 7 + 6, none⟩) hgl).trans q6; clear hr hb)
      | (go_at_call 23; refine (HP.out _).mono ?_; rintro e w4 ⟨rfl, rfl⟩)
      | (go_at_call 24; refine (HG.out _).mono ?_; rintro e w7 ⟨rfl, hb7⟩; have H7 := Lib.hid hb7; have kf7 := FormsAt.below (FormsAt.alloc (FormsAt.alloc kf2 _) _) hb7; have e0 := hb7.cell (p := ⟨w2.heap.size + 1, 0, none⟩) (by first | (simp; done) | (simp; omega)); clear hb7)
      | (go_at_call 13; refine (HL.out _ (by repeat (first | assumption | apply FormsAt.alloc | apply FormsAt.drew | apply FormsAt.drewN))).mono ?_; rintro e w9 ⟨rfl, hb9⟩; have H9 := Lib.hid hb9; clear hb9))
    go_ret
    exact ⟨rfl, bt H2.out (bt ((below_one w2 _).alloc (by simp) _) (bt H7.out H9.out))⟩
  · have g0 : (xop == 0) = false := by simpa using h0
    have g1 : (xop != 0) = true := by simpa using h0
    rw [hg] at HG
    subst h2
    clear h0 hg
    go_enter Tryd.func9, Tryd.ntmps9
    go_wp2_with (first
      | (go_at_call 11; refine HA.out.mono ?_; rintro e w2 ⟨pw, cw, pk, ck, pp, cp, rfl, hr, hb⟩; have H2 := Lib.hid hb; have HR := Lib.hid hr; have kf2 := hF.below hb; have hg2 : g < w2.heap.size := Nat.lt_of_lt_of_le hgl hb.size; have hg3 : w2.heap.size ≠ g := (by omega); have hg4 : g ≠ w2.heap.size := (by omega); have q0_ := (hb.cell (p := ⟨g, o + r * 7, none⟩) hgl).trans q0; have q1_ := (hb.cell (p := ⟨g, o + r * 7 + 1, none⟩) hgl).trans q1; have q2_ := (hb.cell (p := ⟨g, o + r * 7 + 2, none⟩) hgl).trans q2; have q3_ := (hb.cell (p := ⟨g, o + r * 7 + 3, none⟩) hgl).trans q3; have q4_ := (hb.cell (p := ⟨g, o + r * 7 + 4, none⟩) hgl).trans q4; have q5_ := (hb.cell (p := ⟨g, o + r * 7 + 5, none⟩) hgl).trans q5; have q6_ := (hb.cell (p := ⟨g, o + r * 7 + 6, none⟩) hgl).trans q6; clear hr hb)
      | (go_at_call 23; refine (HP.out _).mono ?_; rintro e w4 ⟨rfl, rfl⟩)
      | (go_at_call 24; refine (HG.out _).mono ?_; rintro e w7 ⟨rfl, hb7⟩; have H7 := Lib.hid hb7; have kf7 := FormsAt.below (FormsAt.alloc (FormsAt.alloc kf2 _) _) hb7; have e0 := hb7.cell (p := ⟨w2.heap.size + 1, 0, none⟩) (by first | (simp; done) | (simp; omega)); clear hb7)
      | (go_at_call 13; refine (HL.out _ (by repeat (first | assumption | apply FormsAt.alloc | apply FormsAt.drew | apply FormsAt.drewN))).mono ?_; rintro e w9 ⟨rfl, hb9⟩; have H9 := Lib.hid hb9; clear hb9))
    go_ret
    exact ⟨rfl, bt H2.out (bt ((below_one w2 _).alloc (by simp) _) (bt H7.out H9.out))⟩
end Go.Proofs.YtmnhafncdblklaaDoor.Relax
