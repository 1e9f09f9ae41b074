/- The words of a line read back: the law's line, at a literal. No condition. -/
import Derived.Test.YtmnhafncdblklaaDoorQl
namespace Go.Proofs.YtmnhafncdblklaaDoor.Relax
open Go.RowKit Go.Proofs.YtmnhafncdblklaaDoor.Enc Go.Proofs.YtmnhafncdblklaaDoor.Graph

set_option maxHeartbeats 16000000 in
set_option maxRecDepth 100000 in
theorem line_lit (l : List PL) (a : Asm) (v vw vk vp : Value) (w : World) (h : LinesR w v l) (ha : AsmR w a vw vk vp) (i : Nat) (hi : i < l.length) (D : DoesDec) (hF : FormsAt w) (t : Nat) (y : Int) (hx1 : a.words[t]? = some y) (hk1 : a.kinds[t]? = some 1) (hr : 0 ≤ y ∧ y ≤ 4294967295)
    (hd : decP y = (⟨2, (lineAt l i).a, (lineAt l i).b, (lineAt l i).imm⟩, 0)) 
    (h2 : (lineAt l i).op = 2) (hx2 : a.words[t + 1]? = some (lineAt l i).n) (hk2 : a.kinds[t + 1]? = some 2) :
    Calls Tryd.prog 18 #[v, asmV a vw vk vp, .int .i64 i, .int .i64 t] w (LineIs 2 w) := by
  rcases h with ⟨hz, ap, ac, rfl⟩ | ⟨g, o, cap, rfl, hn, hcap, hgl, hc⟩
  · omega
  · obtain ⟨pw, cw, rfl⟩ := ha.words.form
    obtain ⟨pk, ck, rfl⟩ := ha.kinds.form
    obtain ⟨pp, cp, rfl⟩ := ha.places.form
    obtain ⟨x, hx⟩ := getN (n := l.length) rfl hi
    obtain ⟨vl, hL⟩ := hc i hi x hx
    rw [lineAt_of hx] at h2 hd hx2
    have hbr : isBr x = false := by unfold isBr branchOp; rw [h2]; decide
    have hg : goesB x = false := by unfold goesB; rw [hbr, h2]; rfl
    obtain ⟨q0, q1, q2, q3, q4, q5, q6, q7⟩ := hL
    obtain ⟨lp, lc, rfl⟩ := q7.form
    have HC := Lib.hid (fun (wx : World) (hb : Below w.heap.size w wx) => code_any D a _ _ _ wx (ha.below hb) (hF.below hb) t y _ hx1 hk1 hr hd)
    have HB := Lib.hid (fun w => hbr ▸ branch_any x lp x.list.length lc w)
    have HG := Lib.hid (fun w => hg ▸ goes_any x lp x.list.length lc w)
    have htw : t + 1 < a.words.length := (List.getElem?_eq_some_iff.1 hx2).1
    have htk : t + 1 < a.kinds.length := (List.getElem?_eq_some_iff.1 hk2).1
    obtain ⟨b1, o1, x', rfl, hx', hl1, f1, _, _⟩ := words_pt ha.words htw
    obtain rfl : x.n = x' := by rw [hx2] at hx'; simpa using hx'
    obtain ⟨b2, o2, y', rfl, hy', hl2, f2, _, _⟩ := ints_pt ha.kinds htk
    obtain rfl : (2 : Int) = y' := by rw [hk2] at hy'; simpa using hy'
    have s1 := sl_len ha.words
    have s2 := sl_len ha.kinds
    clear hx2 hk2 hx' hy'
    clear D hx1 hk1 hr hd hbr hg
    obtain ⟨n, hN⟩ : ∃ n, n = l.length := ⟨_, rfl⟩
    obtain ⟨nw, hnw⟩ : ∃ n, n = a.words.length := ⟨_, rfl⟩
    obtain ⟨nk, hnk⟩ : ∃ n, n = a.kinds.length := ⟨_, rfl⟩
    obtain ⟨np, hnp⟩ : ∃ n, n = a.places.length := ⟨_, rfl⟩
    obtain ⟨rd, hrd⟩ : ∃ r, r = a.rounds := ⟨_, rfl⟩
    unfold asmV
    rw [← hN] at hn hcap hi
    unfold asmV at HC
    rw [← hnw, ← hnk, ← hnp, ← hrd] at HC
    rw [← hnw] at htw s1
    rw [← hnk] at htk s2
    rw [← hN, ← hnw, ← hnk, ← hnp, ← hrd]
    obtain ⟨xop, xa, xb, ximm, xn, xlabel, xlist⟩ := x
    obtain ⟨nl, hnl⟩ : ∃ n, n = xlist.length := ⟨_, rfl⟩
    unfold lineV at HB HG
    simp only at q0 q1 q2 q3 q4 q5 q6 h2 f1
    rw [← hnl] at q6 HB HG
    have k3 : (t : Int) + 1 < nw := by omega
    have k4 : (t : Int) + 1 < nk := by omega
    have k5 : (0 : Int) ≤ t := by omega
    have k6 : (nw : Int) ≤ 9223372036854775807 := by omega
    have k7 : (nk : Int) ≤ 9223372036854775807 := by omega
    obtain ⟨m1, m2⟩ := hcap
    have j1 : (n : Int) ≤ 9223372036854775807 := by omega
    have j2 : (i : Int) < n := by omega
    have j3 : (0 : Int) ≤ i := by omega
    clear hc hx ha hN hnw hnk hnp hrd q7 hnl
    subst h2
    go_enter Tryd.func18, Tryd.ntmps18
    go_wp2_with (first
      | (go_at_call 22; refine (HC.out _ ((below_one w _).alloc (by simp) _)).mono ?_; rintro e w2 ⟨rfl, hb2⟩; have hz2 : w.heap.size + 1 < w2.heap.size := Nat.lt_of_lt_of_le (by simp) hb2.size; have hw2 : w.heap.size < w2.heap.size := (by omega); have c2_0 : w2.cell? ⟨w.heap.size + 1, 0, none⟩ = some (.int .i64 2) := (hb2.cell (p := ⟨w.heap.size + 1, 0, none⟩) (by first | (simp; done) | (simp; omega) | omega)).trans (by go_simp); have c2_1 : w2.cell? ⟨w.heap.size + 1, 1, none⟩ = some (.int .i64 xa) := (hb2.cell (p := ⟨w.heap.size + 1, 1, none⟩) (by first | (simp; done) | (simp; omega) | omega)).trans (by go_simp); have c2_2 : w2.cell? ⟨w.heap.size + 1, 2, none⟩ = some (.int .i64 xb) := (hb2.cell (p := ⟨w.heap.size + 1, 2, none⟩) (by first | (simp; done) | (simp; omega) | omega)).trans (by go_simp); have c2_3 : w2.cell? ⟨w.heap.size + 1, 3, none⟩ = some (.int .i64 ximm) := (hb2.cell (p := ⟨w.heap.size + 1, 3, none⟩) (by first | (simp; done) | (simp; omega) | omega)).trans (by go_simp); have c2_4 : w2.cell? ⟨w.heap.size + 1, 4, none⟩ = some (.int .u32 xn) := (hb2.cell (p := ⟨w.heap.size + 1, 4, none⟩) (by first | (simp; done) | (simp; omega) | omega)).trans (by go_simp); have c2_5 : w2.cell? ⟨w.heap.size + 1, 5, none⟩ = some (.int .i64 xlabel) := (hb2.cell (p := ⟨w.heap.size + 1, 5, none⟩) (by first | (simp; done) | (simp; omega) | omega)).trans (by go_simp); have c2_6 : w2.cell? ⟨w.heap.size + 1, 6, none⟩ = some (.slice lp nl lc) := (hb2.cell (p := ⟨w.heap.size + 1, 6, none⟩) (by first | (simp; done) | (simp; omega) | omega)).trans (by go_simp); have a2_0 : w2.cell? ⟨w.heap.size, 0, none⟩ = some (.slice (some ⟨b1, o1, none⟩) nw cw) := (hb2.cell (p := ⟨w.heap.size, 0, none⟩) (by first | (simp; done) | (simp; omega) | omega)).trans (by go_simp); have a2_1 : w2.cell? ⟨w.heap.size, 1, none⟩ = some (.slice (some ⟨b2, o2, none⟩) nk ck) := (hb2.cell (p := ⟨w.heap.size, 1, none⟩) (by first | (simp; done) | (simp; omega) | omega)).trans (by go_simp); have a2_2 : w2.cell? ⟨w.heap.size, 2, none⟩ = some (.slice pp np cp) := (hb2.cell (p := ⟨w.heap.size, 2, none⟩) (by first | (simp; done) | (simp; omega) | omega)).trans (by go_simp); have a2_3 : w2.cell? ⟨w.heap.size, 3, none⟩ = some (.int .i64 rd) := (hb2.cell (p := ⟨w.heap.size, 3, none⟩) (by first | (simp; done) | (simp; omega) | omega)).trans (by go_simp); have H2 := Lib.hid hb2; clear hb2)
      | (go_at_call 20; refine (HB.out _).mono ?_; rintro e w3 ⟨rfl, hb3⟩; have hz3 : w2.heap.size + 1 < w3.heap.size := Nat.lt_of_lt_of_le (by first | (simp; done) | (simp; omega) | omega) hb3.size; have hw3 : w.heap.size + 1 < w3.heap.size := (by omega); have hv3 : w.heap.size < w3.heap.size := (by omega); have hy3 : w2.heap.size < w3.heap.size := (by omega); have c3_0 : w3.cell? ⟨w.heap.size + 1, 0, none⟩ = some (.int .i64 2) := (hb3.cell (p := ⟨w.heap.size + 1, 0, none⟩) (by first | (simp; done) | (simp; omega) | omega)).trans (by go_simp); have c3_1 : w3.cell? ⟨w.heap.size + 1, 1, none⟩ = some (.int .i64 xa) := (hb3.cell (p := ⟨w.heap.size + 1, 1, none⟩) (by first | (simp; done) | (simp; omega) | omega)).trans (by go_simp); have c3_2 : w3.cell? ⟨w.heap.size + 1, 2, none⟩ = some (.int .i64 xb) := (hb3.cell (p := ⟨w.heap.size + 1, 2, none⟩) (by first | (simp; done) | (simp; omega) | omega)).trans (by go_simp); have c3_3 : w3.cell? ⟨w.heap.size + 1, 3, none⟩ = some (.int .i64 ximm) := (hb3.cell (p := ⟨w.heap.size + 1, 3, none⟩) (by first | (simp; done) | (simp; omega) | omega)).trans (by go_simp); have c3_4 : w3.cell? ⟨w.heap.size + 1, 4, none⟩ = some (.int .u32 xn) := (hb3.cell (p := ⟨w.heap.size + 1, 4, none⟩) (by first | (simp; done) | (simp; omega) | omega)).trans (by go_simp); have c3_5 : w3.cell? ⟨w.heap.size + 1, 5, none⟩ = some (.int .i64 xlabel) := (hb3.cell (p := ⟨w.heap.size + 1, 5, none⟩) (by first | (simp; done) | (simp; omega) | omega)).trans (by go_simp); have c3_6 : w3.cell? ⟨w.heap.size + 1, 6, none⟩ = some (.slice lp nl lc) := (hb3.cell (p := ⟨w.heap.size + 1, 6, none⟩) (by first | (simp; done) | (simp; omega) | omega)).trans (by go_simp); have a3_0 : w3.cell? ⟨w.heap.size, 0, none⟩ = some (.slice (some ⟨b1, o1, none⟩) nw cw) := (hb3.cell (p := ⟨w.heap.size, 0, none⟩) (by first | (simp; done) | (simp; omega) | omega)).trans (by go_simp); have a3_1 : w3.cell? ⟨w.heap.size, 1, none⟩ = some (.slice (some ⟨b2, o2, none⟩) nk ck) := (hb3.cell (p := ⟨w.heap.size, 1, none⟩) (by first | (simp; done) | (simp; omega) | omega)).trans (by go_simp); have a3_2 : w3.cell? ⟨w.heap.size, 2, none⟩ = some (.slice pp np cp) := (hb3.cell (p := ⟨w.heap.size, 2, none⟩) (by first | (simp; done) | (simp; omega) | omega)).trans (by go_simp); have a3_3 : w3.cell? ⟨w.heap.size, 3, none⟩ = some (.int .i64 rd) := (hb3.cell (p := ⟨w.heap.size, 3, none⟩) (by first | (simp; done) | (simp; omega) | omega)).trans (by go_simp); have y3_0 : w3.cell? ⟨w2.heap.size, 0, none⟩ = some (.int .i64 2) := (hb3.cell (p := ⟨w2.heap.size, 0, none⟩) (by first | (simp; done) | (simp; omega) | omega)).trans (by go_simp); have y3_1 : w3.cell? ⟨w2.heap.size, 1, none⟩ = some (.int .i64 xa) := (hb3.cell (p := ⟨w2.heap.size, 1, none⟩) (by first | (simp; done) | (simp; omega) | omega)).trans (by go_simp); have y3_2 : w3.cell? ⟨w2.heap.size, 2, none⟩ = some (.int .i64 xb) := (hb3.cell (p := ⟨w2.heap.size, 2, none⟩) (by first | (simp; done) | (simp; omega) | omega)).trans (by go_simp); have y3_3 : w3.cell? ⟨w2.heap.size, 3, none⟩ = some (.int .i64 ximm) := (hb3.cell (p := ⟨w2.heap.size, 3, none⟩) (by first | (simp; done) | (simp; omega) | omega)).trans (by go_simp); have z3_0 : w3.cell? ⟨w2.heap.size + 1, 0, none⟩ = some (.int .i64 2) := (hb3.cell (p := ⟨w2.heap.size + 1, 0, none⟩) (by first | (simp; done) | (simp; omega) | omega)).trans (by go_simp); have z3_1 : w3.cell? ⟨w2.heap.size + 1, 1, none⟩ = some (.int .i64 xa) := (hb3.cell (p := ⟨w2.heap.size + 1, 1, none⟩) (by first | (simp; done) | (simp; omega) | omega)).trans (by go_simp); have z3_2 : w3.cell? ⟨w2.heap.size + 1, 2, none⟩ = some (.int .i64 xb) := (hb3.cell (p := ⟨w2.heap.size + 1, 2, none⟩) (by first | (simp; done) | (simp; omega) | omega)).trans (by go_simp); have z3_3 : w3.cell? ⟨w2.heap.size + 1, 3, none⟩ = some (.int .i64 ximm) := (hb3.cell (p := ⟨w2.heap.size + 1, 3, none⟩) (by first | (simp; done) | (simp; omega) | omega)).trans (by go_simp); have H3 := Lib.hid hb3; clear hb3)
      | (go_at_call 24; refine (HG.out _).mono ?_; rintro e w4 ⟨rfl, hb4⟩; have hz4 : w2.heap.size + 1 < w4.heap.size := Nat.lt_of_lt_of_le (by first | (simp; done) | (simp; omega) | omega) hb4.size; have hw4 : w.heap.size + 1 < w4.heap.size := (by omega); have hv4 : w.heap.size < w4.heap.size := (by omega); have hy4 : w2.heap.size < w4.heap.size := (by omega); have c4_0 : w4.cell? ⟨w.heap.size + 1, 0, none⟩ = some (.int .i64 2) := (hb4.cell (p := ⟨w.heap.size + 1, 0, none⟩) (by first | (simp; done) | (simp; omega) | omega)).trans (by go_simp); have c4_1 : w4.cell? ⟨w.heap.size + 1, 1, none⟩ = some (.int .i64 xa) := (hb4.cell (p := ⟨w.heap.size + 1, 1, none⟩) (by first | (simp; done) | (simp; omega) | omega)).trans (by go_simp); have c4_2 : w4.cell? ⟨w.heap.size + 1, 2, none⟩ = some (.int .i64 xb) := (hb4.cell (p := ⟨w.heap.size + 1, 2, none⟩) (by first | (simp; done) | (simp; omega) | omega)).trans (by go_simp); have c4_3 : w4.cell? ⟨w.heap.size + 1, 3, none⟩ = some (.int .i64 ximm) := (hb4.cell (p := ⟨w.heap.size + 1, 3, none⟩) (by first | (simp; done) | (simp; omega) | omega)).trans (by go_simp); have c4_4 : w4.cell? ⟨w.heap.size + 1, 4, none⟩ = some (.int .u32 xn) := (hb4.cell (p := ⟨w.heap.size + 1, 4, none⟩) (by first | (simp; done) | (simp; omega) | omega)).trans (by go_simp); have c4_5 : w4.cell? ⟨w.heap.size + 1, 5, none⟩ = some (.int .i64 xlabel) := (hb4.cell (p := ⟨w.heap.size + 1, 5, none⟩) (by first | (simp; done) | (simp; omega) | omega)).trans (by go_simp); have c4_6 : w4.cell? ⟨w.heap.size + 1, 6, none⟩ = some (.slice lp nl lc) := (hb4.cell (p := ⟨w.heap.size + 1, 6, none⟩) (by first | (simp; done) | (simp; omega) | omega)).trans (by go_simp); have a4_0 : w4.cell? ⟨w.heap.size, 0, none⟩ = some (.slice (some ⟨b1, o1, none⟩) nw cw) := (hb4.cell (p := ⟨w.heap.size, 0, none⟩) (by first | (simp; done) | (simp; omega) | omega)).trans (by go_simp); have a4_1 : w4.cell? ⟨w.heap.size, 1, none⟩ = some (.slice (some ⟨b2, o2, none⟩) nk ck) := (hb4.cell (p := ⟨w.heap.size, 1, none⟩) (by first | (simp; done) | (simp; omega) | omega)).trans (by go_simp); have a4_2 : w4.cell? ⟨w.heap.size, 2, none⟩ = some (.slice pp np cp) := (hb4.cell (p := ⟨w.heap.size, 2, none⟩) (by first | (simp; done) | (simp; omega) | omega)).trans (by go_simp); have a4_3 : w4.cell? ⟨w.heap.size, 3, none⟩ = some (.int .i64 rd) := (hb4.cell (p := ⟨w.heap.size, 3, none⟩) (by first | (simp; done) | (simp; omega) | omega)).trans (by go_simp); have y4_0 : w4.cell? ⟨w2.heap.size, 0, none⟩ = some (.int .i64 2) := (hb4.cell (p := ⟨w2.heap.size, 0, none⟩) (by first | (simp; done) | (simp; omega) | omega)).trans (by go_simp); have y4_1 : w4.cell? ⟨w2.heap.size, 1, none⟩ = some (.int .i64 xa) := (hb4.cell (p := ⟨w2.heap.size, 1, none⟩) (by first | (simp; done) | (simp; omega) | omega)).trans (by go_simp); have y4_2 : w4.cell? ⟨w2.heap.size, 2, none⟩ = some (.int .i64 xb) := (hb4.cell (p := ⟨w2.heap.size, 2, none⟩) (by first | (simp; done) | (simp; omega) | omega)).trans (by go_simp); have y4_3 : w4.cell? ⟨w2.heap.size, 3, none⟩ = some (.int .i64 ximm) := (hb4.cell (p := ⟨w2.heap.size, 3, none⟩) (by first | (simp; done) | (simp; omega) | omega)).trans (by go_simp); have z4_0 : w4.cell? ⟨w2.heap.size + 1, 0, none⟩ = some (.int .i64 2) := (hb4.cell (p := ⟨w2.heap.size + 1, 0, none⟩) (by first | (simp; done) | (simp; omega) | omega)).trans (by go_simp); have z4_1 : w4.cell? ⟨w2.heap.size + 1, 1, none⟩ = some (.int .i64 xa) := (hb4.cell (p := ⟨w2.heap.size + 1, 1, none⟩) (by first | (simp; done) | (simp; omega) | omega)).trans (by go_simp); have z4_2 : w4.cell? ⟨w2.heap.size + 1, 2, none⟩ = some (.int .i64 xb) := (hb4.cell (p := ⟨w2.heap.size + 1, 2, none⟩) (by first | (simp; done) | (simp; omega) | omega)).trans (by go_simp); have z4_3 : w4.cell? ⟨w2.heap.size + 1, 3, none⟩ = some (.int .i64 ximm) := (hb4.cell (p := ⟨w2.heap.size + 1, 3, none⟩) (by first | (simp; done) | (simp; omega) | omega)).trans (by go_simp); have f3 := ((bt ((below_one w _).alloc (by simp) _) (bt H2.out (bt ((below_one w2 _).alloc (by simp) _) (bt H3.out hb4)))).cell (p := ⟨b1, o1 + (t + 1), none⟩) hl1).trans f1; have f4 := ((bt ((below_one w _).alloc (by simp) _) (bt H2.out (bt ((below_one w2 _).alloc (by simp) _) (bt H3.out hb4)))).cell (p := ⟨b2, o2 + (t + 1), none⟩) hl2).trans f2; have H4 := Lib.hid hb4; clear hb4))
    go_quiet (fail)
    go_wp2
    go_ret2
    exact ⟨rfl, below_drew (bt ((below_one w _).alloc (by simp) _) (bt H2.out (bt ((below_one w2 _).alloc (by simp) _) (bt H3.out H4.out)))) _⟩
end Go.Proofs.YtmnhafncdblklaaDoor.Relax
