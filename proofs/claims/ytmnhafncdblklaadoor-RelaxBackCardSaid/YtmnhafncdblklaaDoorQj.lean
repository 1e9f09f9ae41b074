/- The words of a line read back: the law's line, at a label and at a line of one word. No condition. -/
import Derived.Test.YtmnhafncdblklaaDoorQi
namespace Go.Proofs.YtmnhafncdblklaaDoor.Relax
open Go.RowKit Go.Proofs.YtmnhafncdblklaaDoor.Enc Go.Proofs.YtmnhafncdblklaaDoor.Graph

/-- What line returns. -/
def LineIs (n : Nat) (w : World) (e : Ending) (w' : World) : Prop := e = .returned (.tuple #[.int .i64 n, .bool true]) ∧ Below w.heap.size w w'
set_option maxHeartbeats 8000000 in
set_option maxRecDepth 100000 in
theorem line_label (l : List PL) (a : Asm) (v vw vk vp : Value) (w : World) (h : LinesR w v l) (ha : AsmR w a vw vk vp) (i : Nat) (hi : i < l.length) (t : Nat) (h0 : (lineAt l i).op = 0) :
    Calls Tryd.prog 18 #[v, asmV a vw vk vp, .int .i64 i, .int .i64 t] w (LineIs 0 w) := by
  rcases h with ⟨hz, ap, ac, rfl⟩ | ⟨g, o, cap, rfl, hn, hcap, hgl, hc⟩
  · omega
  · obtain ⟨pw, cw, rfl⟩ := ha.words.form
    obtain ⟨pk, ck, rfl⟩ := ha.kinds.form
    obtain ⟨pp, cp, rfl⟩ := ha.places.form
    obtain ⟨x, hx⟩ := getN (n := l.length) rfl hi
    obtain ⟨vl, hL⟩ := hc i hi x hx
    rw [lineAt_of hx] at h0
    obtain ⟨q0, q1, q2, q3, q4, q5, q6, q7⟩ := hL
    obtain ⟨lp, lc, rfl⟩ := q7.form
    obtain ⟨n, hN⟩ : ∃ n, n = l.length := ⟨_, rfl⟩
    obtain ⟨nw, hnw⟩ : ∃ n, n = a.words.length := ⟨_, rfl⟩
    obtain ⟨nk, hnk⟩ : ∃ n, n = a.kinds.length := ⟨_, rfl⟩
    obtain ⟨np, hnp⟩ : ∃ n, n = a.places.length := ⟨_, rfl⟩
    obtain ⟨rd, hrd⟩ : ∃ r, r = a.rounds := ⟨_, rfl⟩
    unfold asmV
    rw [← hN] at hn hcap hi
    rw [← hN, ← hnw, ← hnk, ← hnp, ← hrd]
    obtain ⟨m1, m2⟩ := hcap
    have j1 : (n : Int) ≤ 9223372036854775807 := by omega
    have j2 : (i : Int) < n := by omega
    have j3 : (0 : Int) ≤ i := by omega
    rw [h0] at q0
    clear hc hx ha hN hnw hnk hnp hrd q7
    go_enter Tryd.func18, Tryd.ntmps18
    go_wp2
    go_ret2
    exact ⟨rfl, (below_one w _).alloc (by simp) _⟩
set_option maxHeartbeats 8000000 in
set_option maxRecDepth 100000 in
theorem line_plain (l : List PL) (a : Asm) (v vw vk vp : Value) (w : World) (h : LinesR w v l) (ha : AsmR w a vw vk vp) (i : Nat) (hi : i < l.length) (D : DoesDec) (hF : FormsAt w) (t : Nat) (y : Int) (hx1 : a.words[t]? = some y) (hk1 : a.kinds[t]? = some 1) (hr : 0 ≤ y ∧ y ≤ 4294967295)
    (hd : decP y = (⟨(lineAt l i).op, (lineAt l i).a, (lineAt l i).b, (lineAt l i).imm⟩, 0)) (h0 : (lineAt l i).op ≠ 0) (h2 : (lineAt l i).op ≠ 2) (h42 : (lineAt l i).op ≠ 42) (hg : goesB (lineAt l i) = false) :
    Calls Tryd.prog 18 #[v, asmV a vw vk vp, .int .i64 i, .int .i64 t] w (LineIs 1 w) := by
  rcases h with ⟨hz, ap, ac, rfl⟩ | ⟨g, o, cap, rfl, hn, hcap, hgl, hc⟩
  · omega
  · obtain ⟨pw, cw, rfl⟩ := ha.words.form
    obtain ⟨pk, ck, rfl⟩ := ha.kinds.form
    obtain ⟨pp, cp, rfl⟩ := ha.places.form
    obtain ⟨x, hx⟩ := getN (n := l.length) rfl hi
    obtain ⟨vl, hL⟩ := hc i hi x hx
    rw [lineAt_of hx] at h0 h2 h42 hg hd
    have hbr : isBr x = false := by unfold goesB at hg; simp only [Bool.or_eq_false_iff] at hg; exact hg.1
    have h40 : x.op ≠ 40 := by unfold isBr branchOp at hbr; simp at hbr; omega
    obtain ⟨q0, q1, q2, q3, q4, q5, q6, q7⟩ := hL
    obtain ⟨lp, lc, rfl⟩ := q7.form
    have HC := Lib.hid (fun (wx : World) (hb : Below w.heap.size w wx) => code_any D a _ _ _ wx (ha.below hb) (hF.below hb) t y _ hx1 hk1 hr hd)
    have HB := Lib.hid (fun w => hbr ▸ branch_any x lp x.list.length lc w)
    have HG := Lib.hid (fun w => hg ▸ goes_any x lp x.list.length lc w)
    clear D hx1 hk1 hr hd hbr hg
    obtain ⟨n, hN⟩ : ∃ n, n = l.length := ⟨_, rfl⟩
    obtain ⟨nw, hnw⟩ : ∃ n, n = a.words.length := ⟨_, rfl⟩
    obtain ⟨nk, hnk⟩ : ∃ n, n = a.kinds.length := ⟨_, rfl⟩
    obtain ⟨np, hnp⟩ : ∃ n, n = a.places.length := ⟨_, rfl⟩
    obtain ⟨rd, hrd⟩ : ∃ r, r = a.rounds := ⟨_, rfl⟩
    unfold asmV
    rw [← hN] at hn hcap hi
    unfold asmV at HC
    rw [← hnw, ← hnk, ← hnp, ← hrd] at HC
    rw [← hN, ← hnw, ← hnk, ← hnp, ← hrd]
    obtain ⟨xop, xa, xb, ximm, xn, xlabel, xlist⟩ := x
    obtain ⟨nl, hnl⟩ : ∃ n, n = xlist.length := ⟨_, rfl⟩
    unfold lineV at HB HG
    simp only at q0 q1 q2 q3 q4 q5 q6 h0 h2 h42 h40
    rw [← hnl] at q6 HB HG
    have g0 : (xop == 0) = false := by simpa using h0
    have g2 : (xop == 2) = false := by simpa using h2
    have g42 : (xop == 42) = false := by simpa using h42
    have g40 : (xop == 40) = false := by simpa using h40
    obtain ⟨m1, m2⟩ := hcap
    have j1 : (n : Int) ≤ 9223372036854775807 := by omega
    have j2 : (i : Int) < n := by omega
    have j3 : (0 : Int) ≤ i := by omega
    clear hc hx ha hN hnw hnk hnp hrd q7 hnl h0 h2 h42 h40
    go_enter Tryd.func18, Tryd.ntmps18
    go_wp2_with (first
      | (go_at_call 22; refine (HC.out _ ((below_one w _).alloc (by simp) _)).mono ?_; rintro e w2 ⟨rfl, hb2⟩; have hz2 : w.heap.size + 1 < w2.heap.size := Nat.lt_of_lt_of_le (by simp) hb2.size; have hw2 : w.heap.size < w2.heap.size := (by omega); have c0 : w2.cell? ⟨w.heap.size + 1, 0, none⟩ = some (.int .i64 xop) := (hb2.cell (p := ⟨w.heap.size + 1, 0, none⟩) (by first | (simp; done) | (simp; omega) | omega)).trans (by go_simp); have c1 : w2.cell? ⟨w.heap.size + 1, 1, none⟩ = some (.int .i64 xa) := (hb2.cell (p := ⟨w.heap.size + 1, 1, none⟩) (by first | (simp; done) | (simp; omega) | omega)).trans (by go_simp); have c2 : w2.cell? ⟨w.heap.size + 1, 2, none⟩ = some (.int .i64 xb) := (hb2.cell (p := ⟨w.heap.size + 1, 2, none⟩) (by first | (simp; done) | (simp; omega) | omega)).trans (by go_simp); have c3 : w2.cell? ⟨w.heap.size + 1, 3, none⟩ = some (.int .i64 ximm) := (hb2.cell (p := ⟨w.heap.size + 1, 3, none⟩) (by first | (simp; done) | (simp; omega) | omega)).trans (by go_simp); have c4 : w2.cell? ⟨w.heap.size + 1, 4, none⟩ = some (.int .u32 xn) := (hb2.cell (p := ⟨w.heap.size + 1, 4, none⟩) (by first | (simp; done) | (simp; omega) | omega)).trans (by go_simp); have c5 : w2.cell? ⟨w.heap.size + 1, 5, none⟩ = some (.int .i64 xlabel) := (hb2.cell (p := ⟨w.heap.size + 1, 5, none⟩) (by first | (simp; done) | (simp; omega) | omega)).trans (by go_simp); have c6 : w2.cell? ⟨w.heap.size + 1, 6, none⟩ = some (.slice lp nl lc) := (hb2.cell (p := ⟨w.heap.size + 1, 6, none⟩) (by first | (simp; done) | (simp; omega) | omega)).trans (by go_simp); have H2 := Lib.hid hb2; clear hb2)
      | (go_at_call 20; refine (HB.out _).mono ?_; rintro e w3 ⟨rfl, hb3⟩; have hz3 : w2.heap.size + 1 < w3.heap.size := Nat.lt_of_lt_of_le (by first | (simp; done) | (simp; omega)) hb3.size; have hw3 : w.heap.size + 1 < w3.heap.size := (by omega); have hv3 : w.heap.size < w3.heap.size := (by omega); have hy3 : w2.heap.size < w3.heap.size := (by omega); have d0 : w3.cell? ⟨w.heap.size + 1, 0, none⟩ = some (.int .i64 xop) := (hb3.cell (p := ⟨w.heap.size + 1, 0, none⟩) (by first | (simp; done) | (simp; omega) | omega)).trans (by go_simp); have d1 : w3.cell? ⟨w.heap.size + 1, 1, none⟩ = some (.int .i64 xa) := (hb3.cell (p := ⟨w.heap.size + 1, 1, none⟩) (by first | (simp; done) | (simp; omega) | omega)).trans (by go_simp); have d2 : w3.cell? ⟨w.heap.size + 1, 2, none⟩ = some (.int .i64 xb) := (hb3.cell (p := ⟨w.heap.size + 1, 2, none⟩) (by first | (simp; done) | (simp; omega) | omega)).trans (by go_simp); have d3 : w3.cell? ⟨w.heap.size + 1, 3, none⟩ = some (.int .i64 ximm) := (hb3.cell (p := ⟨w.heap.size + 1, 3, none⟩) (by first | (simp; done) | (simp; omega) | omega)).trans (by go_simp); have d4 : w3.cell? ⟨w.heap.size + 1, 4, none⟩ = some (.int .u32 xn) := (hb3.cell (p := ⟨w.heap.size + 1, 4, none⟩) (by first | (simp; done) | (simp; omega) | omega)).trans (by go_simp); have d5 : w3.cell? ⟨w.heap.size + 1, 5, none⟩ = some (.int .i64 xlabel) := (hb3.cell (p := ⟨w.heap.size + 1, 5, none⟩) (by first | (simp; done) | (simp; omega) | omega)).trans (by go_simp); have d6 : w3.cell? ⟨w.heap.size + 1, 6, none⟩ = some (.slice lp nl lc) := (hb3.cell (p := ⟨w.heap.size + 1, 6, none⟩) (by first | (simp; done) | (simp; omega) | omega)).trans (by go_simp); have y0 : w3.cell? ⟨w2.heap.size, 0, none⟩ = some (.int .i64 xop) := (hb3.cell (p := ⟨w2.heap.size, 0, none⟩) (by first | (simp; done) | (simp; omega) | omega)).trans (by go_simp); have y1 : w3.cell? ⟨w2.heap.size, 1, none⟩ = some (.int .i64 xa) := (hb3.cell (p := ⟨w2.heap.size, 1, none⟩) (by first | (simp; done) | (simp; omega) | omega)).trans (by go_simp); have y2 : w3.cell? ⟨w2.heap.size, 2, none⟩ = some (.int .i64 xb) := (hb3.cell (p := ⟨w2.heap.size, 2, none⟩) (by first | (simp; done) | (simp; omega) | omega)).trans (by go_simp); have y3 : w3.cell? ⟨w2.heap.size, 3, none⟩ = some (.int .i64 ximm) := (hb3.cell (p := ⟨w2.heap.size, 3, none⟩) (by first | (simp; done) | (simp; omega) | omega)).trans (by go_simp); have z0 : w3.cell? ⟨w2.heap.size + 1, 0, none⟩ = some (.int .i64 xop) := (hb3.cell (p := ⟨w2.heap.size + 1, 0, none⟩) (by first | (simp; done) | (simp; omega) | omega)).trans (by go_simp); have z1 : w3.cell? ⟨w2.heap.size + 1, 1, none⟩ = some (.int .i64 xa) := (hb3.cell (p := ⟨w2.heap.size + 1, 1, none⟩) (by first | (simp; done) | (simp; omega) | omega)).trans (by go_simp); have z2 : w3.cell? ⟨w2.heap.size + 1, 2, none⟩ = some (.int .i64 xb) := (hb3.cell (p := ⟨w2.heap.size + 1, 2, none⟩) (by first | (simp; done) | (simp; omega) | omega)).trans (by go_simp); have z3 : w3.cell? ⟨w2.heap.size + 1, 3, none⟩ = some (.int .i64 ximm) := (hb3.cell (p := ⟨w2.heap.size + 1, 3, none⟩) (by first | (simp; done) | (simp; omega) | omega)).trans (by go_simp); have H3 := Lib.hid hb3; clear hb3)
      | (go_at_call 24; refine (HG.out _).mono ?_; rintro e w4 ⟨rfl, hb4⟩; have hz4 := hb4.size; have e0 : w4.cell? ⟨w.heap.size + 1, 0, none⟩ = some (.int .i64 xop) := (hb4.cell (p := ⟨w.heap.size + 1, 0, none⟩) (by first | (simp; done) | (simp; omega) | omega)).trans (by go_simp); have e1 : w4.cell? ⟨w.heap.size + 1, 1, none⟩ = some (.int .i64 xa) := (hb4.cell (p := ⟨w.heap.size + 1, 1, none⟩) (by first | (simp; done) | (simp; omega) | omega)).trans (by go_simp); have e2 : w4.cell? ⟨w.heap.size + 1, 2, none⟩ = some (.int .i64 xb) := (hb4.cell (p := ⟨w.heap.size + 1, 2, none⟩) (by first | (simp; done) | (simp; omega) | omega)).trans (by go_simp); have e3 : w4.cell? ⟨w.heap.size + 1, 3, none⟩ = some (.int .i64 ximm) := (hb4.cell (p := ⟨w.heap.size + 1, 3, none⟩) (by first | (simp; done) | (simp; omega) | omega)).trans (by go_simp); have e4 : w4.cell? ⟨w.heap.size + 1, 4, none⟩ = some (.int .u32 xn) := (hb4.cell (p := ⟨w.heap.size + 1, 4, none⟩) (by first | (simp; done) | (simp; omega) | omega)).trans (by go_simp); have e5 : w4.cell? ⟨w.heap.size + 1, 5, none⟩ = some (.int .i64 xlabel) := (hb4.cell (p := ⟨w.heap.size + 1, 5, none⟩) (by first | (simp; done) | (simp; omega) | omega)).trans (by go_simp); have e6 : w4.cell? ⟨w.heap.size + 1, 6, none⟩ = some (.slice lp nl lc) := (hb4.cell (p := ⟨w.heap.size + 1, 6, none⟩) (by first | (simp; done) | (simp; omega) | omega)).trans (by go_simp); have u0 : w4.cell? ⟨w2.heap.size, 0, none⟩ = some (.int .i64 xop) := (hb4.cell (p := ⟨w2.heap.size, 0, none⟩) (by first | (simp; done) | (simp; omega) | omega)).trans (by go_simp); have u1 : w4.cell? ⟨w2.heap.size, 1, none⟩ = some (.int .i64 xa) := (hb4.cell (p := ⟨w2.heap.size, 1, none⟩) (by first | (simp; done) | (simp; omega) | omega)).trans (by go_simp); have u2 : w4.cell? ⟨w2.heap.size, 2, none⟩ = some (.int .i64 xb) := (hb4.cell (p := ⟨w2.heap.size, 2, none⟩) (by first | (simp; done) | (simp; omega) | omega)).trans (by go_simp); have u3 : w4.cell? ⟨w2.heap.size, 3, none⟩ = some (.int .i64 ximm) := (hb4.cell (p := ⟨w2.heap.size, 3, none⟩) (by first | (simp; done) | (simp; omega) | omega)).trans (by go_simp); have v0 : w4.cell? ⟨w2.heap.size + 1, 0, none⟩ = some (.int .i64 xop) := (hb4.cell (p := ⟨w2.heap.size + 1, 0, none⟩) (by first | (simp; done) | (simp; omega) | omega)).trans (by go_simp); have v1 : w4.cell? ⟨w2.heap.size + 1, 1, none⟩ = some (.int .i64 xa) := (hb4.cell (p := ⟨w2.heap.size + 1, 1, none⟩) (by first | (simp; done) | (simp; omega) | omega)).trans (by go_simp); have v2 : w4.cell? ⟨w2.heap.size + 1, 2, none⟩ = some (.int .i64 xb) := (hb4.cell (p := ⟨w2.heap.size + 1, 2, none⟩) (by first | (simp; done) | (simp; omega) | omega)).trans (by go_simp); have v3 : w4.cell? ⟨w2.heap.size + 1, 3, none⟩ = some (.int .i64 ximm) := (hb4.cell (p := ⟨w2.heap.size + 1, 3, none⟩) (by first | (simp; done) | (simp; omega) | omega)).trans (by go_simp); have H4 := Lib.hid hb4; clear hb4))
    go_quiet (fail)
    go_wp2
    go_ret2
    exact ⟨rfl, below_drew (bt ((below_one w _).alloc (by simp) _) (bt H2.out (bt ((below_one w2 _).alloc (by simp) _) (bt H3.out H4.out)))) _⟩
end Go.Proofs.YtmnhafncdblklaaDoor.Relax
