/- The words of a line read back: the law's line, at a table. No condition. -/
import Derived.Test.YtmnhafncdblklaaDoorQo
namespace Go.Proofs.YtmnhafncdblklaaDoor.Relax
open Go.RowKit Go.Proofs.YtmnhafncdblklaaDoor.Enc Go.Proofs.YtmnhafncdblklaaDoor.Graph

set_option maxHeartbeats 16000000 in
set_option maxRecDepth 100000 in
theorem line_tab (l : List PL) (a : Asm) (v vw vk vp : Value) (w : World) (h : LinesR w v l) (ha : AsmR w a vw vk vp) (i : Nat) (hi : i < l.length) (D : DoesDec) (hF : FormsAt w) (t : Nat) (y : Int) (hx1 : a.words[t]? = some y) (hk1 : a.kinds[t]? = some 1) (hr : 0 ≤ y ∧ y ≤ 4294967295)
    (hd : decP y = (⟨42, (lineAt l i).a, (lineAt l i).b, (lineAt l i).imm⟩, 0)) (h2 : (lineAt l i).op = 42) (ht : t + 2 + (lineAt l i).list.length ≤ 65536)
    (hx2 : a.words[t + 1]? = some ((lineAt l i).list.length : Int)) (hk2 : a.kinds[t + 1]? = some 3)
    (hw : ∀ j lab, (lineAt l i).list[j]? = some lab → ∃ (s : Nat) (q : Int), standsAt l lab l.length = some s ∧ standsAt l lab s = none ∧ a.places[s]? = some q ∧ (0 ≤ q ∧ q ≤ 65536) ∧ a.words[t + 2 + j]? = some q ∧ a.kinds[t + 2 + j]? = some 3) :
    Calls Tryd.prog 18 #[v, asmV a vw vk vp, .int .i64 i, .int .i64 t] w (LineIs (2 + (lineAt l i).list.length) w) := by
  have h1 := h
  rcases h with ⟨hz, ap, ac, rfl⟩ | ⟨g, o, cap, rfl, hn, hcap, hgl, hc⟩
  · omega
  · obtain ⟨pw, cw, rfl⟩ := ha.words.form
    obtain ⟨pk, ck, rfl⟩ := ha.kinds.form
    obtain ⟨pp, cp, rfl⟩ := ha.places.form
    obtain ⟨x, hx⟩ := getN (n := l.length) rfl hi
    obtain ⟨vl, hL⟩ := hc i hi x hx
    rw [lineAt_of hx] at h2 hd hx2 ht hw ⊢
    have hbr : isBr x = false := by unfold isBr branchOp; rw [h2]; decide
    have hg : goesB x = false := by unfold goesB; rw [hbr, h2]; rfl
    obtain ⟨q0, q1, q2, q3, q4, q5, q6, q7⟩ := hL
    obtain ⟨lp, lc, rfl⟩ := q7.form
    have HC := Lib.hid (fun (wx : World) (hb : Below w.heap.size w wx) => code_any D a _ _ _ wx (ha.below hb) (hF.below hb) t y _ hx1 hk1 hr hd)
    have HB := Lib.hid (fun w => hbr ▸ branch_any x lp x.list.length lc w)
    have HG := Lib.hid (fun w => hg ▸ goes_any x lp x.list.length lc w)
    have HD := Lib.hid (fun (wx : World) (hb : Below w.heap.size w wx) => data_any a _ _ _ wx (ha.below hb) (t + 1) _ 3 hx2 hk2 ⟨by omega, by omega⟩)
    have HT := Lib.hid (fun (wx : World) (hb : Below w.heap.size w wx) lab s q hs1 hs2 hs3 => at_any l a _ _ _ _ wx (h1.below hb) (ha.below hb) lab s q hs1 hs2 hs3)
    have HDK := Lib.hid (fun (wx : World) (hb : Below w.heap.size w wx) j q hx hk (hq : 0 ≤ q ∧ q ≤ 65536) => data_any a _ _ _ wx (ha.below hb) (t + 2 + j) q 3 hx hk ⟨hq.1, by omega⟩)
    have HW := Lib.hid hw
    have HQ := Lib.hid q7
    clear hx2 hk2 hw h1
    clear D hx1 hk1 hr hd hbr hg
    obtain ⟨n, hN⟩ : ∃ n, n = l.length := ⟨_, rfl⟩
    obtain ⟨nw, hnw⟩ : ∃ n, n = a.words.length := ⟨_, rfl⟩
    obtain ⟨nk, hnk⟩ : ∃ n, n = a.kinds.length := ⟨_, rfl⟩
    obtain ⟨np, hnp⟩ : ∃ n, n = a.places.length := ⟨_, rfl⟩
    obtain ⟨rd, hrd⟩ : ∃ r, r = a.rounds := ⟨_, rfl⟩
    unfold asmV
    unfold asmV at HC HD HT HDK
    rw [← hN] at hn hcap hi
    rw [← hnw, ← hnk, ← hnp, ← hrd] at HC HD HDK
    rw [← hN, ← hnw, ← hnk, ← hnp, ← hrd] at HT
    rw [← hN, ← hnw, ← hnk, ← hnp, ← hrd]
    obtain ⟨xop, xa, xb, ximm, xn, xlabel, xlist⟩ := x
    obtain ⟨nl, hnl⟩ : ∃ n, n = xlist.length := ⟨_, rfl⟩
    unfold lineV at HB HG
    simp only at q0 q1 q2 q3 q4 q5 q6 h2 ht HW HQ HD HDK ⊢
    rw [← hnl] at q6 HB HG ht HD HQ ⊢
    have HNL := Lib.hid hnl
    have HN := Lib.hid hN
    have k5 : (0 : Int) ≤ t := by omega
    have k6 : (t : Int) ≤ 65536 := by omega
    have k7 : ((t + 1 : Nat) : Int) = (t : Int) + 1 := by omega
    have k8 : (nl : Int) ≤ 65536 := by omega
    have k9 : (0 : Int) ≤ nl := by omega
    rw [k7] at HD
    have HTK := Lib.hid ht
    obtain ⟨m1, m2⟩ := hcap
    have j1 : (n : Int) ≤ 9223372036854775807 := by omega
    have j2 : (i : Int) < n := by omega
    have j3 : (0 : Int) ≤ i := by omega
    clear hc hx ha hN hnw hnk hnp hrd q7 hnl ht k7
    subst h2
    go_enter Tryd.func18, Tryd.ntmps18
    go_wp2_with (first
      | (go_at_call 22; refine (HC.out _ ((below_one w _).alloc (by simp) _)).mono ?_; rintro e w2 ⟨rfl, hb2⟩; have hz2 : w.heap.size + 1 < w2.heap.size := Nat.lt_of_lt_of_le (by simp) hb2.size; have hw2 : w.heap.size < w2.heap.size := (by omega); have c2_0 : w2.cell? ⟨w.heap.size + 1, 0, none⟩ = some (.int .i64 42) := (hb2.cell (p := ⟨w.heap.size + 1, 0, none⟩) (by first | (simp; done) | (simp; omega) | omega)).trans (by go_simp); have c2_1 : w2.cell? ⟨w.heap.size + 1, 1, none⟩ = some (.int .i64 xa) := (hb2.cell (p := ⟨w.heap.size + 1, 1, none⟩) (by first | (simp; done) | (simp; omega) | omega)).trans (by go_simp); have c2_2 : w2.cell? ⟨w.heap.size + 1, 2, none⟩ = some (.int .i64 xb) := (hb2.cell (p := ⟨w.heap.size + 1, 2, none⟩) (by first | (simp; done) | (simp; omega) | omega)).trans (by go_simp); have c2_3 : w2.cell? ⟨w.heap.size + 1, 3, none⟩ = some (.int .i64 ximm) := (hb2.cell (p := ⟨w.heap.size + 1, 3, none⟩) (by first | (simp; done) | (simp; omega) | omega)).trans (by go_simp); have c2_4 : w2.cell? ⟨w.heap.size + 1, 4, none⟩ = some (.int .u32 xn) := (hb2.cell (p := ⟨w.heap.size + 1, 4, none⟩) (by first | (simp; done) | (simp; omega) | omega)).trans (by go_simp); have c2_5 : w2.cell? ⟨w.heap.size + 1, 5, none⟩ = some (.int .i64 xlabel) := (hb2.cell (p := ⟨w.heap.size + 1, 5, none⟩) (by first | (simp; done) | (simp; omega) | omega)).trans (by go_simp); have c2_6 : w2.cell? ⟨w.heap.size + 1, 6, none⟩ = some (.slice lp nl lc) := (hb2.cell (p := ⟨w.heap.size + 1, 6, none⟩) (by first | (simp; done) | (simp; omega) | omega)).trans (by go_simp); have a2_0 : w2.cell? ⟨w.heap.size, 0, none⟩ = some (.slice pw nw cw) := (hb2.cell (p := ⟨w.heap.size, 0, none⟩) (by first | (simp; done) | (simp; omega) | omega)).trans (by go_simp); have a2_1 : w2.cell? ⟨w.heap.size, 1, none⟩ = some (.slice pk nk ck) := (hb2.cell (p := ⟨w.heap.size, 1, none⟩) (by first | (simp; done) | (simp; omega) | omega)).trans (by go_simp); have a2_2 : w2.cell? ⟨w.heap.size, 2, none⟩ = some (.slice pp np cp) := (hb2.cell (p := ⟨w.heap.size, 2, none⟩) (by first | (simp; done) | (simp; omega) | omega)).trans (by go_simp); have a2_3 : w2.cell? ⟨w.heap.size, 3, none⟩ = some (.int .i64 rd) := (hb2.cell (p := ⟨w.heap.size, 3, none⟩) (by first | (simp; done) | (simp; omega) | omega)).trans (by go_simp); have H2 := Lib.hid hb2; clear hb2)
      | (go_at_call 20; refine (HB.out _).mono ?_; rintro e w3 ⟨rfl, hb3⟩; have hz3 : w2.heap.size + 1 < w3.heap.size := Nat.lt_of_lt_of_le (by first | (simp; done) | (simp; omega) | omega) hb3.size; have hw3 : w.heap.size + 1 < w3.heap.size := (by omega); have hv3 : w.heap.size < w3.heap.size := (by omega); have hy3 : w2.heap.size < w3.heap.size := (by omega); have c3_0 : w3.cell? ⟨w.heap.size + 1, 0, none⟩ = some (.int .i64 42) := (hb3.cell (p := ⟨w.heap.size + 1, 0, none⟩) (by first | (simp; done) | (simp; omega) | omega)).trans (by go_simp); have c3_1 : w3.cell? ⟨w.heap.size + 1, 1, none⟩ = some (.int .i64 xa) := (hb3.cell (p := ⟨w.heap.size + 1, 1, none⟩) (by first | (simp; done) | (simp; omega) | omega)).trans (by go_simp); have c3_2 : w3.cell? ⟨w.heap.size + 1, 2, none⟩ = some (.int .i64 xb) := (hb3.cell (p := ⟨w.heap.size + 1, 2, none⟩) (by first | (simp; done) | (simp; omega) | omega)).trans (by go_simp); have c3_3 : w3.cell? ⟨w.heap.size + 1, 3, none⟩ = some (.int .i64 ximm) := (hb3.cell (p := ⟨w.heap.size + 1, 3, none⟩) (by first | (simp; done) | (simp; omega) | omega)).trans (by go_simp); have c3_4 : w3.cell? ⟨w.heap.size + 1, 4, none⟩ = some (.int .u32 xn) := (hb3.cell (p := ⟨w.heap.size + 1, 4, none⟩) (by first | (simp; done) | (simp; omega) | omega)).trans (by go_simp); have c3_5 : w3.cell? ⟨w.heap.size + 1, 5, none⟩ = some (.int .i64 xlabel) := (hb3.cell (p := ⟨w.heap.size + 1, 5, none⟩) (by first | (simp; done) | (simp; omega) | omega)).trans (by go_simp); have c3_6 : w3.cell? ⟨w.heap.size + 1, 6, none⟩ = some (.slice lp nl lc) := (hb3.cell (p := ⟨w.heap.size + 1, 6, none⟩) (by first | (simp; done) | (simp; omega) | omega)).trans (by go_simp); have a3_0 : w3.cell? ⟨w.heap.size, 0, none⟩ = some (.slice pw nw cw) := (hb3.cell (p := ⟨w.heap.size, 0, none⟩) (by first | (simp; done) | (simp; omega) | omega)).trans (by go_simp); have a3_1 : w3.cell? ⟨w.heap.size, 1, none⟩ = some (.slice pk nk ck) := (hb3.cell (p := ⟨w.heap.size, 1, none⟩) (by first | (simp; done) | (simp; omega) | omega)).trans (by go_simp); have a3_2 : w3.cell? ⟨w.heap.size, 2, none⟩ = some (.slice pp np cp) := (hb3.cell (p := ⟨w.heap.size, 2, none⟩) (by first | (simp; done) | (simp; omega) | omega)).trans (by go_simp); have a3_3 : w3.cell? ⟨w.heap.size, 3, none⟩ = some (.int .i64 rd) := (hb3.cell (p := ⟨w.heap.size, 3, none⟩) (by first | (simp; done) | (simp; omega) | omega)).trans (by go_simp); have y3_0 : w3.cell? ⟨w2.heap.size, 0, none⟩ = some (.int .i64 42) := (hb3.cell (p := ⟨w2.heap.size, 0, none⟩) (by first | (simp; done) | (simp; omega) | omega)).trans (by go_simp); have y3_1 : w3.cell? ⟨w2.heap.size, 1, none⟩ = some (.int .i64 xa) := (hb3.cell (p := ⟨w2.heap.size, 1, none⟩) (by first | (simp; done) | (simp; omega) | omega)).trans (by go_simp); have y3_2 : w3.cell? ⟨w2.heap.size, 2, none⟩ = some (.int .i64 xb) := (hb3.cell (p := ⟨w2.heap.size, 2, none⟩) (by first | (simp; done) | (simp; omega) | omega)).trans (by go_simp); have y3_3 : w3.cell? ⟨w2.heap.size, 3, none⟩ = some (.int .i64 ximm) := (hb3.cell (p := ⟨w2.heap.size, 3, none⟩) (by first | (simp; done) | (simp; omega) | omega)).trans (by go_simp); have z3_0 : w3.cell? ⟨w2.heap.size + 1, 0, none⟩ = some (.int .i64 42) := (hb3.cell (p := ⟨w2.heap.size + 1, 0, none⟩) (by first | (simp; done) | (simp; omega) | omega)).trans (by go_simp); have z3_1 : w3.cell? ⟨w2.heap.size + 1, 1, none⟩ = some (.int .i64 xa) := (hb3.cell (p := ⟨w2.heap.size + 1, 1, none⟩) (by first | (simp; done) | (simp; omega) | omega)).trans (by go_simp); have z3_2 : w3.cell? ⟨w2.heap.size + 1, 2, none⟩ = some (.int .i64 xb) := (hb3.cell (p := ⟨w2.heap.size + 1, 2, none⟩) (by first | (simp; done) | (simp; omega) | omega)).trans (by go_simp); have z3_3 : w3.cell? ⟨w2.heap.size + 1, 3, none⟩ = some (.int .i64 ximm) := (hb3.cell (p := ⟨w2.heap.size + 1, 3, none⟩) (by first | (simp; done) | (simp; omega) | omega)).trans (by go_simp); have H3 := Lib.hid hb3; clear hb3)
      | (go_at_call 24; refine (HG.out _).mono ?_; rintro e w4 ⟨rfl, hb4⟩; have hz4 : w2.heap.size + 1 < w4.heap.size := Nat.lt_of_lt_of_le (by first | (simp; done) | (simp; omega) | omega) hb4.size; have hw4 : w.heap.size + 1 < w4.heap.size := (by omega); have hv4 : w.heap.size < w4.heap.size := (by omega); have hy4 : w2.heap.size < w4.heap.size := (by omega); have c4_0 : w4.cell? ⟨w.heap.size + 1, 0, none⟩ = some (.int .i64 42) := (hb4.cell (p := ⟨w.heap.size + 1, 0, none⟩) (by first | (simp; done) | (simp; omega) | omega)).trans (by go_simp); have c4_1 : w4.cell? ⟨w.heap.size + 1, 1, none⟩ = some (.int .i64 xa) := (hb4.cell (p := ⟨w.heap.size + 1, 1, none⟩) (by first | (simp; done) | (simp; omega) | omega)).trans (by go_simp); have c4_2 : w4.cell? ⟨w.heap.size + 1, 2, none⟩ = some (.int .i64 xb) := (hb4.cell (p := ⟨w.heap.size + 1, 2, none⟩) (by first | (simp; done) | (simp; omega) | omega)).trans (by go_simp); have c4_3 : w4.cell? ⟨w.heap.size + 1, 3, none⟩ = some (.int .i64 ximm) := (hb4.cell (p := ⟨w.heap.size + 1, 3, none⟩) (by first | (simp; done) | (simp; omega) | omega)).trans (by go_simp); have c4_4 : w4.cell? ⟨w.heap.size + 1, 4, none⟩ = some (.int .u32 xn) := (hb4.cell (p := ⟨w.heap.size + 1, 4, none⟩) (by first | (simp; done) | (simp; omega) | omega)).trans (by go_simp); have c4_5 : w4.cell? ⟨w.heap.size + 1, 5, none⟩ = some (.int .i64 xlabel) := (hb4.cell (p := ⟨w.heap.size + 1, 5, none⟩) (by first | (simp; done) | (simp; omega) | omega)).trans (by go_simp); have c4_6 : w4.cell? ⟨w.heap.size + 1, 6, none⟩ = some (.slice lp nl lc) := (hb4.cell (p := ⟨w.heap.size + 1, 6, none⟩) (by first | (simp; done) | (simp; omega) | omega)).trans (by go_simp); have a4_0 : w4.cell? ⟨w.heap.size, 0, none⟩ = some (.slice pw nw cw) := (hb4.cell (p := ⟨w.heap.size, 0, none⟩) (by first | (simp; done) | (simp; omega) | omega)).trans (by go_simp); have a4_1 : w4.cell? ⟨w.heap.size, 1, none⟩ = some (.slice pk nk ck) := (hb4.cell (p := ⟨w.heap.size, 1, none⟩) (by first | (simp; done) | (simp; omega) | omega)).trans (by go_simp); have a4_2 : w4.cell? ⟨w.heap.size, 2, none⟩ = some (.slice pp np cp) := (hb4.cell (p := ⟨w.heap.size, 2, none⟩) (by first | (simp; done) | (simp; omega) | omega)).trans (by go_simp); have a4_3 : w4.cell? ⟨w.heap.size, 3, none⟩ = some (.int .i64 rd) := (hb4.cell (p := ⟨w.heap.size, 3, none⟩) (by first | (simp; done) | (simp; omega) | omega)).trans (by go_simp); have y4_0 : w4.cell? ⟨w2.heap.size, 0, none⟩ = some (.int .i64 42) := (hb4.cell (p := ⟨w2.heap.size, 0, none⟩) (by first | (simp; done) | (simp; omega) | omega)).trans (by go_simp); have y4_1 : w4.cell? ⟨w2.heap.size, 1, none⟩ = some (.int .i64 xa) := (hb4.cell (p := ⟨w2.heap.size, 1, none⟩) (by first | (simp; done) | (simp; omega) | omega)).trans (by go_simp); have y4_2 : w4.cell? ⟨w2.heap.size, 2, none⟩ = some (.int .i64 xb) := (hb4.cell (p := ⟨w2.heap.size, 2, none⟩) (by first | (simp; done) | (simp; omega) | omega)).trans (by go_simp); have y4_3 : w4.cell? ⟨w2.heap.size, 3, none⟩ = some (.int .i64 ximm) := (hb4.cell (p := ⟨w2.heap.size, 3, none⟩) (by first | (simp; done) | (simp; omega) | omega)).trans (by go_simp); have z4_0 : w4.cell? ⟨w2.heap.size + 1, 0, none⟩ = some (.int .i64 42) := (hb4.cell (p := ⟨w2.heap.size + 1, 0, none⟩) (by first | (simp; done) | (simp; omega) | omega)).trans (by go_simp); have z4_1 : w4.cell? ⟨w2.heap.size + 1, 1, none⟩ = some (.int .i64 xa) := (hb4.cell (p := ⟨w2.heap.size + 1, 1, none⟩) (by first | (simp; done) | (simp; omega) | omega)).trans (by go_simp); have z4_2 : w4.cell? ⟨w2.heap.size + 1, 2, none⟩ = some (.int .i64 xb) := (hb4.cell (p := ⟨w2.heap.size + 1, 2, none⟩) (by first | (simp; done) | (simp; omega) | omega)).trans (by go_simp); have z4_3 : w4.cell? ⟨w2.heap.size + 1, 3, none⟩ = some (.int .i64 ximm) := (hb4.cell (p := ⟨w2.heap.size + 1, 3, none⟩) (by first | (simp; done) | (simp; omega) | omega)).trans (by go_simp); have H4 := Lib.hid hb4; clear hb4)
      | (go_at_call 38; refine (HD.out _ (bt ((below_one w _).alloc (by simp) _) (bt H2.out (bt ((below_one w2 _).alloc (by simp) _) (bt H3.out H4.out))))).mono ?_; rintro e w5 ⟨rfl, hb5⟩; have hz5 : w2.heap.size + 1 < w5.heap.size := Nat.lt_of_lt_of_le (by first | (simp; done) | (simp; omega) | omega) hb5.size; have hw5 : w.heap.size + 1 < w5.heap.size := (by omega); have hv5 : w.heap.size < w5.heap.size := (by omega); have hy5 : w2.heap.size < w5.heap.size := (by omega); have c5_0 : w5.cell? ⟨w.heap.size + 1, 0, none⟩ = some (.int .i64 42) := (hb5.cell (p := ⟨w.heap.size + 1, 0, none⟩) (by first | (simp; done) | (simp; omega) | omega)).trans (by go_simp); have c5_1 : w5.cell? ⟨w.heap.size + 1, 1, none⟩ = some (.int .i64 xa) := (hb5.cell (p := ⟨w.heap.size + 1, 1, none⟩) (by first | (simp; done) | (simp; omega) | omega)).trans (by go_simp); have c5_2 : w5.cell? ⟨w.heap.size + 1, 2, none⟩ = some (.int .i64 xb) := (hb5.cell (p := ⟨w.heap.size + 1, 2, none⟩) (by first | (simp; done) | (simp; omega) | omega)).trans (by go_simp); have c5_3 : w5.cell? ⟨w.heap.size + 1, 3, none⟩ = some (.int .i64 ximm) := (hb5.cell (p := ⟨w.heap.size + 1, 3, none⟩) (by first | (simp; done) | (simp; omega) | omega)).trans (by go_simp); have c5_4 : w5.cell? ⟨w.heap.size + 1, 4, none⟩ = some (.int .u32 xn) := (hb5.cell (p := ⟨w.heap.size + 1, 4, none⟩) (by first | (simp; done) | (simp; omega) | omega)).trans (by go_simp); have c5_5 : w5.cell? ⟨w.heap.size + 1, 5, none⟩ = some (.int .i64 xlabel) := (hb5.cell (p := ⟨w.heap.size + 1, 5, none⟩) (by first | (simp; done) | (simp; omega) | omega)).trans (by go_simp); have c5_6 : w5.cell? ⟨w.heap.size + 1, 6, none⟩ = some (.slice lp nl lc) := (hb5.cell (p := ⟨w.heap.size + 1, 6, none⟩) (by first | (simp; done) | (simp; omega) | omega)).trans (by go_simp); have a5_0 : w5.cell? ⟨w.heap.size, 0, none⟩ = some (.slice pw nw cw) := (hb5.cell (p := ⟨w.heap.size, 0, none⟩) (by first | (simp; done) | (simp; omega) | omega)).trans (by go_simp); have a5_1 : w5.cell? ⟨w.heap.size, 1, none⟩ = some (.slice pk nk ck) := (hb5.cell (p := ⟨w.heap.size, 1, none⟩) (by first | (simp; done) | (simp; omega) | omega)).trans (by go_simp); have a5_2 : w5.cell? ⟨w.heap.size, 2, none⟩ = some (.slice pp np cp) := (hb5.cell (p := ⟨w.heap.size, 2, none⟩) (by first | (simp; done) | (simp; omega) | omega)).trans (by go_simp); have a5_3 : w5.cell? ⟨w.heap.size, 3, none⟩ = some (.int .i64 rd) := (hb5.cell (p := ⟨w.heap.size, 3, none⟩) (by first | (simp; done) | (simp; omega) | omega)).trans (by go_simp); have y5_0 : w5.cell? ⟨w2.heap.size, 0, none⟩ = some (.int .i64 42) := (hb5.cell (p := ⟨w2.heap.size, 0, none⟩) (by first | (simp; done) | (simp; omega) | omega)).trans (by go_simp); have y5_1 : w5.cell? ⟨w2.heap.size, 1, none⟩ = some (.int .i64 xa) := (hb5.cell (p := ⟨w2.heap.size, 1, none⟩) (by first | (simp; done) | (simp; omega) | omega)).trans (by go_simp); have y5_2 : w5.cell? ⟨w2.heap.size, 2, none⟩ = some (.int .i64 xb) := (hb5.cell (p := ⟨w2.heap.size, 2, none⟩) (by first | (simp; done) | (simp; omega) | omega)).trans (by go_simp); have y5_3 : w5.cell? ⟨w2.heap.size, 3, none⟩ = some (.int .i64 ximm) := (hb5.cell (p := ⟨w2.heap.size, 3, none⟩) (by first | (simp; done) | (simp; omega) | omega)).trans (by go_simp); have z5_0 : w5.cell? ⟨w2.heap.size + 1, 0, none⟩ = some (.int .i64 42) := (hb5.cell (p := ⟨w2.heap.size + 1, 0, none⟩) (by first | (simp; done) | (simp; omega) | omega)).trans (by go_simp); have z5_1 : w5.cell? ⟨w2.heap.size + 1, 1, none⟩ = some (.int .i64 xa) := (hb5.cell (p := ⟨w2.heap.size + 1, 1, none⟩) (by first | (simp; done) | (simp; omega) | omega)).trans (by go_simp); have z5_2 : w5.cell? ⟨w2.heap.size + 1, 2, none⟩ = some (.int .i64 xb) := (hb5.cell (p := ⟨w2.heap.size + 1, 2, none⟩) (by first | (simp; done) | (simp; omega) | omega)).trans (by go_simp); have z5_3 : w5.cell? ⟨w2.heap.size + 1, 3, none⟩ = some (.int .i64 ximm) := (hb5.cell (p := ⟨w2.heap.size + 1, 3, none⟩) (by first | (simp; done) | (simp; omega) | omega)).trans (by go_simp); have H5 := Lib.hid hb5; clear hb5))
    go_loopw [19, 20] (fun f k wr => f = .bool true ∧ ∃ j : Nat, j ≤ nl ∧ k = .int .i64 j ∧ Hid (Below w5.heap.size w5 wr)) (fun _ k _ => nl - (intOf k).toNat)
    case atStart => exact ⟨rfl, 0, Nat.zero_le _, rfl, Lib.hid (Below.refl _ _)⟩
    case round =>
      obtain ⟨rfl, j, hj, rfl, HBQ⟩ := hrel
      have hbq := HBQ.out
      have zb3 : w2.heap.size + 1 < w5.heap.size := hz5
      have zb1 : w.heap.size + 1 < w5.heap.size := hw5
      have zb0 : w.heap.size < w5.heap.size := hv5
      have zb2 : w2.heap.size < w5.heap.size := hy5
      have c6_0 : wr.cell? ⟨w.heap.size + 1, 0, none⟩ = some (.int .i64 42) := (hbq.cell (p := ⟨w.heap.size + 1, 0, none⟩) zb1).trans c5_0
      have c6_1 : wr.cell? ⟨w.heap.size + 1, 1, none⟩ = some (.int .i64 xa) := (hbq.cell (p := ⟨w.heap.size + 1, 1, none⟩) zb1).trans c5_1
      have c6_2 : wr.cell? ⟨w.heap.size + 1, 2, none⟩ = some (.int .i64 xb) := (hbq.cell (p := ⟨w.heap.size + 1, 2, none⟩) zb1).trans c5_2
      have c6_3 : wr.cell? ⟨w.heap.size + 1, 3, none⟩ = some (.int .i64 ximm) := (hbq.cell (p := ⟨w.heap.size + 1, 3, none⟩) zb1).trans c5_3
      have c6_4 : wr.cell? ⟨w.heap.size + 1, 4, none⟩ = some (.int .u32 xn) := (hbq.cell (p := ⟨w.heap.size + 1, 4, none⟩) zb1).trans c5_4
      have c6_5 : wr.cell? ⟨w.heap.size + 1, 5, none⟩ = some (.int .i64 xlabel) := (hbq.cell (p := ⟨w.heap.size + 1, 5, none⟩) zb1).trans c5_5
      have c6_6 : wr.cell? ⟨w.heap.size + 1, 6, none⟩ = some (.slice lp nl lc) := (hbq.cell (p := ⟨w.heap.size + 1, 6, none⟩) zb1).trans c5_6
      have a6_0 : wr.cell? ⟨w.heap.size, 0, none⟩ = some (.slice pw nw cw) := (hbq.cell (p := ⟨w.heap.size, 0, none⟩) zb0).trans a5_0
      have a6_1 : wr.cell? ⟨w.heap.size, 1, none⟩ = some (.slice pk nk ck) := (hbq.cell (p := ⟨w.heap.size, 1, none⟩) zb0).trans a5_1
      have a6_2 : wr.cell? ⟨w.heap.size, 2, none⟩ = some (.slice pp np cp) := (hbq.cell (p := ⟨w.heap.size, 2, none⟩) zb0).trans a5_2
      have a6_3 : wr.cell? ⟨w.heap.size, 3, none⟩ = some (.int .i64 rd) := (hbq.cell (p := ⟨w.heap.size, 3, none⟩) zb0).trans a5_3
      have y6_0 : wr.cell? ⟨w2.heap.size, 0, none⟩ = some (.int .i64 42) := (hbq.cell (p := ⟨w2.heap.size, 0, none⟩) zb2).trans y5_0
      have y6_1 : wr.cell? ⟨w2.heap.size, 1, none⟩ = some (.int .i64 xa) := (hbq.cell (p := ⟨w2.heap.size, 1, none⟩) zb2).trans y5_1
      have y6_2 : wr.cell? ⟨w2.heap.size, 2, none⟩ = some (.int .i64 xb) := (hbq.cell (p := ⟨w2.heap.size, 2, none⟩) zb2).trans y5_2
      have y6_3 : wr.cell? ⟨w2.heap.size, 3, none⟩ = some (.int .i64 ximm) := (hbq.cell (p := ⟨w2.heap.size, 3, none⟩) zb2).trans y5_3
      have z6_0 : wr.cell? ⟨w2.heap.size + 1, 0, none⟩ = some (.int .i64 42) := (hbq.cell (p := ⟨w2.heap.size + 1, 0, none⟩) zb3).trans z5_0
      have z6_1 : wr.cell? ⟨w2.heap.size + 1, 1, none⟩ = some (.int .i64 xa) := (hbq.cell (p := ⟨w2.heap.size + 1, 1, none⟩) zb3).trans z5_1
      have z6_2 : wr.cell? ⟨w2.heap.size + 1, 2, none⟩ = some (.int .i64 xb) := (hbq.cell (p := ⟨w2.heap.size + 1, 2, none⟩) zb3).trans z5_2
      have z6_3 : wr.cell? ⟨w2.heap.size + 1, 3, none⟩ = some (.int .i64 ximm) := (hbq.cell (p := ⟨w2.heap.size + 1, 3, none⟩) zb3).trans z5_3
      have zc3 : w2.heap.size + 1 < wr.heap.size := Nat.lt_of_lt_of_le zb3 hbq.size
      have zc1 : w.heap.size + 1 < wr.heap.size := Nat.lt_of_lt_of_le zb1 hbq.size
      have zc0 : w.heap.size < wr.heap.size := Nat.lt_of_lt_of_le zb0 hbq.size
      have zc2 : w2.heap.size < wr.heap.size := Nat.lt_of_lt_of_le zb2 hbq.size
      have hb5 : Below w.heap.size w w5 := bt ((below_one w _).alloc (by simp) _) (bt H2.out (bt ((below_one w2 _).alloc (by simp) _) (bt H3.out (bt H4.out H5.out))))
      have hbr := bt hb5 hbq
      have HBR := Lib.hid hbr
      clear hbq zb0 zb1 zb2 zb3
      clear c5_0 c5_1 c5_2 c5_3 c5_4 c5_5 c5_6 a5_0 a5_1 a5_2 a5_3 y5_0 y5_1 y5_2 y5_3 z5_0 z5_1 z5_2 z5_3
      have i0 : (0 : Int) ≤ j := by omega
      by_cases hlt : j < nl
      · have i1 : (j : Int) < nl := by omega
        have hjx : j < xlist.length := by have := HNL.out; omega
        obtain ⟨b3, o3, lab, hlp, hlab, hl3, e3, hlc, hlc2⟩ := ints_pt (p := lp) (n := nl) (c := lc) (by exact HQ.out) (k := j) hjx
        obtain ⟨s, q, hs1, hs2, hs3, hq, hw1, hw2⟩ := HW.out j lab hlab
        have hl4 : (nl : Int) ≤ 9223372036854775807 := by omega
        have d3 := (hbr.cell (p := ⟨b3, o3 + j, none⟩) hl3).trans e3
        have zd := Nat.lt_of_lt_of_le hl3 hbr.size
        have HTJ := Lib.hid (fun (wx : World) (hb : Below w.heap.size w wx) => HT.out wx hb lab s q (by rw [HN.out]; exact hs1) hs2 hs3)
        have HDJ := Lib.hid (fun (wx : World) (hb : Below w.heap.size w wx) => HDK.out wx hb j q hw1 hw2 hq)
        have k10 : ((t + 2 + j : Nat) : Int) = (t : Int) + 2 + j := by omega
        have k11 : (t : Int) + 2 + j ≤ 70000 := by have := HTK.out; omega
        have k12 := hq.1
        have k13 := hq.2
        rw [k10] at HDJ
        subst hlp
        clear hs1 hs2 hs3 hw1 hw2 hlab hq e3 hl3 hbr hb5 k10
        go_wp2
        refine wp_region_grow (by kernel_rfl) (by kernel_rfl) ?_
        have hgr := grow_cell wr
        repeat (go_big_quiet_step (first | (go_at_call 37; refine Grow.call _ (HTJ.out _ (bt HBR.out (Grow.below _)))) | (go_at_call 38; refine Grow.call _ (HDJ.out _ (bt HBR.out (Grow.below _))))))
        refine wpQuiet_nil ?_
        rintro _ ⟨⟨w7, hb7⟩, rfl⟩
        clear hgr
        go_wp2
        exact ⟨⟨rfl, j + 1, by omega, by go_num, Lib.hid (bt HBQ.out hb7)⟩, by simp [intOf]; omega⟩
      · have i1 : decide (j < nl) = false := decide_eq_false hlt
        clear hlt hbr hb5
        go_wp2
        refine wp_region_grow (by kernel_rfl) (by kernel_rfl) ?_
        have hgr := grow_cell wr
        repeat (go_big_quiet_step (fail))
        refine wpQuiet_nil ?_
        rintro _ ⟨⟨w7, hb7⟩, rfl⟩
        clear hgr
        go_wp2
        go_ret2
        exact ⟨by simp, bt HBR.out hb7⟩
end Go.Proofs.YtmnhafncdblklaaDoor.Relax
