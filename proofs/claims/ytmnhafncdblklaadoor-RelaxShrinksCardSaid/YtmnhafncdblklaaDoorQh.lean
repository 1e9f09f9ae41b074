/- A word read back: the law's code and data, where the word is there and is of the kind. -/
import Derived.Test.YtmnhafncdblklaaDoorQg
import Derived.Test.YtmnhafncdblklaaDoorGE
namespace Go.Proofs.YtmnhafncdblklaaDoor.Relax
open Go.RowKit Go.Proofs.YtmnhafncdblklaaDoor.Enc Go.Proofs.YtmnhafncdblklaaDoor.Graph

set_option maxHeartbeats 8000000 in
set_option maxRecDepth 100000 in
theorem code_any (D : DoesDec) (a : Asm) (vw vk vp : Value) (w : World) (ha : AsmR w a vw vk vp) (hF : FormsAt w) (t : Nat) (x : Int) (c : PC)
    (hx : a.words[t]? = some x) (hk : a.kinds[t]? = some 1) (hr : 0 ≤ x ∧ x ≤ 4294967295) (hd : decP x = (c, 0)) :
    Calls Tryd.prog 22 #[asmV a vw vk vp, .int .i64 t] w (Is (.tuple #[cV c, .bool true]) w) := by
  obtain ⟨pw, cw, rfl⟩ := ha.words.form
  obtain ⟨pk, ck, rfl⟩ := ha.kinds.form
  obtain ⟨pp, cp, rfl⟩ := ha.places.form
  have htw : t < a.words.length := (List.getElem?_eq_some_iff.1 hx).1
  have htk : t < a.kinds.length := (List.getElem?_eq_some_iff.1 hk).1
  obtain ⟨b1, o1, x', rfl, hx', hl1, e1, hcw, _⟩ := words_pt ha.words htw
  obtain rfl : x = x' := by rw [hx] at hx'; simpa using hx'
  obtain ⟨b2, o2, y', rfl, hy', hl2, e2, hck, _⟩ := ints_pt ha.kinds htk
  obtain rfl : (1 : Int) = y' := by rw [hk] at hy'; simpa using hy'
  have m1 := sl_len ha.words
  have m2 := sl_len ha.kinds
  have HD := Lib.hid (fun w => D.decAt hr hd w)
  unfold asmV
  obtain ⟨nw, hnw⟩ : ∃ n, n = a.words.length := ⟨_, rfl⟩
  obtain ⟨nk, hnk⟩ : ∃ n, n = a.kinds.length := ⟨_, rfl⟩
  obtain ⟨np, hnp⟩ : ∃ n, n = a.places.length := ⟨_, rfl⟩
  obtain ⟨rd, hrd⟩ : ∃ r, r = a.rounds := ⟨_, rfl⟩
  rw [← hnw] at htw m1 hcw
  rw [← hnk] at htk m2 hck
  rw [← hnw, ← hnk, ← hnp, ← hrd]
  have i0 : (0 : Int) ≤ t := by omega
  have i1 : (t : Int) < nw := by omega
  have i2 : (t : Int) < nk := by omega
  have i3 : (nw : Int) ≤ 9223372036854775807 := by omega
  have i4 : (nk : Int) ≤ 9223372036854775807 := by omega
  clear D ha hx hk hx' hy' hnw hnk hnp hrd hr hd
  obtain ⟨op, aa, bb, imm⟩ := c
  unfold cV at HD ⊢
  go_enter Tryd.func22, Tryd.ntmps22
  go_wp2_with (go_at_call 42; refine (HD.out _ (by repeat (first | assumption | apply FormsAt.alloc | apply FormsAt.drew | apply FormsAt.drewN))).mono ?_; rintro e w2 ⟨rfl, hb2⟩; have H2 := Lib.hid hb2; have c0 : w2.cell? ⟨w.heap.size + 1, 0, none⟩ = some (.int .i64 0) := (hb2.cell (p := ⟨w.heap.size + 1, 0, none⟩) (by simp)).trans (by go_simp); have c1 : w2.cell? ⟨w.heap.size + 1, 1, none⟩ = some (.int .i64 0) := (hb2.cell (p := ⟨w.heap.size + 1, 1, none⟩) (by simp)).trans (by go_simp); have c2 : w2.cell? ⟨w.heap.size + 1, 2, none⟩ = some (.int .i64 0) := (hb2.cell (p := ⟨w.heap.size + 1, 2, none⟩) (by simp)).trans (by go_simp); have c3 : w2.cell? ⟨w.heap.size + 1, 3, none⟩ = some (.int .i64 0) := (hb2.cell (p := ⟨w.heap.size + 1, 3, none⟩) (by simp)).trans (by go_simp); have z0 := hb2.frozen (p := ⟨w.heap.size + 1, 0, none⟩) (by simp); have z1 := hb2.frozen (p := ⟨w.heap.size + 1, 1, none⟩) (by simp); have z2 := hb2.frozen (p := ⟨w.heap.size + 1, 2, none⟩) (by simp); have z3 := hb2.frozen (p := ⟨w.heap.size + 1, 3, none⟩) (by simp); have sz := hb2.size; simp only [World.size_alloc] at sz; have l0 : w.heap.size + 1 < w2.heap.size := (by omega); clear hb2)
  refine bodyPost_ret (v := .tuple #[.agg #[.int .i64 op, .int .i64 aa, .int .i64 bb, .int .i64 imm], .bool true]) ?_ rfl
    ⟨rfl, ((((((bt ((below_one w _).alloc (by simp) _) H2.out).setCell (by simp) _).setCell (by simp) _).setCell (by simp) _).setCell (by simp) _).alloc (by simp; omega) _)⟩
  have e0 : (w2.setCell ⟨w.heap.size + 1, 0, none⟩ (.int .i64 op)).cell? ⟨w.heap.size + 1, 0, none⟩ = some (.int .i64 op) := World.cell?_setCell_same _ _ _ c0
  have e1 : ((w2.setCell ⟨w.heap.size + 1, 0, none⟩ (.int .i64 op)).setCell ⟨w.heap.size + 1, 1, none⟩ (.int .i64 aa)).cell? ⟨w.heap.size + 1, 1, none⟩ = some (.int .i64 aa) := World.cell?_setCell_same _ _ _ ((World.cell?_setCell_other _ _ _ _ (by simp)).trans c1)
  have e2 : (((w2.setCell ⟨w.heap.size + 1, 0, none⟩ (.int .i64 op)).setCell ⟨w.heap.size + 1, 1, none⟩ (.int .i64 aa)).setCell ⟨w.heap.size + 1, 2, none⟩ (.int .i64 bb)).cell? ⟨w.heap.size + 1, 2, none⟩ = some (.int .i64 bb) := World.cell?_setCell_same _ _ _ ((World.cell?_setCell_other _ _ _ _ (by simp)).trans ((World.cell?_setCell_other _ _ _ _ (by simp)).trans c2))
  have e3 : ((((w2.setCell ⟨w.heap.size + 1, 0, none⟩ (.int .i64 op)).setCell ⟨w.heap.size + 1, 1, none⟩ (.int .i64 aa)).setCell ⟨w.heap.size + 1, 2, none⟩ (.int .i64 bb)).setCell ⟨w.heap.size + 1, 3, none⟩ (.int .i64 imm)).cell? ⟨w.heap.size + 1, 3, none⟩ = some (.int .i64 imm) := World.cell?_setCell_same _ _ _ ((World.cell?_setCell_other _ _ _ _ (by simp)).trans ((World.cell?_setCell_other _ _ _ _ (by simp)).trans ((World.cell?_setCell_other _ _ _ _ (by simp)).trans c3)))
  simp [results, Tryd.results22, go_sem, l0, e0, e1, e2, e3]
end Go.Proofs.YtmnhafncdblklaaDoor.Relax
