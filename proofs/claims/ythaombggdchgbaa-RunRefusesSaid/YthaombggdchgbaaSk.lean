/- run.Run at the two modules of the law: one block that returns; live's. -/
import Derived.Test.YthaombggdchgbaaSj
import Derived.Test.YthaombggdchgbaaSe
namespace Go.Proofs.Ythaombggdchgbaa.Graph
open Go.RowKit

theorem one_cells {w : World} {vg vr vf : Value} {t : Int} {b : PBlk} (hM : ModL w vg vr vf ⟨[], [], [⟨[], t, [], [b]⟩], 0⟩) :
    ∃ gp gc rp rc fb fo fc aq ac bb bo bc kq kc vc vt, vg = .slice gp 0 gc ∧ vr = .slice rp 0 rc ∧ vf = .slice (some ⟨fb, fo, none⟩) 1 fc ∧ 1 ≤ fc ∧ fb < w.heap.size ∧ w.cell? ⟨fb, fo + 1, none⟩ = some (.int .i64 t) ∧ w.cell? ⟨fb, fo + 2, none⟩ = some (.slice aq 0 ac) ∧
      w.cell? ⟨fb, fo + 3, none⟩ = some (.slice (some ⟨bb, bo, none⟩) 1 bc) ∧ (1 ≤ bc ∧ bc ≤ 9223372036854775807) ∧ bb < w.heap.size ∧ w.cell? ⟨bb, bo, none⟩ = some (.slice kq b.code.length kc) ∧ CodeR w (.slice kq b.code.length kc) b.code ∧ EndR w bb (bo + 1) b.fin vc vt := by
  obtain ⟨gp, gc, rfl⟩ := hM.globals.form
  obtain ⟨rp, rc, rfl⟩ := hM.arrays.form
  have HF := hM.funcs
  obtain ⟨fb, fo, fc, rfl, ⟨k0, _⟩, _, _⟩ := SlR.form2 HF (by simp)
  obtain ⟨pp, pc, ap, ac, bp, bc, _, c1, c2, c3, hl, l0⟩ := gr_at HF (Below.refl _ _) (k := 0) rfl
  have e0 : fo + 0 * 4 = fo := by omega
  rw [e0] at c1 c2 c3
  have hB := hl.blocks
  obtain ⟨bb, bo, bc', hv, hbc, hbl, _⟩ := SlR.form2 hB (by simp)
  injection hv with h1 h2 h3
  subst h1 h3
  obtain ⟨pk, ck, vc, vt, d0, hcode, he, _⟩ := first_blk hB (Below.refl _ _)
  exact ⟨gp, gc, rp, rc, fb, fo, fc, ap, ac, bb, bo, bc, pk, ck, vc, vt, rfl, rfl, rfl, k0, l0, c1, c2, c3, hbc, hbl, d0, hcode, he⟩
def AnyV (_stop _code : Int) (_str : ByteArray) (_steps : Int) : Prop := True
def BareS (fb fo _bb _bo _bc _kc : Nat) (_kq : Option Addr) (fuel : Int) (M : Nat) (wx w1 : World) : Prop :=
  ∃ C m, w1.heap[M]? = some (.cells m 77 (0, 0)) ∧ Mc C fuel 0 0 m ∧ C ≠ M ∧ wx.heap.size ≤ C ∧ w1.cell? ⟨C, 0, none⟩ = some (.pointer (some ⟨fb, fo, none⟩)) ∧ w1.cell? ⟨C, 1, none⟩ = some (.int .i64 0) ∧ w1.cell? ⟨C, 2, none⟩ = some (.int .i64 0) ∧ C < w1.heap.size
theorem FinAt.is {M : Nat} {wx w1 w2 : World} {stop code steps : Int} {v : Value} {e : Ending} (h : FinAt M wx w1 stop code steps) (hs : Is v w1 e w2) : FinAt M wx w2 stop code steps :=
  ⟨h.below.trans (hs.2.mono h.below.size), Nat.lt_of_lt_of_le h.lm hs.2.size, h.lo, (hs.2.cell (p := ⟨M, 11, none⟩) h.lm).trans h.m11, (hs.2.cell (p := ⟨M, 12, none⟩) h.lm).trans h.m12, (hs.2.cell (p := ⟨M, 13, none⟩) h.lm).trans h.m13⟩
theorem FinAt.drew {M : Nat} {wx w1 : World} {stop code steps : Int} (h : FinAt M wx w1 stop code steps) : FinAt M wx w1.drew stop code steps := ⟨h.below.drew, h.lm, h.lo, h.m11, h.m12, h.m13⟩
theorem run_bare (vg vr vf : Value) (s : ByteArray) (fuel : Int) (w : World) (hM : ModL w vg vr vf (oneM goodB)) (hs : s.size ≤ 10000) (h0 : 0 ≤ fuel) (h1 : fuel ≤ 1073741824) :
    Calls Try.prog 10 #[modV (oneM goodB) vg vr vf, .string s, .int .i64 fuel] w (RunOk AnyV w) := by
  obtain ⟨gp, gc, rp, rc, fb, fo, fc, aq, ac, bb, bo, bc, kq, kc, vc, vt, rfl, rfl, rfl, hfc, hfb, c1, c2, c3, hbc, hbb, d0, _, he⟩ := one_cells hM
  refine run_core gp rp gc rc fb fo fc s fuel (BareS fb fo bb bo bc kc kq fuel) AnyV w hs h0 h1 (fun wx hx => ?_) (fun wx hx => ?_) (fun M wx w1 hx hs1 hS => ?_)
  · exact check_one goodB (-1) (-1) 0 (.inl ⟨rfl, rfl⟩) _ _ _ wx (hM.below hx)
  · refine (start_bare fb fo fc gp rp gc rc fuel s 0 aq ac wx (Nat.lt_of_lt_of_le hfb hx.size) ((hx.cell (p := ⟨fb, fo + 1, none⟩) hfb).trans c1) ((hx.cell (p := ⟨fb, fo + 2, none⟩) hfb).trans c2) (.inl rfl) hfc).mono ?_
    rintro e w' ⟨M, C, cc, two, q, rfl, hb, hC, hCM, m1, r1, y0, y1, y2, y6, y3, _⟩
    exact ⟨M, rfl, ⟨hb, lt_of_block m1, (cell_of_block m1 (k := 12) rfl).1, by omega⟩, C, _, m1, ⟨rfl, rfl, rfl, rfl, rfl, rfl⟩, by omega, hC, (cell_of_block r1 y0).1, (cell_of_block r1 y1).1, (cell_of_block r1 y2).1, lt_of_block r1⟩
  · obtain ⟨C, m, m1, hmc, hCM, hC, y0, y1, y2, hlC⟩ := hS
    have hb := hs1.1
    have hw : Below w.heap.size w w1 := below_then hx hb
    have hfM : fb ≠ M := by have := hs1.2.2.2; have := hx.size; omega
    have hbM : bb ≠ M := by have := hs1.2.2.2; have := hx.size; omega
    have hg : G3 C fb fo bb bo bc kc kq w1 := ⟨y0, y1, y2, (hw.cell (p := ⟨fb, fo + 3, none⟩) hfb).trans c3, (hw.cell (p := ⟨bb, bo, none⟩) hbb).trans d0, (hw.cell (p := ⟨bb, bo + 1, none⟩) hbb).trans he.kind, (hw.cell (p := ⟨bb, bo + 3, none⟩) hbb).trans he.fa, hlC, Nat.lt_of_lt_of_le hfb hw.size, Nat.lt_of_lt_of_le hbb hw.size⟩
    refine (goOn_bare m1 hmc hg hCM hfM hbM hbc h0 h1).mono ?_
    rintro e w2 ⟨rfl, m', steps, stop, hn, hst, n9, n11, n12, n13⟩
    have hfin : FinAt M wx w2 stop 0 steps := ⟨⟨hn.os.trans hb.os, hn.tape.trans hb.tape, hn.output.trans hb.output, Nat.le_trans hb.size hn.size, fun j hj => (hn.out j (Nat.lt_of_lt_of_le hj hb.size) (by have := hs1.2.2.2; omega)).trans (hb.block j hj)⟩, lt_of_block hn.mach, hs1.2.2.2, (cell_of_block hn.mach n11).1, (cell_of_block hn.mach n12).1, (cell_of_block hn.mach n13).1⟩
    refine ⟨rfl, stop, 0, steps, .empty, by omega, trivial, hfin, ?_⟩
    refine (string_nil M m' w2.drew hn.mach n9).mono ?_
    rintro e w3 his
    exact ⟨his.1, hfin.drew.is his⟩
def LiveV (stop code : Int) (str : ByteArray) (steps : Int) : Prop := stop = 3 ∧ code = 0 ∧ str = ⟨#[97, 98, 255]⟩ ∧ steps = 9
def LiveS (_w : World) (fb fo _fc _gc _rc : Nat) (_gp _rp : Option Addr) (M : Nat) (wx w1 : World) : Prop :=
  ∃ x : Fx, x.M = M ∧ x.fb = fb ∧ x.fo = fo ∧ x.B = wx.heap.size ∧ St x wx 0 0 0 0 0 0 w1
theorem run_live (vg vr vf : Value) (w : World) (hM : ModL w vg vr vf liveM) :
    Calls Try.prog 10 #[modV liveM vg vr vf, .string ⟨#[97, 98]⟩, .int .i64 9] w (RunOk LiveV w) := by
  obtain ⟨gp, gc, rp, rc, fb, fo, fc, aq, ac, bb, bo, bc, kq, kc, vc, vt, rfl, rfl, rfl, hfc, hfb, c1, c2, c3, hbc, hbb, d0, hcode, he⟩ := one_cells hM
  obtain ⟨ib, io, ic, hv, hic, hib, hin⟩ := SlR.form2 hcode (by simp)
  injection hv with v1 v2 v3
  subst v1 v3
  obtain ⟨_, _, hi0⟩ := hin 0 (by simp) (liveI 30) rfl
  obtain ⟨_, _, hi1⟩ := hin 1 (by simp) (liveI 31) rfl
  rw [show io + 0 * 8 = io by omega] at hi0
  rw [show io + 1 * 8 = io + 8 by omega] at hi1
  refine run_core gp rp gc rc fb fo fc ⟨#[97, 98]⟩ 9 (LiveS w fb fo fc gc rc gp rp) LiveV w (by show (2 : Nat) ≤ 10000; omega) (by omega) (by omega) (fun wx hx => ?_) (fun wx hx => ?_) (fun M wx w1 hx hs1 hS => ?_)
  · exact check_live _ _ _ wx (hM.below hx)
  · refine (start_bare fb fo fc gp rp gc rc 9 ⟨#[97, 98]⟩ 1 aq ac wx (Nat.lt_of_lt_of_le hfb hx.size) ((hx.cell (p := ⟨fb, fo + 1, none⟩) hfb).trans c1) ((hx.cell (p := ⟨fb, fo + 2, none⟩) hfb).trans c2) (.inr rfl) hfc).mono ?_
    rintro e w' ⟨M, C, cc, two, q, rfl, hb, hC, hCM, m1, r1, y0, y1, y2, y6, y3, hT⟩
    obtain ⟨T, rfl, hTM, hTC, hTB, t1⟩ := hT rfl
    refine ⟨M, rfl, ⟨hb, lt_of_block m1, (cell_of_block m1 (k := 12) rfl).1, by omega⟩, ⟨fb, fo, fc, gc, rc, M, C, T, wx.heap.size, w'.heap.size, gp, rp, two⟩, rfl, rfl, rfl, rfl, ?_⟩
    exact ⟨⟨Nat.ne_of_lt hCM, hTM, hTC, Nat.le_trans hC (Nat.le_of_lt hCM), hC, hTB, lt_of_block m1, lt_of_block r1, lt_of_block t1⟩, hb, Nat.le_refl _, ⟨_, _, _, m1, .inl rfl, World.ownsRow_nil _ _ _ _⟩, ⟨cc, r1, ⟨y0, y1, y2, y3⟩⟩, t1⟩
  · obtain ⟨x, rfl, e1, e2, e3, hst⟩ := hS
    subst e1 e2
    have hmd : Md x bb bo bc ib io kc wx := by
      have hsz := hx.size
      refine ⟨by omega, by omega, by omega, by omega, hbc, hic, (hx.cell (p := ⟨x.fb, x.fo + 3, none⟩) hfb).trans c3, (hx.cell (p := ⟨bb, bo, none⟩) hbb).trans d0, (hx.cell (p := ⟨bb, bo + 1, none⟩) hbb).trans he.kind, (hx.cell (p := ⟨bb, bo + 6, none⟩) hbb).trans he.to,
        (hx.cell (p := ⟨ib, io, none⟩) hib).trans hi0.op, (hx.cell (p := ⟨ib, io + 1, none⟩) hib).trans hi0.d, (hx.cell (p := ⟨ib, io + 8, none⟩) hib).trans hi1.op, (hx.cell (p := ⟨ib, io + 10, none⟩) hib).trans hi1.fa⟩
    refine (goOn_live hmd hst).mono ?_
    rintro e w2 ⟨rfl, h2⟩
    have hfin : ∀ (wy : World), Below x.B wx wy → wy.heap[x.M]? = w2.heap[x.M]? → FinAt x.M wx wy 3 0 9 := fun wy hy hm => by
      obtain ⟨ad, bp, bc', k1, _, _⟩ := h2.mach
      rw [← hm] at k1
      exact ⟨by rw [← e3]; exact hy, lt_of_block k1, by rw [← e3]; exact h2.ok.bm, (cell_of_block k1 (k := 11) rfl).1, (cell_of_block k1 (k := 12) rfl).1, (cell_of_block k1 (k := 13) rfl).1⟩
    refine ⟨rfl, 3, 0, 9, ⟨#[97, 98, 255]⟩, by omega, ⟨rfl, rfl, rfl, rfl⟩, hfin w2 h2.below rfl, ?_⟩
    refine (string_st h2.drew).mono ?_
    rintro e w3 ⟨rfl, k1, _, k2⟩
    exact ⟨rfl, hfin w3 k1 k2⟩
end Go.Proofs.Ythaombggdchgbaa.Graph
