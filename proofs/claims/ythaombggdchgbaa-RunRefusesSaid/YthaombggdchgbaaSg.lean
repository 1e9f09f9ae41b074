/- What live's module holds, where the machine looks; do at its two instructions, target at its end. -/
import Derived.Test.YthaombggdchgbaaSf
import Derived.Deep.RegionHeld3
namespace Go.Proofs.Ythaombggdchgbaa.Graph
open Go.RowKit

/-- Live's module: its function at (fb, fo), its block at (bb, bo), its code at (ib, io). -/
structure Md (x : Fx) (bb bo bc ib io ic : Nat) (w : World) : Prop where
  lf : x.fb < x.B
  lb : bb < x.B
  li : ib < x.B
  lw : x.B ≤ w.heap.size
  cb : 1 ≤ bc ∧ bc ≤ 9223372036854775807
  ci : 2 ≤ ic ∧ ic ≤ 9223372036854775807
  f3 : w.cell? ⟨x.fb, x.fo + 3, none⟩ = some (.slice (some ⟨bb, bo, none⟩) 1 bc)
  b0 : w.cell? ⟨bb, bo, none⟩ = some (.slice (some ⟨ib, io, none⟩) 2 ic)
  e0 : w.cell? ⟨bb, bo + 1, none⟩ = some (.int .i64 1)
  e5 : w.cell? ⟨bb, bo + 6, none⟩ = some (.int .i64 0)
  i0 : w.cell? ⟨ib, io, none⟩ = some (.int .i64 30)
  i1 : w.cell? ⟨ib, io + 1, none⟩ = some (.int .i64 0)
  j0 : w.cell? ⟨ib, io + 8, none⟩ = some (.int .i64 31)
  j2 : w.cell? ⟨ib, io + 10, none⟩ = some (.int .i64 0)
theorem Md.below {x : Fx} {bb bo bc ib io ic : Nat} {w wr : World} (h : Md x bb bo bc ib io ic w) (hb : Below x.B w wr) : Md x bb bo bc ib io ic wr :=
  ⟨h.lf, h.lb, h.li, Nat.le_trans h.lw hb.size, h.cb, h.ci, (hb.cell (p := ⟨x.fb, x.fo + 3, none⟩) h.lf).trans h.f3, (hb.cell (p := ⟨bb, bo, none⟩) h.lb).trans h.b0, (hb.cell (p := ⟨bb, bo + 1, none⟩) h.lb).trans h.e0, (hb.cell (p := ⟨bb, bo + 6, none⟩) h.lb).trans h.e5,
    (hb.cell (p := ⟨ib, io, none⟩) h.li).trans h.i0, (hb.cell (p := ⟨ib, io + 1, none⟩) h.li).trans h.i1, (hb.cell (p := ⟨ib, io + 8, none⟩) h.li).trans h.j0, (hb.cell (p := ⟨ib, io + 10, none⟩) h.li).trans h.j2⟩
structure Facts (x : Fx) (v : Int) (wr : World) : Prop where
  c3 : wr.cell? ⟨x.C, 3, none⟩ = some (.slice (some ⟨x.T, 0, none⟩) 1 1)
  t0 : wr.cell? ⟨x.T, 0, none⟩ = some (.int .u32 v)
  tf : wr.frozen? ⟨x.T, 0, none⟩ = false
  lm : x.M < wr.heap.size
  lc : x.C < wr.heap.size
  lt : x.T < wr.heap.size
theorem St.facts {x : Fx} {w wr : World} {rd v : Int} {n : Nat} {steps at_ stop : Int} (h : St x w rd v n steps at_ stop wr) : Facts x v wr := by
  obtain ⟨cc, h4, h5⟩ := h.row
  exact ⟨(cell_of_block h4 h5.c3).1, (cell_of_block h.temp (k := 0) rfl).1, (cell_of_block h.temp (k := 0) rfl).2, h.lm, h.lc, h.lt⟩
set_option maxHeartbeats 4000000 in
set_option maxRecDepth 100000 in
theorem do_getc {x : Fx} {bb bo bc ib io ic : Nat} {w wr : World} {rd v rd' c : Int} {n : Nat} {steps at_ stop : Int} (hmd : Md x bb bo bc ib io ic w) (h : St x w rd v n steps at_ stop wr) (hr : rd = 0 ∧ c = 97 ∧ rd' = 1 ∨ rd = 1 ∧ c = 98 ∧ rd' = 2 ∨ rd = 2 ∧ c = 4294967295 ∧ rd' = 2) :
    Calls Try.prog 59 #[.pointer (some ⟨x.M, 0, none⟩), .pointer (some ⟨x.C, 0, none⟩), .pointer (some ⟨ib, io, none⟩)] wr fun e w' => e = .returned (.tuple #[]) ∧ St x w rd' c n steps at_ stop w' := by
  have hS := Lib.hid h
  have hm := hmd.below h.below
  have hli : ib < wr.heap.size := Nat.lt_of_lt_of_le hm.li hm.lw
  have a0 := hm.i0
  have a1 := hm.i1
  have HMD := Lib.hid hmd
  have HR := Lib.hid (fun (wx : World) (hx : St x w rd v n steps at_ stop wx) => getc_st hx hr)
  obtain ⟨c3, t0, tf, hlm, hlc, hlt⟩ := h.facts
  clear h hm hmd hr
  go_enter Try.func59, Try.ntmps59
  go_wp2
  go_region_with (go_at_call 82; refine (HR.out _ hS.out.drew).mono ?_; rintro e w2 ⟨rfl, h2⟩
                  have hS2 := Lib.hid h2
                  have hm2 := HMD.out.below h2.below
                  have hli2 : ib < w2.heap.size := Nat.lt_of_lt_of_le hm2.li hm2.lw
                  have b0 := hm2.i0
                  have b1 := hm2.i1
                  obtain ⟨d3, u0, uf, klm, klc, klt⟩ := h2.facts
                  clear h2 hm2)
  all_goals
    go_wp2
    go_end0
    exact ⟨rfl, hS2.out.setT _⟩
set_option maxHeartbeats 4000000 in
set_option maxRecDepth 100000 in
theorem do_putc {x : Fx} {bb bo bc ib io ic : Nat} {w wr : World} {rd v c : Int} {n : Nat} {steps at_ stop : Int} (hmd : Md x bb bo bc ib io ic w) (h : St x w rd v n steps at_ stop wr) (hr : v = 97 ∧ c = 97 ∧ n = 0 ∨ v = 98 ∧ c = 98 ∧ n = 1 ∨ v = 4294967295 ∧ c = 255 ∧ n = 2) :
    Calls Try.prog 59 #[.pointer (some ⟨x.M, 0, none⟩), .pointer (some ⟨x.C, 0, none⟩), .pointer (some ⟨ib, io + 8, none⟩)] wr fun e w' => e = .returned (.tuple #[]) ∧ St x w rd v (n + 1) steps at_ stop w' := by
  have hS := Lib.hid h
  have hm := hmd.below h.below
  have hli : ib < wr.heap.size := Nat.lt_of_lt_of_le hm.li hm.lw
  have a0 := hm.j0
  have a1 := hm.j2
  have HR := Lib.hid (fun (wx : World) (hx : St x w rd v n steps at_ stop wx) => writeByte_st hx c (by omega) (by rcases hr with ⟨_, rfl, rfl⟩ | ⟨_, rfl, rfl⟩ | ⟨_, rfl, rfl⟩ <;> rfl))
  obtain ⟨c3, t0, tf, hlm, hlc, hlt⟩ := h.facts
  clear h hm hmd
  rcases hr with ⟨rfl, rfl, hn⟩ | ⟨rfl, rfl, hn⟩ | ⟨rfl, rfl, hn⟩
  all_goals
    have HN := Lib.hid hn
    clear hn
    go_enter Try.func59, Try.ntmps59
    go_wp2
    go_region_with (go_at_call 83; refine (HR.out _ hS.out.drew).mono ?_; rintro e w2 ⟨rfl, h2⟩
                    have hS2 := Lib.hid h2
                    clear h2)
    all_goals
      go_wp2
      go_end0
      exact ⟨rfl, hS2.out⟩
set_option maxHeartbeats 4000000 in
set_option maxRecDepth 100000 in
theorem target_live {x : Fx} {bb bo bc ib io ic : Nat} {w wr : World} {rd v : Int} {n : Nat} {steps at_ stop : Int} (hmd : Md x bb bo bc ib io ic w) (h : St x w rd v n steps at_ stop wr) :
    Calls Try.prog 61 #[.pointer (some ⟨x.M, 0, none⟩), .pointer (some ⟨x.C, 0, none⟩), .pointer (some ⟨bb, bo + 1, none⟩)] wr fun e w' => e = .returned (.int .i64 0) ∧ wr = w' := by
  have hm := hmd.below h.below
  have hlb : bb < wr.heap.size := Nat.lt_of_lt_of_le hm.lb hm.lw
  have a0 := hm.e0
  have a5 := hm.e5
  clear h hm hmd
  go_enter Try.func61, Try.ntmps61
  go_wp2
  go_ret
  exact ⟨rfl, rfl⟩
end Go.Proofs.Ythaombggdchgbaa.Graph
