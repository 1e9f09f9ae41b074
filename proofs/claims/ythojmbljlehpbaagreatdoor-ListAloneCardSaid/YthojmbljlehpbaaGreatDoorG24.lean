/- Words put into a line, one by one. No condition but sizes. -/
import Derived.Test.YthojmbljlehpbaaGreatDoorG23
namespace Go.Proofs.YthojmbljlehpbaaGreatDoor.Lists
open Go.RowKit Go.Proofs.YthojmbljlehpbaaGreatDoor.Relax Go.Proofs.YthojmbljlehpbaaGreatDoor.Graph
open Go.Lib hiding intOf
open Go.Proofs.YthojmbljlehpbaaGreatDoor.Enc hiding below_one bt ret_bool

def flCs (f : Fl) (vl : Value) : Array Value := #[.int .i64 f.line.op, .int .i64 f.line.a, .int .i64 f.line.b, .int .i64 f.line.imm, .int .u32 f.line.n, .int .i64 f.line.label, vl, .int .i64 (f.regs : Int)]
/-- A line that is filled, as it lies. -/
structure FlR (B fb : Nat) (w : World) (f : Fl) (vl : Value) : Prop where
  box : w.heap[fb]? = some (.cells (flCs f vl) 170 (0, 0))
  row : w.ownsRow B 3 1 vl f.line.list.length (f.line.list.map fun x => Value.int .i64 x)
  hB : B ≤ fb
theorem set_otherL {w : World} {b k i : Nat} {v : Value} (h : i ≠ b) : (w.setCell ⟨b, k, none⟩ v).heap[i]? = w.heap[i]? := Below.heap_setCell w ⟨b, k, none⟩ v i h
theorem own_ne_box {w : World} {B fb : Nat} {e T : TypeId} {v : Value} {n : Nat} {xs : List Value} {cs : Array Value} (h : w.ownsRow B e 1 v n xs) (hb : w.heap[fb]? = some (.cells cs T (0, 0))) (hT : T ≠ e) (q : Nat) (hq : v.ownBlock = some q) : q ≠ fb := by
  intro e2
  subst e2
  obtain ⟨_, ⟨rfl, _⟩ | ⟨g, cap, cur, rfl, _, hg, _⟩⟩ := h
  · cases hq
  · injection hq with hq
    simp only at hq
    subst hq
    rw [hb] at hg
    injection hg with hg
    injection hg with _ hg _
    exact hT hg
theorem FlR.lt {B fb : Nat} {w : World} {f : Fl} {vl : Value} (h : FlR B fb w f vl) : fb < w.heap.size := (Array.getElem?_eq_some_iff.1 h.box).1
theorem FlR.cells {B fb : Nat} {w : World} {f : Fl} {vl : Value} (h : FlR B fb w f vl) :
    (w.cell? ⟨fb, 0, none⟩ = some (.int .i64 f.line.op) ∧ w.cell? ⟨fb, 1, none⟩ = some (.int .i64 f.line.a) ∧ w.cell? ⟨fb, 2, none⟩ = some (.int .i64 f.line.b) ∧ w.cell? ⟨fb, 3, none⟩ = some (.int .i64 f.line.imm) ∧ w.cell? ⟨fb, 4, none⟩ = some (.int .u32 f.line.n) ∧ w.cell? ⟨fb, 5, none⟩ = some (.int .i64 f.line.label) ∧ w.cell? ⟨fb, 6, none⟩ = some vl ∧ w.cell? ⟨fb, 7, none⟩ = some (.int .i64 (f.regs : Int))) ∧ ∀ k, w.frozen? ⟨fb, k, none⟩ = false :=
  ⟨⟨cell_of_block h.box rfl, cell_of_block h.box rfl, cell_of_block h.box rfl, cell_of_block h.box rfl, cell_of_block h.box rfl, cell_of_block h.box rfl, cell_of_block h.box rfl, cell_of_block h.box rfl⟩, fun k => by simp [World.frozen?, h.box]⟩
/-- A cell of the line is turned, not the list's. -/
theorem FlR.set {B fb : Nat} {w : World} {f f' : Fl} {vl : Value} (h : FlR B fb w f vl) (k : Nat) (u : Value) (hl : f'.line.list = f.line.list) (hc : (flCs f vl).setIfInBounds k u = flCs f' vl) : FlR B fb (w.setCell ⟨fb, k, none⟩ u) f' vl :=
  ⟨by rw [heap_setCell_same w fb k _ _ _ h.box, hc], by
    rw [hl]
    exact own_keep h.row (fun q hq => set_otherL (own_ne_box h.row h.box (by decide) q hq)), h.hB⟩
def PutPost (B fb : Nat) (f : Fl) (w : World) (e : Ending) (w' : World) : Prop := e = .returned (.tuple #[]) ∧ ∃ vl, FlR B fb w' f vl ∧ Below B w w'
def regW (f : Fl) (n : Int) : Fl := { line := (if f.regs = 0 then { f.line with a := n } else if f.regs = 1 then { f.line with b := n } else if f.regs = 2 then { f.line with imm := n } else f.line), regs := f.regs + 1 }
def numW (f : Fl) (n : Int) : Fl := if f.line.op = 2 then { f with line := { f.line with n := n % 4294967296 } } else { f with line := { f.line with imm := n } }
def labW (f : Fl) (n : Int) : Fl := if f.line.op = 42 then { f with line := { f.line with list := f.line.list ++ [n] } } else { f with line := { f.line with label := n } }
set_option maxHeartbeats 8000000 in
set_option maxRecDepth 100000 in
theorem register_any (B fb : Nat) (f : Fl) (vl : Value) (w : World) (h : FlR B fb w f vl) (n : Int) (hr : f.regs ≤ 999) : Calls Tryz.prog 146 #[.pointer (some ⟨fb, 0, none⟩), .int .i64 n] w (PutPost B fb (regW f n) w) := by
  have HF := Lib.hid h
  obtain ⟨⟨y0, y1, y2, y3, y4, y5, y6, y7⟩, fz⟩ := h.cells
  have hlt := h.lt
  have hB := h.hB
  clear h
  obtain ⟨⟨op, a, b, imm, nn, label, list⟩, regs⟩ := f
  simp only at y0 y1 y2 y3 y4 y5 y7 hr
  have hr9 : (regs : Int) ≤ 1000 := by omega
  have r0 : (0 : Int) ≤ regs := by omega
  have hw : IntKind.i64.wrap ((regs : Int) + 1) = regs + 1 := IntWalk.i64_in _ (by omega)
  have f0 := fz 0
  have f1 := fz 1
  have f2 := fz 2
  have f3 := fz 3
  have f7 := fz 7
  by_cases h0 : regs = 0
  · have HQ := Lib.hid ((HF.out.set (f' := ⟨⟨op, n, b, imm, nn, label, list⟩, regs⟩) 1 (.int .i64 n) rfl rfl).set (f' := ⟨⟨op, n, b, imm, nn, label, list⟩, regs + 1⟩) 7 (.int .i64 ((regs : Int) + 1)) rfl rfl)
    have e0 : ((regs : Int) == 0) = true := by simp [h0]
    have HE : Hid (regW ⟨⟨op, a, b, imm, nn, label, list⟩, regs⟩ n = ⟨⟨op, n, b, imm, nn, label, list⟩, regs + 1⟩) := Lib.hid (by unfold regW; simp [h0])
    clear h0 fz
    go_enter Tryz.func146, Tryz.ntmps146
    go_wp2
    go_end0
    rw [HE.out]
    exact ⟨rfl, _, HQ.out, ((Below.refl B w).setCell (p := ⟨fb, 1, none⟩) hB _).setCell (p := ⟨fb, 7, none⟩) hB _⟩
  · have e0 : ((regs : Int) == 0) = false := by simp [h0]
    by_cases h1 : regs = 1
    · have HQ := Lib.hid ((HF.out.set (f' := ⟨⟨op, a, n, imm, nn, label, list⟩, regs⟩) 2 (.int .i64 n) rfl rfl).set (f' := ⟨⟨op, a, n, imm, nn, label, list⟩, regs + 1⟩) 7 (.int .i64 ((regs : Int) + 1)) rfl rfl)
      have e1 : ((regs : Int) == 1) = true := by simp [h1]
      have HE : Hid (regW ⟨⟨op, a, b, imm, nn, label, list⟩, regs⟩ n = ⟨⟨op, a, n, imm, nn, label, list⟩, regs + 1⟩) := Lib.hid (by unfold regW; simp [h1])
      clear h0 h1 fz
      go_enter Tryz.func146, Tryz.ntmps146
      go_wp2
      go_end0
      rw [HE.out]
      exact ⟨rfl, _, HQ.out, ((Below.refl B w).setCell (p := ⟨fb, 2, none⟩) hB _).setCell (p := ⟨fb, 7, none⟩) hB _⟩
    · have e1 : ((regs : Int) == 1) = false := by simp; omega
      by_cases h2 : regs = 2
      · have HQ := Lib.hid ((HF.out.set (f' := ⟨⟨op, a, b, n, nn, label, list⟩, regs⟩) 3 (.int .i64 n) rfl rfl).set (f' := ⟨⟨op, a, b, n, nn, label, list⟩, regs + 1⟩) 7 (.int .i64 ((regs : Int) + 1)) rfl rfl)
        have e2 : ((regs : Int) == 2) = true := by simp [h2]
        have HE : Hid (regW ⟨⟨op, a, b, imm, nn, label, list⟩, regs⟩ n = ⟨⟨op, a, b, n, nn, label, list⟩, regs + 1⟩) := Lib.hid (by unfold regW; simp [h2])
        clear h0 h1 h2 fz
        go_enter Tryz.func146, Tryz.ntmps146
        go_wp2
        go_end0
        rw [HE.out]
        exact ⟨rfl, _, HQ.out, ((Below.refl B w).setCell (p := ⟨fb, 3, none⟩) hB _).setCell (p := ⟨fb, 7, none⟩) hB _⟩
      · have HQ := Lib.hid (HF.out.set (f' := ⟨⟨op, a, b, imm, nn, label, list⟩, regs + 1⟩) 7 (.int .i64 ((regs : Int) + 1)) rfl rfl)
        have e2 : ((regs : Int) == 2) = false := by simp; omega
        have HE : Hid (regW ⟨⟨op, a, b, imm, nn, label, list⟩, regs⟩ n = ⟨⟨op, a, b, imm, nn, label, list⟩, regs + 1⟩) := Lib.hid (by unfold regW; simp [h0, h1, h2])
        clear h0 h1 h2 fz
        go_enter Tryz.func146, Tryz.ntmps146
        go_wp2
        go_end0
        rw [HE.out]
        exact ⟨rfl, _, HQ.out, (Below.refl B w).setCell (p := ⟨fb, 7, none⟩) hB _⟩
set_option maxHeartbeats 8000000 in
set_option maxRecDepth 100000 in
theorem number_any (B fb : Nat) (f : Fl) (vl : Value) (w : World) (h : FlR B fb w f vl) (n : Int) : Calls Tryz.prog 147 #[.pointer (some ⟨fb, 0, none⟩), .int .i64 n] w (PutPost B fb (numW f n) w) := by
  have HF := Lib.hid h
  obtain ⟨⟨y0, y1, y2, y3, y4, y5, y6, y7⟩, fz⟩ := h.cells
  have hlt := h.lt
  have hB := h.hB
  clear h
  obtain ⟨⟨op, a, b, imm, nn, label, list⟩, regs⟩ := f
  simp only at y0 y1 y2 y3 y4 y5 y7
  have f4 := fz 4
  have f3 := fz 3
  by_cases h0 : op = 2
  · have e0 : (op == 2) = true := by simp [h0]
    have HE : Hid (numW ⟨⟨op, a, b, imm, nn, label, list⟩, regs⟩ n = ⟨⟨op, a, b, imm, IntKind.u32.wrap n, label, list⟩, regs⟩) := Lib.hid (by unfold numW; rw [if_pos h0, IntKind.wrap_u32])
    have HQ := Lib.hid (HF.out.set (f' := ⟨⟨op, a, b, imm, IntKind.u32.wrap n, label, list⟩, regs⟩) 4 (.int .u32 (IntKind.u32.wrap n)) rfl rfl)
    clear h0 fz
    go_enter Tryz.func147, Tryz.ntmps147
    go_wp2
    go_end0
    rw [HE.out]
    exact ⟨rfl, _, HQ.out, (Below.refl B w).setCell (p := ⟨fb, 4, none⟩) hB _⟩
  · have e0 : (op == 2) = false := by simp [h0]
    have HE : Hid (numW ⟨⟨op, a, b, imm, nn, label, list⟩, regs⟩ n = ⟨⟨op, a, b, n, nn, label, list⟩, regs⟩) := Lib.hid (by unfold numW; rw [if_neg h0])
    have HQ := Lib.hid (HF.out.set (f' := ⟨⟨op, a, b, n, nn, label, list⟩, regs⟩) 3 (.int .i64 n) rfl rfl)
    clear h0 fz
    go_enter Tryz.func147, Tryz.ntmps147
    go_wp2
    go_end0
    rw [HE.out]
    exact ⟨rfl, _, HQ.out, (Below.refl B w).setCell (p := ⟨fb, 3, none⟩) hB _⟩
set_option maxHeartbeats 8000000 in
set_option maxRecDepth 100000 in
theorem label_any (B fb : Nat) (f : Fl) (vl : Value) (w : World) (h : FlR B fb w f vl) (n : Int) (hr : f.line.list.length ≤ 1000) : Calls Tryz.prog 148 #[.pointer (some ⟨fb, 0, none⟩), .int .i64 n] w (PutPost B fb (labW f n) w) := by
  have HF := Lib.hid h
  obtain ⟨⟨y0, y1, y2, y3, y4, y5, y6, y7⟩, fz⟩ := h.cells
  have hlt := h.lt
  have hB := h.hB
  clear h
  obtain ⟨⟨op, a, b, imm, nn, label, list⟩, regs⟩ := f
  simp only at y0 y1 y2 y3 y4 y5 y7 hr
  have f6 := fz 6
  have f5 := fz 5
  by_cases h0 : op = 42
  · have e0 : (op == 42) = true := by simp [h0]
    have HE : Hid (labW ⟨⟨op, a, b, imm, nn, label, list⟩, regs⟩ n = ⟨⟨op, a, b, imm, nn, label, list ++ [n]⟩, regs⟩) := Lib.hid (by unfold labW; rw [if_pos h0])
    obtain ⟨i0, HI, hz0, hz1, hz2⟩ := info_parts info_int
    have HOW := Lib.hid HF.out.row
    have HLN := Lib.hid hr
    have HBL := Lib.hid (Nat.le_trans hB (Nat.le_of_lt hlt))
    clear h0 fz hr
    go_enter Tryz.func148, Tryz.ntmps148
    go_wp2_with (
      at_builtin
      refine wpList_append_lies _ (by rfl) _ _ 35 (by rfl) B 3 i0 _ 1 8 Tryz.underlying35 HI hz0 hz1 hz2 rfl (by omega) vl list.length _ (by rfl) (row_below HOW.out (below_one w _)) ⟨w.heap.size, 0, none⟩ 1 1 [iv n] (by rfl) rfl (news_one rfl) (by simp [iv, Value.oneCell']) (by omega) (by unfold maxLen; have := HLN.out; omega) (by have := HLN.out; omega) (by have := HBL.out; simp; omega) _ rfl ?_
      intro g5 c5 w5 h5 h6 _ _
      have H5 := Lib.hid h5
      have HB5 := Lib.hid (Below.grown ((Below.refl B w).alloc HBL.out _) h6 (by have := HBL.out; simp; omega) (fun q hq => (HOW.out.lt q hq).1))
      have HX5 : Hid (w5.heap[fb]? = some (.cells (flCs ⟨⟨op, a, b, imm, nn, label, list⟩, regs⟩ vl) 170 (0, 0))) := Lib.hid ((h6.block fb (by simp; omega) (fun e => own_ne_box HOW.out HF.out.box (by decide) fb e.symm rfl)).trans ((Below.heap_alloc w _ fb hlt).trans HF.out.box))
      have hx5 := HX5.out
      have z6 : w5.cell? ⟨fb, 6, none⟩ = some vl := cell_of_block hx5 rfl
      have fz6 : w5.frozen? ⟨fb, 6, none⟩ = false := by simp [World.frozen?, hx5]
      have hl5 : fb < w5.heap.size := (Array.getElem?_eq_some_iff.1 hx5).1
      clear h5 h6 hx5)
    go_end0
    rw [HE.out]
    refine ⟨rfl, .slice (some ⟨g5, 0, none⟩) (list.length + 1) c5, ⟨?_, ?_, hB⟩, HB5.out.setCell (p := ⟨fb, 6, none⟩) hB _⟩
    · rw [heap_setCell_same w5 fb 6 _ _ _ HX5.out]; rfl
    · have h5 := H5.out
      have e1 : (list ++ [n]).length = list.length + 1 := by simp
      rw [e1, List.map_append]
      exact own_keep h5 (fun q hq => set_otherL (own_ne_box h5 HX5.out (by decide) q hq))
  · have e0 : (op == 42) = false := by simp [h0]
    have HE : Hid (labW ⟨⟨op, a, b, imm, nn, label, list⟩, regs⟩ n = ⟨⟨op, a, b, imm, nn, n, list⟩, regs⟩) := Lib.hid (by unfold labW; rw [if_neg h0])
    have HQ := Lib.hid (HF.out.set (f' := ⟨⟨op, a, b, imm, nn, n, list⟩, regs⟩) 5 (.int .i64 n) rfl rfl)
    clear h0 fz hr
    go_enter Tryz.func148, Tryz.ntmps148
    go_wp2
    go_end0
    rw [HE.out]
    exact ⟨rfl, _, HQ.out, (Below.refl B w).setCell (p := ⟨fb, 5, none⟩) hB _⟩
end Go.Proofs.YthojmbljlehpbaaGreatDoor.Lists
