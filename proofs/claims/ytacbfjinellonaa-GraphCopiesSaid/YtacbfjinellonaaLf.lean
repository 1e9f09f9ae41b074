/- The document's copyGraph, at any graph. -/
import Derived.Test.YtacbfjinellonaaLe
namespace Go.Proofs.Ytacbfjinellonaa.Graph
open Go.RowKit

theorem info_arr : (Try.prog.info? 82).map (fun i => (i.zero, i.size, i.bytes)) = some (some (.agg #[.int .i64 0, .int .i64 0]), 2, 16) := by kernel_rfl
theorem info_case : (Try.prog.info? 76).map (fun i => (i.zero, i.size, i.bytes)) = some (some (.agg #[.int .u32 0, .int .i64 0]), 2, 16) := by kernel_rfl
theorem info_ins : (Try.prog.info? 70).map (fun i => (i.zero, i.size, i.bytes)) = some (some (.agg #[.int .i64 0, .int .i64 0, .int .i64 0, .int .i64 0, .int .i64 0, .int .u32 0, .slice none 0 0, .slice none 0 0]), 8, 96) := by kernel_rfl
theorem mem_arrs {l : List PArr} : ∀ u ∈ arrCs l, u.oneCell' = true := by
  intro u hu
  obtain ⟨j, hj⟩ := List.mem_iff_getElem?.1 hu
  obtain ⟨i, x, _, ⟨_, rfl⟩ | ⟨_, rfl⟩⟩ := arrCs_get hj <;> rfl
theorem news_arrs {w : World} {g o : Nat} {l : List PArr} {c : Nat} (h : ArrsR w (.slice (some ⟨g, o, none⟩) l.length c) l) : ∀ j u, (arrCs l)[j]? = some u → w.cell? ((⟨g, o, none⟩ : Addr).add j) = some u := fun j u hj => by
  obtain ⟨i, x, hx, hor⟩ := arrCs_get hj
  have hil : i < l.length := by
    rcases Nat.lt_or_ge i l.length with h | h
    · exact h
    · rw [List.getElem?_eq_none h] at hx; cases hx
  obtain ⟨h1, h2⟩ := (SlR.at_ h hil).1 x hx
  rw [add_none]
  rcases hor with ⟨rfl, rfl⟩ | ⟨rfl, rfl⟩
  · exact h1
  · rw [← Nat.add_assoc]; exact h2
theorem arrs_of_own {w : World} {B : Nat} {p : Option Addr} {c : Nat} {l : List PArr} (h : w.ownsRow B 82 2 (.slice p l.length c) l.length (arrCs l)) (h0 : 0 < l.length) : ArrsR (cutW (New B w) w) (.slice p l.length c) l := by
  obtain ⟨g, cap, hv, h1, h2, h3, h4⟩ := row_cells h h0
  obtain ⟨_, ⟨_, h5⟩ | ⟨g', cap', cur, hv', hB, hg, _⟩⟩ := h
  · omega
  · rw [hv] at hv' ⊢
    injection hv' with e1
    injection e1 with e1
    injection e1 with e1
    subst e1
    refine .inr ⟨g, 0, cap, rfl, h0, ⟨h1, h2⟩, by rw [cutW_size]; exact h3, fun i hi x hx => ?_⟩
    obtain ⟨y1, y2⟩ := arrCs_at hx
    rw [Nat.zero_add]
    exact ⟨cutW_cell.2 ⟨⟨hB, _, _, hg⟩, h4 _ _ (by simpa using y1)⟩, cutW_cell.2 ⟨⟨hB, _, _, hg⟩, h4 _ _ (by simpa using y2)⟩⟩
theorem mem_cases {l : List PCase} : ∀ u ∈ caseCs l, u.oneCell' = true := by
  intro u hu
  obtain ⟨j, hj⟩ := List.mem_iff_getElem?.1 hu
  obtain ⟨i, x, _, ⟨_, rfl⟩ | ⟨_, rfl⟩⟩ := caseCs_get hj <;> rfl
theorem news_cases {w : World} {g o : Nat} {l : List PCase} {c : Nat} (h : CasesR w (.slice (some ⟨g, o, none⟩) l.length c) l) : ∀ j u, (caseCs l)[j]? = some u → w.cell? ((⟨g, o, none⟩ : Addr).add j) = some u := fun j u hj => by
  obtain ⟨i, x, hx, hor⟩ := caseCs_get hj
  have hil : i < l.length := by
    rcases Nat.lt_or_ge i l.length with h | h
    · exact h
    · rw [List.getElem?_eq_none h] at hx; cases hx
  obtain ⟨h1, h2⟩ := (SlR.at_ h hil).1 x hx
  rw [add_none]
  rcases hor with ⟨rfl, rfl⟩ | ⟨rfl, rfl⟩
  · exact h1
  · rw [← Nat.add_assoc]; exact h2
theorem cases_of_own {w : World} {B : Nat} {p : Option Addr} {c : Nat} {l : List PCase} (h : w.ownsRow B 76 2 (.slice p l.length c) l.length (caseCs l)) (h0 : 0 < l.length) : CasesR (cutW (New B w) w) (.slice p l.length c) l := by
  obtain ⟨g, cap, hv, h1, h2, h3, h4⟩ := row_cells h h0
  obtain ⟨_, ⟨_, h5⟩ | ⟨g', cap', cur, hv', hB, hg, _⟩⟩ := h
  · omega
  · rw [hv] at hv' ⊢
    injection hv' with e1
    injection e1 with e1
    injection e1 with e1
    subst e1
    refine .inr ⟨g, 0, cap, rfl, h0, ⟨h1, h2⟩, by rw [cutW_size]; exact h3, fun i hi x hx => ?_⟩
    obtain ⟨y1, y2⟩ := caseCs_at hx
    rw [Nat.zero_add]
    exact ⟨cutW_cell.2 ⟨⟨hB, _, _, hg⟩, h4 _ _ (by simpa using y1)⟩, cutW_cell.2 ⟨⟨hB, _, _, hg⟩, h4 _ _ (by simpa using y2)⟩⟩
theorem step_append_nil0 {P : Program} {w : World} {ops : Array Oper} {o : Oper} {a : Act} {K : Act → World → Prop} {Q : Exit → Act → World → Prop} {E : Prop} (hgd : o.guard = none) (d s : Operand) (t : TypeId)
    (ho : o.op = .call { callee := .builtin .append, args := #[d, s], argTypes := #[t, t] }) (e : TypeId) (size : Nat) (hu : P.underlying t = some (.slice e)) (hs : (P.info? e).map (·.size) = some size)
    (c : Nat) (p : Option Addr) (hd : a.eval d = .slice none 0 0) (hx : a.eval s = .slice p 0 c)
    (h : K (a.put o.dst (.slice none 0 0)) w) : if Region.wanted o (yielded ops a.tmps) = true then Oper.wp P o a w K Q else E := by
  have hw : Region.wanted o (yielded ops a.tmps) = true := by simp [Region.wanted, hgd]
  rw [if_pos hw]
  have hrun := run_append_nil0 (P := P) w t e o.type size hu hs c p
  unfold Oper.wp
  simp [execOp, ho, resolve, invoke, builtin, hd, hx, hrun, Result.andThen]
  exact h
theorem InB.cell5 {bk : PBlk} {wk w4 w5 : World} {g5 : Nat} {G : Nat → Prop} {kq cq tq : Option Addr} {kc cc tc i : Nat} (h : InB bk wk g5 G kq cq tq kc cc tc i w4) {xs : List Value} (h1 : w4.ownsRow (g5 + 1) 70 8 (.slice kq i kc) i xs) (h4 : w4.grownBy w5 (Value.slice kq i kc).ownBlock) : w5.heap[g5]? = w4.heap[g5]? := by
  have hown : ∀ b, (Value.slice kq i kc).ownBlock = some b → g5 + 1 ≤ b := fun b e => by
    obtain ⟨_, ⟨e2, _⟩ | ⟨g', cap', cur', e2, h6, _⟩⟩ := h1
    · rw [e2] at e; cases e
    · rw [e2] at e; injection e with e; have e3 : g' = b := e; omega
  exact h4.block g5 (lt_of_block h.cell) (fun e => by have := hown g5 e.symm; omega)
/-- The block's own lists are there: its end. -/
theorem InB.start {bk : PBlk} {wk w5 wa wb we : World} {g5 : Nat} {v0 v8 v9 : Value} {cq tq : Option Addr} {cc tc : Nat} (h5 : Below wk.heap.size wk w5) (hg : g5 = wk.heap.size) (hs : w5.heap.size = g5 + 1) (hc : w5.heap[g5]? = some (.cells #[.slice none 0 0, .int .i64 bk.fin.kind, .int .i64 bk.fin.op, .int .i64 bk.fin.a, .int .i64 bk.fin.b, .int .u32 bk.fin.n, .int .i64 bk.fin.to, .int .i64 bk.fin.els, v8, v9] 50 (0, 0)))
    (hb : Below w5.heap.size w5 wa) (hl : IntsR (cutW (New w5.heap.size wa) wa) (.slice tq bk.fin.targets.length tc) bk.fin.targets) (hw : (wa.setCell ⟨g5, 9, none⟩ (.slice tq bk.fin.targets.length tc)).setCell ⟨g5, 8, none⟩ v0 = wb)
    (hb2 : Below wb.heap.size wb we) (hl2 : CasesR (cutW (New wb.heap.size we) we) (.slice cq bk.fin.cases.length cc) bk.fin.cases) (hn : 0 ≤ bk.fin.n ∧ bk.fin.n ≤ 4294967295) :
    ∃ G, InB bk wk g5 G none cq tq 0 cc tc 0 (we.setCell ⟨g5, 8, none⟩ (.slice cq bk.fin.cases.length cc)) := by
  have k1 := (hb.block g5 (by omega)).trans hc
  have k2 := heap_setCell_same wa g5 9 _ _ (.slice tq bk.fin.targets.length tc) k1
  have k3 := heap_setCell_same (wa.setCell ⟨g5, 9, none⟩ (.slice tq bk.fin.targets.length tc)) g5 8 _ _ v0 k2
  have gb1 : w5.grownBy ((wa.setCell ⟨g5, 9, none⟩ (.slice tq bk.fin.targets.length tc)).setCell ⟨g5, 8, none⟩ v0) (some g5) := grown_step (grown_step (World.grownBy.refl w5 (some g5)) hb) (Below.refl _ _)
  have hsz : ((wa.setCell ⟨g5, 9, none⟩ (.slice tq bk.fin.targets.length tc)).setCell ⟨g5, 8, none⟩ v0).heap.size = wa.heap.size := by simp
  have oth1 : ∀ b, b ≠ g5 → ((wa.setCell ⟨g5, 9, none⟩ (.slice tq bk.fin.targets.length tc)).setCell ⟨g5, 8, none⟩ v0).heap[b]? = wa.heap[b]? := fun b hne => by
    rw [heap_setCell_other (wa.setCell ⟨g5, 9, none⟩ _) ⟨g5, 8, none⟩ b _ (fun e => hne e), heap_setCell_other wa ⟨g5, 9, none⟩ b _ (fun e => hne e)]
  rw [hw] at k3 gb1 hsz oth1
  clear hw k2
  have hsa := hb.size
  have hsb := hb2.size
  have k4 := (hb2.block g5 (lt_of_block k3)).trans k3
  have k5 := heap_setCell_same we g5 8 _ _ (.slice cq bk.fin.cases.length cc) k4
  have gb2 : w5.grownBy (we.setCell ⟨g5, 8, none⟩ (.slice cq bk.fin.cases.length cc)) (some g5) := grown_trans gb1 (grown_step (World.grownBy.refl wb (some g5)) hb2)
  have hse : (we.setCell ⟨g5, 8, none⟩ (.slice cq bk.fin.cases.length cc)).heap.size = we.heap.size := by simp
  have oth2 : ∀ b, b ≠ g5 → (we.setCell ⟨g5, 8, none⟩ (.slice cq bk.fin.cases.length cc)).heap[b]? = we.heap[b]? := fun b hne => heap_setCell_other we ⟨g5, 8, none⟩ b _ (fun e => hne e)
  have e1 : ∀ b, b ≠ g5 → b < wa.heap.size → (we.setCell ⟨g5, 8, none⟩ (.slice cq bk.fin.cases.length cc)).heap[b]? = wa.heap[b]? := fun b h1 h2 => by rw [oth2 b h1, hb2.block b (by omega), oth1 b h1]
  refine ⟨fun b => g5 + 1 ≤ b ∧ b < we.heap.size ∧ Unf we b, ?_, ?_, ⟨?_, ?_, hn⟩, k5⟩
  · subst hg
    exact Below.grown h5 gb2 (by omega) (fun k hk => by injection hk with hk; omega)
  · exact RowIn.nil _ _ _ _ _ (fun b h => h.1) (fun b h => by rw [hse]; exact h.2.1) (fun b h => unf_keep h.2.2 (oth2 b (by have := h.1; omega)))
  · refine CasesR.holds (cut_to (by omega) fun b hb3 hn2 => ?_) hl2
    have hne : b ≠ g5 := by have := hn2.1; omega
    exact ⟨⟨by have := hn2.1; omega, hb3, hn2.2⟩, oth2 b hne⟩
  · refine IntsR.holds (cut_to (by omega) fun b hb3 hn2 => ?_) hl
    have hne : b ≠ g5 := by have := hn2.1; omega
    have e2 : we.heap[b]? = wa.heap[b]? := by rw [hb2.block b (by omega), oth1 b hne]
    exact ⟨⟨by have := hn2.1; omega, by omega, unf_keep hn2.2 e2⟩, e1 b hne hb3⟩
end Go.Proofs.Ytacbfjinellonaa.Graph
