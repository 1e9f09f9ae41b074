/- What leads elsewhere: calls and returns among it. No condition. -/
import Derived.Test.YtjbiikbmbacjkaaDoorBk
import Derived.Deep.AppendLies
import Derived.Deep.RegionLaw
import Derived.RegionDies
namespace Go.Proofs.YtjbiikbmbacjkaaDoor.Emu
open Go.RowKit Go.Proofs.YtjbiikbmbacjkaaDoor.Enc Go.Proofs.YtjbiikbmbacjkaaDoor.Graph

theorem one_newsE {w : World} {b : Nat} {u : Value} (h : w.cell? ⟨b, 0, none⟩ = some u) : ∀ (j : Nat) y, ([u] : List Value)[j]? = some y → w.cell? (Addr.add ⟨b, 0, none⟩ j) = some y := by
  intro j y hj
  match j, hj with
  | 0, hj => simp at hj; subst hj; simpa [Addr.add] using h
/-- One cell appended to a row of one's own: where the row lies then. -/
theorem append_cell {w : World} {ops : Array Oper} {rest : List Oper} {o : Oper} {a : Act} {Q : Exit → Act → World → Prop} (hgd : o.guard = none) (s x : Operand) (t e : TypeId) (z : Value) (by_ : Nat)
    (ho : o.op = .call { callee := .builtin .append, args := #[s, x], argTypes := #[t, t] }) (ht : Tryd.prog.underlying t = some (.slice e)) (hinfo : (Tryd.prog.info? e).map (fun i => (i.zero, i.size, i.bytes)) = some (some z, 1, by_)) (hz : z.cells.size = 1) (hby : 1 ≤ by_ ∧ by_ ≤ 8)
    (B : Nat) (v : Value) (n : Nat) (ys : List Value) (hs : a.eval s = v) (hown : w.ownsRow B e 1 v n ys) (hB : B ≤ w.heap.size) (u : Value) (h1 : u.oneCell' = true) (b c : Nat) (hx : a.eval x = .slice (some ⟨b, 0, none⟩) 1 c) (hnews : w.cell? ⟨b, 0, none⟩ = some u) (hn : n ≤ 1000000)
    (h : ∀ g cap w', w'.ownsRow B e 1 (.slice (some ⟨g, 0, none⟩) (n + 1) cap) (n + 1) (ys ++ [u]) → w.grownBy w' v.ownBlock → (v.ownBlock = some g ∨ g = w.heap.size) → wpList Tryd.prog ops Q rest (a.put o.dst (.slice (some ⟨g, 0, none⟩) (n + 1) cap)) w') : wpList Tryd.prog ops Q (o :: rest) a w := by
  obtain ⟨i0, HI, hz0, hz1, hz2⟩ := info_parts hinfo
  have hm : (n + 1) * by_ ≤ (n + 1) * 8 := Nat.mul_le_mul_left _ hby.2
  refine wpList_append_lies w hgd s x t ho B e i0 z 1 by_ ht HI hz0 hz1 hz2 hz (by omega) v n ys hs hown ⟨b, 0, none⟩ 1 c [u] hx rfl (one_newsE hnews) (fun y hy => by rw [List.mem_singleton.1 hy]; exact h1) (by omega) (by unfold maxLen; omega) (by omega) hB _ rfl ?_
  intro g cap w' h5 h6 h7 _
  exact h g cap w' h5 h6 h7
theorem add0 (g n : Nat) : Addr.add ⟨g, 0, none⟩ n = ⟨g, n, none⟩ := by
  simp only [Addr.add, Nat.zero_add]
  split <;> simp_all
theorem info_intE : (Tryd.prog.info? 3).map (fun i => (i.zero, i.size, i.bytes)) = some (some (.int .i64 0), 1, 8) := by kernel_rfl
section
variable {x : Fz} {E : Env} {wk : Nat → Value} {w w' w1 w2 : World} {m : M} {ad buf back : Value} {pg : Nat → Option Nat}
theorem St.push (h : St x E wk w w1 m ad buf back pg) (hb : w1.grownBy w2 back.ownBlock) {back' : Value} {p : Int} (hn : w2.ownsRow x.N 3 1 back' (m.calls.length + 1) ((m.calls.map fun p => .int .i64 p) ++ [.int .i64 p])) (hgn : ∀ g, back'.ownBlock = some g → back.ownBlock = some g ∨ w1.heap.size ≤ g) :
    St x E wk w (w2.setCell ⟨x.bm, 18, none⟩ back') { m with calls := m.calls ++ [p] } ad buf back' pg := by
  obtain ⟨cs, k1, k2⟩ := h.mach
  obtain ⟨ls, k3, k4⟩ := h.list
  have hnb : ∀ b, b < x.N → some b ≠ back.ownBlock := fun b hb e => by have := (h.backR.lt b e.symm).1; omega
  have hz : x.Z ≤ w1.heap.size := Nat.le_trans h.ok.zb (Nat.le_of_lt h.lm)
  have hzN : x.Z ≤ x.N := Nat.le_trans h.ok.zb (Nat.le_of_lt h.ok.bn)
  have hsz := hb.size
  have hne : ∀ b, b ≠ x.bm → (w2.setCell ⟨x.bm, 18, none⟩ back').heap[b]? = w2.heap[b]? := fun b hb => heap_setCell_other w2 ⟨x.bm, 18, none⟩ b back' hb
  have hlt : ∀ g, back'.ownBlock = some g → x.N ≤ g := fun g hg => (hn.lt g hg).1
  refine ⟨h.ok, (h.below.grown hb hz (fun k hk => Nat.le_trans hzN (h.backR.lt k hk).1)).setCell (p := ⟨x.bm, 18, none⟩) h.ok.zb _, by simpa using Nat.le_trans h.size hsz, ⟨_, heap_setCell_same w2 x.bm 18 _ _ _ ((hb.block x.bm h.lm (hnb _ h.ok.bn)).trans k1), k2.put 18 _ rfl (fun j hj hn => by unfold cellOf Fz.mv; simp only [hn, if_false])⟩, h.words, h.wz,
    ⟨ls, (hne _ h.ok.bl.symm).trans ((hb.block x.lb h.llb (hnb _ h.ok.ln)).trans k3), k4⟩, ?_, ?_, ?_, h.ads, ?_, ?_, h.nul, (hne _ h.ok.pb).trans ((hb.block x.pb h.lpb (hnb _ h.ok.pn)).trans h.box), h.pzb⟩
  · refine h.mem.same ((hne _ h.ok.bm.symm).trans (hb.block x.mm h.lmm (hnb _ h.ok.mn))) (fun i g hi hg => (hne g (h.pz i g hi hg).2.1).trans (hb.block g (h.mem.lt hi hg) (fun e => (h.pz i g hi hg).2.2.2.1 e.symm)))
  · show World.ownsRow _ x.N _ 1 back' (m.calls ++ [p]).length ((m.calls ++ [p]).map _)
    rw [List.length_append, List.map_append]
    exact own_same hn (fun b hb2 => hne b (by have := hlt b hb2; have := h.ok.bn; omega))
  · refine own_same h.bufR (fun b hb2 => (hne b (by have := (h.bufR.lt b hb2).1; have := h.ok.bn; omega)).trans (hb.block b (h.bufR.lt b hb2).2 (fun e => h.bb b e.symm hb2)))
  · intro g hg hg2
    rcases hgn g hg with h1 | h1
    · exact h.bb g h1 hg2
    · have := (h.bufR.lt g hg2).2; omega
  · intro i g hi hg
    obtain ⟨p1, p2, p3, p4, p5⟩ := h.pz i g hi hg
    refine ⟨p1, p2, p3, fun e => ?_, p5⟩
    rcases hgn g e with h1 | h1
    · exact p4 h1
    · have := h.mem.lt hi hg; omega
theorem St.backForm (h : St x E wk w w' m ad buf back pg) : ∃ p c, back = .slice p m.calls.length c := by
  rcases h.backR.2 with ⟨rfl, h0⟩ | ⟨g, cap, cur, rfl, _⟩
  · exact ⟨none, 0, by rw [h0]⟩
  · exact ⟨_, _, rfl⟩
/-- The last place to come back to, and the row without it. -/
theorem St.top (h : St x E wk w w' m ad buf back pg) {l : List Int} {p : Int} (hm : m.calls = l ++ [p]) : ∃ g c, back = .slice (some ⟨g, 0, none⟩) (l.length + 1) c ∧ l.length + 1 ≤ c ∧ w'.cell? ⟨g, l.length, none⟩ = some (.int .i64 p) ∧ g ≠ x.bm ∧
    St x E wk w (w'.setCell ⟨x.bm, 18, none⟩ (.slice (some ⟨g, 0, none⟩) l.length c)) { m with calls := l } ad buf (.slice (some ⟨g, 0, none⟩) l.length c) pg := by
  have hR := h.backR
  rw [hm] at hR
  simp only [List.length_append, List.length_cons, List.length_nil, Nat.zero_add, List.map_append, List.map_cons, List.map_nil] at hR
  rcases hR.2 with ⟨_, h0⟩ | ⟨g, cap, cur, hv, hNg, hbg, hnc, hcm, hcs, htake⟩
  · omega
  have hcell := hR.cells (g := g) (by rw [hv]; rfl) l.length (.int .i64 p) (by simp)
  have hgm : g ≠ x.bm := by have := h.ok.bn; omega
  refine ⟨g, cap, hv, hnc, by rw [add0] at hcell; exact hcell, hgm, ?_⟩
  have hob : back.ownBlock = some g := by rw [hv]; rfl
  obtain ⟨cs, k1, k2⟩ := h.mach
  obtain ⟨ls, k3, k4⟩ := h.list
  have hne : ∀ b, b ≠ x.bm → (w'.setCell ⟨x.bm, 18, none⟩ (.slice (some ⟨g, 0, none⟩) l.length cap)).heap[b]? = w'.heap[b]? := fun b hb => heap_setCell_other w' ⟨x.bm, 18, none⟩ b _ hb
  refine ⟨h.ok, h.below.setCell (p := ⟨x.bm, 18, none⟩) h.ok.zb _, by simpa using h.size, ⟨_, heap_setCell_same w' x.bm 18 _ _ _ k1, k2.put 18 _ rfl (fun j hj hn => by unfold cellOf Fz.mv; simp only [hn, if_false])⟩, h.words, h.wz, ⟨ls, (hne _ h.ok.bl.symm).trans k3, k4⟩, ?_, ?_, ?_, h.ads, ?_, ?_, h.nul, (hne _ h.ok.pb).trans h.box, h.pzb⟩
  · exact h.mem.same (hne _ h.ok.bm.symm) (fun i g hi hg => hne g (h.pz i g hi hg).2.1)
  · show World.ownsRow _ x.N _ 1 (.slice (some ⟨g, 0, none⟩) l.length cap) l.length (l.map fun p => .int .i64 p)
    have h1 := congrArg (List.take (l.length * 1)) htake
    rw [List.take_take, Nat.min_eq_left (by omega), Nat.mul_one, List.take_append_of_le_length (by simp), List.take_of_length_le (l := l.map _) (by simp)] at h1
    exact ⟨by simp, .inr ⟨g, cap, cur, rfl, hNg, (hne g hgm).trans hbg, by omega, hcm, hcs, by rw [Nat.mul_one]; exact h1⟩⟩
  · exact own_same h.bufR (fun b hb => hne b (by have := (h.bufR.lt b hb).1; have := h.ok.bn; omega))
  · intro b hb; exact h.bb b (by rw [hob]; exact hb)
  · intro i g' hi hg
    obtain ⟨p1, p2, p3, p4, p5⟩ := h.pz i g' hi hg
    exact ⟨p1, p2, p3, fun e => p4 (by rw [hob]; exact e), p5⟩
set_option maxHeartbeats 4000000 in
set_option maxRecDepth 100000 in
theorem jump40 (h : St x E wk w w' m ad buf back pg) (h0 : m.stop = 0) (hp : near40 m.place) (a b imm : Int) (hi : -32768 ≤ imm ∧ imm ≤ 32767) :
    Calls Tryd.prog 78 #[.pointer (some ⟨x.bm, 0, none⟩), iV ⟨40, a, b, imm⟩] w' (DoPost x E wk w m (doStep E m ⟨40, a, b, imm⟩) False) := by
  have hmo : doStep E m ⟨40, a, b, imm⟩ = { m with place := m.place + imm } := by simp [doStep, plainStep, goesStep, followsP]
  rw [hmo]
  have HP := Lib.hid (fun (e : Ending) (w2 : World) (he : e = .returned (.tuple #[]) ∧ St x E wk w w2 { m with place := m.place + imm } ad buf back pg) => DoPost.ok (m := m) (T := False) h0 he.1 he.2 rfl)
  obtain ⟨c19, f19⟩ := h.cell (k := 19) (by decide)
  change _ = some (Value.int .i64 m.place) at c19
  have hlm := h.lm
  have HS := Lib.hid (h.setPlace (m.place + imm))
  obtain ⟨p0, p1⟩ := hp
  obtain ⟨i0, i1⟩ := hi
  clear h hmo
  generalize m.place = p at *
  refine Calls.mono ?_ HP.out
  go_enter Tryd.func78, Tryd.ntmps78
  go_wp2
  go_region
  all_goals
    go_wp2
    go_end0
    refine ⟨rfl, ?_⟩
    repeat' first | exact HS.out | apply St.alloc | apply St.drew
set_option maxHeartbeats 4000000 in
set_option maxRecDepth 100000 in
theorem jump41 (h : St x E wk w w' m ad buf back pg) (h0 : m.stop = 0) (hE : EnvOk E) (hp : 0 ≤ m.place ∧ m.place ≤ 65536) (a b imm : Int) :
    Calls Tryd.prog 78 #[.pointer (some ⟨x.bm, 0, none⟩), iV ⟨41, a, b, imm⟩] w' (DoPost x E wk w m (doStep E m ⟨41, a, b, imm⟩) False) := by
  have hmo : doStep E m ⟨41, a, b, imm⟩ = match wordAt E m.place with | none => trap m 5 | some v => { m with place := v } := by simp [doStep, plainStep, goesStep, followsP]; cases wordAt E m.place <;> rfl
  rw [hmo]
  have HH := Lib.hid h
  by_cases hlt : 0 ≤ m.place ∧ m.place < E.words.length
  · rw [wordAt_some hlt]
    have HB := Lib.hid (fun o => behind_ok (h.alloc o) hE.len hlt)
    have hv : isW (E.words.getD m.place.toNat 0) := isW_getD hE.words _
    have HC := Lib.hid (fun (w1 : World) (h1 : St x E wk w w1 { m with place := m.place + 1 } ad buf back pg) => (show w1.cell? ⟨x.bm, 19, none⟩ = some (.int .i64 (m.place + 1)) ∧ w1.frozen? ⟨x.bm, 19, none⟩ = false from h1.cell (k := 19) (by decide)))
    have HS := Lib.hid (fun (w1 : World) (h1 : St x E wk w w1 { m with place := m.place + 1 } ad buf back pg) => h1.setPlace (E.words.getD m.place.toNat 0))
    have HP := Lib.hid (fun (e : Ending) (w2 : World) (he : e = .returned (.tuple #[]) ∧ St x E wk w w2 { m with place := E.words.getD m.place.toNat 0 } ad buf back pg) => DoPost.ok (m := m) (T := False) h0 he.1 he.2 rfl)
    obtain ⟨v0, v1⟩ := hv
    generalize E.words.getD m.place.toNat 0 = v at *
    clear h hmo hlt hp
    generalize m.place = p at *
    refine Calls.mono ?_ HP.out
    go_enter Tryd.func78, Tryd.ntmps78
    go_wp2_with (go_at_call 73; refine (HB.out _).mono ?_; rintro e w1 ⟨rfl, h1⟩; obtain ⟨c19, f19⟩ := HC.out w1 h1; have hlm := h1.lm; have H1 := Lib.hid h1; clear h1)
    go_end0
    exact ⟨rfl, HS.out _ H1.out⟩
  · rw [wordAt_none hlt]
    have HB := Lib.hid (fun o => behind_no (h.alloc o) hE.len ⟨by omega, by omega⟩ hlt)
    have HP := Lib.hid (fun (e : Ending) (w2 : World) (he : e = thrown 5 ∧ St x E wk w w2 m ad buf back pg) => DoPost.trap (T := False) (m := m) (m2 := m) (fun h => h) he.1 rfl rfl he.2)
    clear h hmo hlt
    refine Calls.mono ?_ HP.out
    go_enter Tryd.func78, Tryd.ntmps78
    go_wp2_with (go_at_call 73; refine (HB.out _).mono ?_; rintro e w1 ⟨rfl, hw2⟩; have hw3 := hw2.symm; clear hw2; subst hw3)
    exact ⟨rfl, rfl, HH.out.alloc _⟩
set_option maxHeartbeats 4000000 in
set_option maxRecDepth 100000 in
theorem jump42 (h : St x E wk w w' m ad buf back pg) (h0 : m.stop = 0) (hI : Inv m) (hE : EnvOk E) (hp : 0 ≤ m.place ∧ m.place ≤ 65536) (a : Nat) (b imm : Int) (ha : a < 12) :
    Calls Tryd.prog 78 #[.pointer (some ⟨x.bm, 0, none⟩), iV ⟨42, a, b, imm⟩] w' (DoPost x E wk w m (doStep E m ⟨42, a, b, imm⟩) False) := by
  have hmo : doStep E m ⟨42, a, b, imm⟩ = tableP E m (reg m a) := by simp [doStep, plainStep, goesStep, followsP, tableP]; cases wordAt E m.place <;> rfl
  rw [hmo]
  have hv := hI.reg a
  have HT := Lib.hid (fun (w1 : World) (h1 : Below w'.heap.size w' w1) => table_prog (h.go h1) h0 hE hp (reg m a) hv)
  obtain ⟨ca, fa⟩ := h.cell (k := 2 + a) (by omega)
  rw [cellOf_reg _ ha] at ca
  change _ = some (Value.int .u32 (reg m a)) at ca
  have hlm := h.lm
  obtain ⟨v0, v1⟩ := hv
  have HI := Lib.hid hI
  have ha2 : (a : Int) < 12 := by omega
  clear h hmo hI
  generalize reg m a = v at *
  by_cases hc : (tableP E m v).stop ≠ 2 ∨ False
  · have HTW := Lib.hid (fun (w1 : World) (h1 : Below w'.heap.size w' w1) => (HT.out w1 h1).mono (fun e w2 hd => hd.went hc))
    have HP := Lib.hid (fun (e : Ending) (w2 : World) he => DoPost.of_went (x := x) (E := E) (wk := wk) (w := w) (w2 := w2) (e := e) (m := m) hc he)
    clear HT hc
    generalize tableP E m v = mo at *
    refine Calls.mono ?_ HP.out
    go_enter Tryd.func78, Tryd.ntmps78
    go_wp2
    go_region_law (first | ((try go_simp); go_at_call 104; refine (HTW.out _ (below_one _ _).drew).mono ?_; rintro e w3 ⟨rfl, h3⟩; have H3 := Lib.hid h3; clear h3))
    all_goals
      go_wp2
      go_end0
      exact ⟨rfl, H3.out⟩
  · have HTF := Lib.hid (fun (w1 : World) (h1 : Below w'.heap.size w' w1) => (HT.out w1 h1).mono (fun e w2 hd => hd.fell hc))
    have HP := Lib.hid (fun (e : Ending) (w2 : World) he => DoPost.of_fell (x := x) (E := E) (wk := wk) (w := w) (w2 := w2) (e := e) (m := m) hc he)
    clear HT hc
    generalize tableP E m v = mo at *
    refine Calls.mono ?_ HP.out
    go_enter Tryd.func78, Tryd.ntmps78
    go_wp2
    go_region_dies
    all_goals
      (try go_simp)
      trace_state
      go_at_call 104
      refine (HTF.out _ (below_one _ _).drew).mono ?_
      rintro e w3 ⟨rfl, h3⟩
      exact ⟨rfl, rfl, h3⟩
end
end Go.Proofs.YtjbiikbmbacjkaaDoor.Emu
