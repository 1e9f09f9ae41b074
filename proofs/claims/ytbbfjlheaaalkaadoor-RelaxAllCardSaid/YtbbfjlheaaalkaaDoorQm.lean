/- Lines that a caller hands over, opened. -/
import Derived.Test.YtbbfjlheaaalkaaDoorOp
import Derived.Test.YtbbfjlheaaalkaaDoorQe
namespace Go.Proofs.YtbbfjlheaaalkaaDoor.Relax
open Go.RowKit Go.ChangeShapes Go.Proofs.YtbbfjlheaaalkaaDoor.Graph Go.Proofs.YtbbfjlheaaalkaaDoor.Enc
section
variable {H : Type} {enc : TypeId × Value → H} {w : World} {base : Nat} {sp : Nat → Bool} {held : Bool} {fuel : Nat} {cs : List Value} {y : DataW H × List MemPlace}
theorem cells_lineS : Tryd.prog.cellsOf 22 = 1 := by kernel_rfl
theorem cells_line : Tryd.prog.cellsOf 39 = 7 := by kernel_rfl
theorem line_of {c0 c1 c2 c3 c4 c5 c6 : Value} (h : DataW.trod enc Tryd.prog w base sp held fuel 39 [c0, c1, c2, c3, c4, c5, c6] = some y) (hw : Wt 39 y.1) :
    ∃ (x : PL) (v : Value), c0 = .int .i64 x.op ∧ c1 = .int .i64 x.a ∧ c2 = .int .i64 x.b ∧ c3 = .int .i64 x.imm ∧ c4 = .int .u32 x.n ∧ c5 = .int .i64 x.label ∧ c6 = v ∧ IntsR w v x.list ∧ x.list.length * 8 ≤ reachBytes ∧ (0 ≤ x.n ∧ x.n ≤ 4294967295) := by
  obtain ⟨xs, n, _, rfl, _, hlen, hf⟩ := DataW.trod_struct Tryd.underlying39 h
  obtain ⟨y0, y1, y2, y3, y4, y5, y6, rfl⟩ : ∃ y0 y1 y2 y3 y4 y5 y6, xs = [y0, y1, y2, y3, y4, y5, y6] := by
    clear hw hf
    match xs, hlen with
    | [y0, y1, y2, y3, y4, y5, y6], _ => exact ⟨y0, y1, y2, y3, y4, y5, y6, rfl⟩
  have e0 : DataW.trod enc Tryd.prog w base sp held n 3 ((([c0, c1, c2, c3, c4, c5, c6] : List Value).drop 0).take (Tryd.prog.cellsOf 3)) = some y0 := hf 0 _ rfl
  rw [cells_i64] at e0
  have e1 : DataW.trod enc Tryd.prog w base sp held n 3 ((([c0, c1, c2, c3, c4, c5, c6] : List Value).drop 1).take (Tryd.prog.cellsOf 3)) = some y1 := hf 1 _ rfl
  rw [cells_i64] at e1
  have e2 : DataW.trod enc Tryd.prog w base sp held n 3 ((([c0, c1, c2, c3, c4, c5, c6] : List Value).drop 2).take (Tryd.prog.cellsOf 3)) = some y2 := hf 2 _ rfl
  rw [cells_i64] at e2
  have e3 : DataW.trod enc Tryd.prog w base sp held n 3 ((([c0, c1, c2, c3, c4, c5, c6] : List Value).drop 3).take (Tryd.prog.cellsOf 3)) = some y3 := hf 3 _ rfl
  rw [cells_i64] at e3
  have e4 : DataW.trod enc Tryd.prog w base sp held n 37 ((([c0, c1, c2, c3, c4, c5, c6] : List Value).drop 4).take (Tryd.prog.cellsOf 37)) = some y4 := hf 4 _ rfl
  rw [cells_u32] at e4
  have e5 : DataW.trod enc Tryd.prog w base sp held n 3 ((([c0, c1, c2, c3, c4, c5, c6] : List Value).drop 5).take (Tryd.prog.cellsOf 3)) = some y5 := hf 5 _ rfl
  rw [cells_i64] at e5
  have e6 : DataW.trod enc Tryd.prog w base sp held n 25 ((([c0, c1, c2, c3, c4, c5, c6] : List Value).drop 6).take (Tryd.prog.cellsOf 25)) = some y6 := hf 6 _ rfl
  rw [cells_ints] at e6
  have w6 : Wt 25 y6.1 := wt_part Tryd.underlying39 hw (j := 6) rfl rfl
  obtain ⟨x0, rfl⟩ := int_of (c := c0) e0
  obtain ⟨x1, rfl⟩ := int_of (c := c1) e1
  obtain ⟨x2, rfl⟩ := int_of (c := c2) e2
  obtain ⟨x3, rfl⟩ := int_of (c := c3) e3
  obtain ⟨x4, rfl, wn⟩ := u32_of (c := c4) e4
  obtain ⟨x5, rfl⟩ := int_of (c := c5) e5
  obtain ⟨v6, x6, hv6, hr6, hs6⟩ := ints_of (cs := [c6]) e6 w6
  injection hv6 with hv6 _
  subst hv6
  exact ⟨⟨x0, x1, x2, x3, x4, x5, x6⟩, _, rfl, rfl, rfl, rfl, rfl, rfl, rfl, hr6, hs6, wn⟩
theorem lines_of (h : DataW.trod enc Tryd.prog w base sp held fuel 22 cs = some y) (hw : Wt 22 y.1) : ∃ v l, cs = [v] ∧ LinesR w v l ∧ SmL l ∧ ∀ x ∈ l, 0 ≤ x.n ∧ x.n ≤ 4294967295 := by
  obtain ⟨v, n, rfl, hs, hby⟩ := open_sl Tryd.underlying22 cells_line (by kernel_rfl : Tryd.prog.bytesOf 39 = 72) (by decide) h hw
  rcases hs with ⟨rfl, p, c, rfl⟩ | ⟨b, o, c, rfl, h1, h2, h3, h4⟩
  · exact ⟨_, [], rfl, .inl ⟨rfl, p, c, rfl⟩, ⟨by simp, by simp⟩, by simp⟩
  · obtain ⟨l, hl, hr⟩ := choose_list (R := fun i (x : PL) => (∃ v, LineR w b (o + i * 7) x v) ∧ x.list.length * 8 ≤ reachBytes ∧ (0 ≤ x.n ∧ x.n ≤ 4294967295)) (n := n) (fun i hi => by
      obtain ⟨ecs, g1, g2, m, z, g3, gw⟩ := h4 i hi
      match ecs, g1 with
      | [c0, c1, c2, c3, c4, c5, c6], _ =>
        obtain ⟨x, v, rfl, rfl, rfl, rfl, rfl, rfl, rfl, hl, hsm, hn⟩ := line_of g3 gw
        exact ⟨x, ⟨_, by simpa using g2 0 (by omega), by simpa using g2 1 (by omega), by simpa using g2 2 (by omega), by simpa using g2 3 (by omega), by simpa using g2 4 (by omega), by simpa using g2 5 (by omega), by simpa using g2 6 (by omega), hl⟩, hsm, hn⟩)
    exact ⟨_, l, rfl, .inr ⟨b, o, c, by rw [hl], by omega, by omega, h3, fun i _ x hx => (hr i x hx).1⟩, ⟨by rw [hl]; unfold reachBytes at hby; omega, fun x hx => by
      obtain ⟨i, hi⟩ := List.mem_iff_getElem?.1 hx
      have := (hr i x hi).2.1
      unfold reachBytes at this; omega⟩, fun x hx => by
      obtain ⟨i, hi⟩ := List.mem_iff_getElem?.1 hx
      exact (hr i x hi).2.2⟩
end
end Go.Proofs.YtbbfjlheaaalkaaDoor.Relax
