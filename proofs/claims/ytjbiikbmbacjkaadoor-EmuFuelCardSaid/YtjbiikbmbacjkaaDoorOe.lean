/- What a caller hands over, opened, at a door seat of layer emu. -/
import Derived.Test.YtjbiikbmbacjkaaDoorEzz
import Derived.Test.YtjbiikbmbacjkaaDoorOp
import Derived.Test.YtjbiikbmbacjkaaDoorGK
import Derived.SizedLaws
import Derived.Lib.SmallJoins
namespace Go.Proofs.YtjbiikbmbacjkaaDoor.Emu
open Go.RowKit Go.ChangeShapes Go.WideShapes Go.ChangeAt Go.Proofs.YtjbiikbmbacjkaaDoor.Graph Go.Proofs.YtjbiikbmbacjkaaDoor.Enc Go.Joins

set_option maxRecDepth 1000000 in
theorem laidOut : laidOutB Tryd.prog = true := by kernel_rfl
set_option maxRecDepth 1000000 in
theorem wt_at {H : Type} {ts : List TypeId} {ds : List (DataW H)} (h : (DataW.weightsEach Tryd.prog ts ds).all (· ≤ reachBytes) = true) {j : Nat} {t : TypeId} {d : DataW H} (ht : ts[j]? = some t) (hd : ds[j]? = some d) : Wt t d := fun n hn => by
  simpa using List.all_eq_true.1 h _ (DataW.weights_mem_each ht hd n hn)
section
variable {H : Type} {enc : TypeId × Value → H} {w : World} {base : Nat} {sp : Nat → Bool} {held : Bool}
set_option maxRecDepth 1000000 in
theorem int_in {fuel : Nat} {c : Value} {y : DataW H × List MemPlace} (h : DataW.trod enc Tryd.prog w base sp held fuel 3 [c] = some y) : ∃ x, c = .int .i64 x ∧ inR x := by
  cases fuel with
  | zero => simp [DataW.trod] at h
  | succ fuel =>
    cases c <;> simp [DataW.trod, Tryd.underlying3] at h
    obtain ⟨⟨rfl, h1⟩, _⟩ := h
    exact ⟨_, rfl, bounds_i64 h1⟩
set_option maxRecDepth 1000000 in
theorem ints_at_ {fuel : Nat} {cs : List Value} {y : DataW H × List MemPlace} (h : DataW.trod enc Tryd.prog w base sp held fuel 23 cs = some y) (hw : Wt 23 y.1) : ∃ v l, cs = [v] ∧ IntsR w v l ∧ l.length * 8 ≤ reachBytes ∧ ∀ x ∈ l, inR x := by
  obtain ⟨v, n, rfl, hs, hby⟩ := open_sl Tryd.underlying23 cells_i64 (by kernel_rfl : Tryd.prog.bytesOf 3 = 8) (by decide) h hw
  rcases hs with ⟨rfl, p, c, rfl⟩ | ⟨b, o, c, rfl, h1, h2, h3, h4⟩
  · exact ⟨_, [], rfl, .inl ⟨rfl, p, c, rfl⟩, by simp, by simp⟩
  · obtain ⟨l, hl, hr⟩ := choose_list (R := fun i (x : Int) => w.cell? ⟨b, o + i * 1, none⟩ = some (.int .i64 x) ∧ inR x) (n := n) (fun i hi => by
      obtain ⟨ecs, g1, g2, m, z, g3, _⟩ := h4 i hi
      match ecs, g1 with
      | [c0], _ =>
        obtain ⟨x, rfl, hx⟩ := int_in g3
        exact ⟨x, by simpa using g2 0 (by omega), hx⟩)
    exact ⟨_, l, rfl, .inr ⟨b, o, c, by rw [hl], by omega, by omega, h3, fun i _ x hx => (hr i x hx).1⟩, by rw [hl]; exact hby, fun x hx => by
      obtain ⟨i, hi⟩ := List.mem_iff_getElem?.1 hx
      exact (hr i x hi).2⟩
set_option maxRecDepth 1000000 in
theorem words_at_ {fuel : Nat} {cs : List Value} {y : DataW H × List MemPlace} (h : DataW.trod enc Tryd.prog w base sp held fuel 22 cs = some y) (hw : Wt 22 y.1) : ∃ v l, cs = [v] ∧ WordsR w v l ∧ l.length * 4 ≤ reachBytes ∧ ∀ x ∈ l, 0 ≤ x ∧ x ≤ 4294967295 := by
  obtain ⟨v, n, rfl, hs, hby⟩ := open_sl Tryd.underlying22 cells_u32 (by kernel_rfl : Tryd.prog.bytesOf 27 = 4) (by decide) h hw
  rcases hs with ⟨rfl, p, c, rfl⟩ | ⟨b, o, c, rfl, h1, h2, h3, h4⟩
  · exact ⟨_, [], rfl, .inl ⟨rfl, p, c, rfl⟩, by simp, by simp⟩
  · obtain ⟨l, hl, hr⟩ := choose_list (R := fun i (x : Int) => w.cell? ⟨b, o + i * 1, none⟩ = some (.int .u32 x) ∧ (0 ≤ x ∧ x ≤ 4294967295)) (n := n) (fun i hi => by
      obtain ⟨ecs, g1, g2, m, z, g3, _⟩ := h4 i hi
      match ecs, g1 with
      | [c0], _ =>
        obtain ⟨x, rfl, hx⟩ := u32_of g3
        exact ⟨x, by simpa using g2 0 (by omega), hx⟩)
    exact ⟨_, l, rfl, .inr ⟨b, o, c, by rw [hl], by omega, by omega, h3, fun i _ x hx => (hr i x hx).1⟩, by rw [hl]; exact hby, fun x hx => by
      obtain ⟨i, hi⟩ := List.mem_iff_getElem?.1 hx
      exact (hr i x hi).2⟩
set_option maxRecDepth 1000000 in
theorem ints_in {r : Reach} {b0 : Nat} {v : Value} {d : DataW H} {p : List MemPlace} (hv : Value.okWide Tryd.prog w r b0 23 v) (h : DataW.Trod enc Tryd.prog w base sp held 23 v d p) (hw : Wt 23 d) :
    ∃ l, IntsR w v l ∧ l.length * 8 ≤ reachBytes ∧ ∀ x ∈ l, inR x := by
  obtain ⟨fuel, hf⟩ := h
  obtain ⟨v', l, hv', hl, hs, hn⟩ := ints_at_ hf hw
  obtain ⟨ap, an, ac, rfl⟩ := okWide_slice Tryd.underlying23 hv
  obtain rfl : (Value.slice ap an ac) = v' := by simpa [Value.cells] using hv'
  exact ⟨l, hl, hs, hn⟩
set_option maxRecDepth 1000000 in
theorem words_in {r : Reach} {b0 : Nat} {v : Value} {d : DataW H} {p : List MemPlace} (hv : Value.okWide Tryd.prog w r b0 22 v) (h : DataW.Trod enc Tryd.prog w base sp held 22 v d p) (hw : Wt 22 d) :
    ∃ l, WordsR w v l ∧ l.length * 4 ≤ reachBytes ∧ ∀ x ∈ l, 0 ≤ x ∧ x ≤ 4294967295 := by
  obtain ⟨fuel, hf⟩ := h
  obtain ⟨v', l, hv', hl, hs, hn⟩ := words_at_ hf hw
  obtain ⟨ap, an, ac, rfl⟩ := okWide_slice Tryd.underlying22 hv
  obtain rfl : (Value.slice ap an ac) = v' := by simpa [Value.cells] using hv'
  exact ⟨l, hl, hs, hn⟩
set_option maxRecDepth 1000000 in
theorem cells_img : Tryd.prog.cellsOf 25 = 4 := by kernel_rfl
set_option maxRecDepth 1000000 in
theorem image_in {r : Reach} {b0 : Nat} {v : Value} {d : DataW H} {p : List MemPlace} (hv : Value.okWide Tryd.prog w r b0 25 v) (h : DataW.Trod enc Tryd.prog w base sp held 25 v d p) (hw : Wt 25 d) :
    ∃ m vw vk vd, v = .agg #[vw, vk, vd, .int .i64 m.entry] ∧ ImgR w m vw vk vd ∧ SmI m := by
  obtain ⟨v0, v1, v2, v3, y0, y1, y2, y3, n, rfl, rfl, rfl, h0, h1, h2, h3⟩ := open_agg4 Tryd.underlying25 (by kernel_rfl) cells_img hv h
  have w0 : Wt 22 y0.1 := wt_part Tryd.underlying25 hw (j := 0) rfl rfl
  have w1 : Wt 23 y1.1 := wt_part Tryd.underlying25 hw (j := 1) rfl rfl
  have w2 : Wt 22 y2.1 := wt_part Tryd.underlying25 hw (j := 2) rfl rfl
  obtain ⟨x0, l0, e0, r0, s0, t0⟩ := words_at_ h0 w0
  obtain ⟨x1, l1, e1, r1, s1, _⟩ := ints_at_ h1 w1
  obtain ⟨x2, l2, e2, r2, s2, t2⟩ := words_at_ h2 w2
  obtain ⟨x3, rfl, r3⟩ := int_in h3
  injection e0 with e0 _
  injection e1 with e1 _
  injection e2 with e2 _
  subst e0 e1 e2
  unfold reachBytes at s0 s1 s2
  exact ⟨⟨l0, l1, l2, x3⟩, _, _, _, rfl, ⟨r0, r1, r2⟩, ⟨t0, t2, r3, by simp only; omega, by simp only; omega, by simp only; omega⟩⟩
end
end Go.Proofs.YtjbiikbmbacjkaaDoor.Emu
