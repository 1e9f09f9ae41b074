/- A module that a caller hands over, opened: whatever reads as a module lies as one. -/
import Derived.Test.YtcijaaiopfbffaaDoorMp
import Derived.Test.YtcijaaiopfbffaaDoorProg
import Derived.OpenShut
import Derived.ProofKit
import Derived.SizedLaws
namespace Go.Proofs.YtcijaaiopfbffaaDoor.Graph
open Go.RowKit Go.ChangeShapes

theorem choose_list {α : Type} : ∀ {n : Nat} {R : Nat → α → Prop}, (∀ i, i < n → ∃ x, R i x) → ∃ l : List α, l.length = n ∧ ∀ i x, l[i]? = some x → R i x := by
  intro n
  induction n with
  | zero => intro R _; exact ⟨[], rfl, fun i x h => by simp at h⟩
  | succ n ih =>
    intro R h
    obtain ⟨l, h1, h2⟩ := ih (R := R) (fun i hi => h i (by omega))
    obtain ⟨x, hx⟩ := h n (by omega)
    refine ⟨l ++ [x], by simp [h1], fun i y hy => ?_⟩
    rcases Nat.lt_or_ge i l.length with h3 | h3
    · rw [List.getElem?_append_left h3] at hy; exact h2 i y hy
    · rw [List.getElem?_append_right h3] at hy
      have h4 : i - l.length = 0 := by
        rcases Nat.eq_zero_or_pos (i - l.length) with h | h
        · exact h
        · rw [List.getElem?_eq_none (by simp; omega)] at hy; cases hy
      rw [h4] at hy
      simp at hy
      subst hy
      have : i = n := by omega
      subst this
      exact hx
/-- Nothing that a datum holds weighs more than there may be. -/
def Wt {H : Type} (t : TypeId) (d : DataW H) : Prop := ∀ n ∈ DataW.weights Tryd.prog t d, n ≤ reachBytes
def SmC (_ : PCase) : Prop := True
def SmA (_ : PArr) : Prop := True
/-- How long an instruction's lists may be; and so on. -/
def SmI (x : PIns) : Prop := x.args.length * 8 ≤ reachBytes ∧ x.arrs.length * 8 ≤ reachBytes
def SmE (x : PEnd) : Prop := x.cases.length * 16 ≤ reachBytes ∧ x.targets.length * 8 ≤ reachBytes
def SmB (x : PBlk) : Prop := x.code.length * 96 ≤ reachBytes ∧ (∀ i ∈ x.code, SmI i) ∧ SmE x.fin
def SmG (x : PGr) : Prop := x.params.length * 8 ≤ reachBytes ∧ x.arrays.length * 16 ≤ reachBytes ∧ x.blocks.length * 128 ≤ reachBytes ∧ ∀ b ∈ x.blocks, SmB b
def SmM (x : PMod) : Prop := x.globals.length * 4 ≤ reachBytes ∧ x.arrays.length * 8 ≤ reachBytes ∧ x.funcs.length * 80 ≤ reachBytes ∧ ∀ g ∈ x.funcs, SmG g
theorem wt_part {H : Type} {t : TypeId} {fs : Array Field} (hu : Tryd.prog.underlying t = some (.struct fs)) {parts : List (DataW H)} (hw : Wt t (.agg parts)) {j : Nat} {ti : TypeId} {d : DataW H} (ht : (fs.toList.map (·.type))[j]? = some ti) (hd : parts[j]? = some d) : Wt ti d := fun n hn =>
  hw n (by simp only [DataW.weights, hu]; exact DataW.weights_mem_each ht hd n hn)
theorem mem_all {H : Type} {e : TypeId} : ∀ {l : List (DataW H)} {d : DataW H}, d ∈ l → ∀ n ∈ d.weights Tryd.prog e, n ∈ DataW.weightsAll Tryd.prog e l
  | _ :: _, _, .head _, n, hn => by simp only [DataW.weightsAll, List.mem_append]; exact .inl hn
  | _ :: _, _, .tail _ h, n, hn => by simp only [DataW.weightsAll, List.mem_append]; exact .inr (mem_all h n hn)
section
variable {H : Type} {enc : TypeId × Value → H} {w : World} {base : Nat} {sp : Nat → Bool} {held : Bool} {fuel : Nat} {cs : List Value} {y : DataW H × List MemPlace}

theorem mapM_cells {a : Addr} {n : Nat} {ecs : List Value} (h : (List.range n).mapM (fun i => w.cell? (a.add i)) = some ecs) : ecs.length = n ∧ ∀ j, j < n → w.cell? (a.add j) = ecs[j]? := by
  refine ⟨by simpa using mapM_some_length h, fun j hj => ?_⟩
  exact mapM_some_get h j j (by simp [hj])
/-- A slice, opened. -/
theorem open_sl {t e : TypeId} {sz by_ : Nat} (ht : Tryd.prog.underlying t = some (.slice e)) (hc : Tryd.prog.cellsOf e = sz) (hby : Tryd.prog.bytesOf e = by_) (hsz : 0 < sz) (h : DataW.trod enc Tryd.prog w base sp held fuel t cs = some y) (hw : Wt t y.1) :
    ∃ v n, cs = [v] ∧ (SlR w sz v n fun _ b o => ∃ ecs : List Value, ecs.length = sz ∧ (∀ j, j < sz → w.cell? ⟨b, o + j, none⟩ = ecs[j]?) ∧ ∃ m z, DataW.trod enc Tryd.prog w base sp held m e ecs = some z ∧ Wt e z.1) ∧ n * by_ ≤ reachBytes := by
  rcases DataW.trod_slice ht h with ⟨rfl, _⟩ | ⟨a, len, cap, elems, rest, m, _, rfl, rfl, _, hlc, hcm, hel, hat, _⟩
  · exact ⟨_, 0, rfl, .inl ⟨rfl, none, 0, rfl⟩, by simp⟩
  · have hwl : ∀ z ∈ elems, Wt e z.1 := fun z hz n hn => hw n (by
      simp only [DataW.weights, ht]
      exact List.mem_cons_of_mem _ (List.mem_append_left _ (mem_all (List.mem_map_of_mem hz) n hn)))
    have hw0 : len * by_ ≤ reachBytes := by
      have h0 := hw (((elems.map (·.1)).length + (rest.map (·.1)).length) * Tryd.prog.bytesOf e) (by simp only [DataW.weights, ht]; exact List.mem_cons_self)
      rw [hby, List.length_map, hel] at h0
      exact Nat.le_trans (Nat.mul_le_mul_right _ (Nat.le_add_right _ _)) h0
    refine ⟨_, len, rfl, ?_, hw0⟩
    rcases Nat.eq_zero_or_pos len with h0 | h0
    · subst h0; exact .inl ⟨rfl, some a, cap, rfl⟩
    · have hone : ∀ i, i < len → ∃ ecs : List Value, ecs.length = sz ∧ (∀ j, j < sz → w.cell? ((a.add (i * sz)).add j) = ecs[j]?) ∧ ∃ z, DataW.trod enc Tryd.prog w base sp held m e ecs = some z ∧ Wt e z.1 := by
        intro i hi
        have h1 := hat i hi
        rw [hc, List.getElem?_eq_getElem (by omega)] at h1
        obtain ⟨ecs, h2, h3⟩ := Option.bind_eq_some_iff.1 h1
        unfold World.cells? at h2
        split at h2
        · obtain ⟨h4, h5⟩ := mapM_cells h2
          exact ⟨ecs, h4, h5, _, h3, hwl _ (List.getElem_mem _)⟩
        · cases h2
      obtain ⟨b, off, spot⟩ := a
      obtain ⟨e0, h4, h5, _⟩ := hone 0 h0
      have h6 := h5 0 hsz
      rw [List.getElem?_eq_getElem (by omega)] at h6
      have hspot : spot = none := by simpa [Addr.add] using World.cell?_spot h6
      subst hspot
      have hlt : b < w.heap.size := by
        have := World.block_lt_of_cell? w _ h6
        simpa [Addr.add] using this
      refine .inr ⟨b, off, cap, rfl, h0, ⟨hlc, hcm⟩, hlt, fun i hi => ?_⟩
      obtain ⟨ecs, h7, h8, z, h9⟩ := hone i hi
      refine ⟨ecs, h7, fun j hj => ?_, m, z, h9⟩
      have := h8 j hj
      rw [Go.WideShapes.add_plain, Go.WideShapes.add_plain] at this
      exact this
theorem cells_i64 : Tryd.prog.cellsOf 3 = 1 := by kernel_rfl
theorem cells_u32 : Tryd.prog.cellsOf 37 = 1 := by kernel_rfl
theorem int_of {c : Value} (h : DataW.trod enc Tryd.prog w base sp held fuel 3 [c] = some y) : ∃ x, c = .int .i64 x := by
  cases fuel with
  | zero => simp [DataW.trod] at h
  | succ fuel =>
    cases c <;> simp [DataW.trod, Tryd.underlying3] at h
    obtain ⟨⟨rfl, _⟩, _⟩ := h
    exact ⟨_, rfl⟩
theorem u32_of {c : Value} (h : DataW.trod enc Tryd.prog w base sp held fuel 37 [c] = some y) : ∃ x, c = .int .u32 x ∧ (0 ≤ x ∧ x ≤ 4294967295) := by
  cases fuel with
  | zero => simp [DataW.trod] at h
  | succ fuel =>
    cases c <;> simp [DataW.trod, Tryd.underlying37] at h
    obtain ⟨⟨rfl, h1⟩, _⟩ := h
    exact ⟨_, rfl, bounds_u32 h1⟩
theorem ints_of (h : DataW.trod enc Tryd.prog w base sp held fuel 22 cs = some y) (hw : Wt 22 y.1) : ∃ v l, cs = [v] ∧ IntsR w v l ∧ l.length * 8 ≤ reachBytes := by
  obtain ⟨v, n, rfl, hs, hby⟩ := open_sl Tryd.underlying22 cells_i64 (by kernel_rfl : Tryd.prog.bytesOf 3 = 8) (by decide) h hw
  rcases hs with ⟨rfl, p, c, rfl⟩ | ⟨b, o, c, rfl, h1, h2, h3, h4⟩
  · exact ⟨_, [], rfl, .inl ⟨rfl, p, c, rfl⟩, by simp⟩
  · obtain ⟨l, hl, hr⟩ := choose_list (R := fun i (x : Int) => w.cell? ⟨b, o + i * 1, none⟩ = some (.int .i64 x)) (n := n) (fun i hi => by
      obtain ⟨ecs, g1, g2, m, z, g3, _⟩ := h4 i hi
      match ecs, g1 with
      | [c0], _ =>
        obtain ⟨x, rfl⟩ := int_of g3
        exact ⟨x, by simpa using g2 0 (by omega)⟩)
    exact ⟨_, l, rfl, .inr ⟨b, o, c, by rw [hl], by omega, by omega, h3, fun i _ x hx => hr i x hx⟩, by rw [hl]; exact hby⟩
theorem words_of (h : DataW.trod enc Tryd.prog w base sp held fuel 60 cs = some y) (hw : Wt 60 y.1) : ∃ v l, cs = [v] ∧ WordsR w v l ∧ l.length * 4 ≤ reachBytes := by
  obtain ⟨v, n, rfl, hs, hby⟩ := open_sl Tryd.underlying60 cells_u32 (by kernel_rfl : Tryd.prog.bytesOf 37 = 4) (by decide) h hw
  rcases hs with ⟨rfl, p, c, rfl⟩ | ⟨b, o, c, rfl, h1, h2, h3, h4⟩
  · exact ⟨_, [], rfl, .inl ⟨rfl, p, c, rfl⟩, by simp⟩
  · obtain ⟨l, hl, hr⟩ := choose_list (R := fun i (x : Int) => w.cell? ⟨b, o + i * 1, none⟩ = some (.int .u32 x)) (n := n) (fun i hi => by
      obtain ⟨ecs, g1, g2, m, z, g3, _⟩ := h4 i hi
      match ecs, g1 with
      | [c0], _ =>
        obtain ⟨x, rfl, _⟩ := u32_of g3
        exact ⟨x, by simpa using g2 0 (by omega)⟩)
    exact ⟨_, l, rfl, .inr ⟨b, o, c, by rw [hl], by omega, by omega, h3, fun i _ x hx => hr i x hx⟩, by rw [hl]; exact hby⟩
/-! GENERATED -/
theorem cells_ints : Tryd.prog.cellsOf 22 = 1 := by kernel_rfl
theorem cells_words : Tryd.prog.cellsOf 60 = 1 := by kernel_rfl
theorem cells_caseS : Tryd.prog.cellsOf 38 = 1 := by kernel_rfl
theorem cells_arrS : Tryd.prog.cellsOf 23 = 1 := by kernel_rfl
theorem cells_insS : Tryd.prog.cellsOf 36 = 1 := by kernel_rfl
theorem cells_blkS : Tryd.prog.cellsOf 24 = 1 := by kernel_rfl
theorem cells_grS : Tryd.prog.cellsOf 61 = 1 := by kernel_rfl
theorem cells_case : Tryd.prog.cellsOf 83 = 2 := by kernel_rfl
theorem cells_arr : Tryd.prog.cellsOf 59 = 2 := by kernel_rfl
theorem cells_ins : Tryd.prog.cellsOf 77 = 8 := by kernel_rfl
theorem cells_end : Tryd.prog.cellsOf 40 = 9 := by kernel_rfl
theorem cells_blk : Tryd.prog.cellsOf 42 = 10 := by kernel_rfl
theorem cells_gr : Tryd.prog.cellsOf 26 = 4 := by kernel_rfl
theorem cells_mod : Tryd.prog.cellsOf 63 = 4 := by kernel_rfl
theorem case_of {c0 c1 : Value} (h : DataW.trod enc Tryd.prog w base sp held fuel 83 [c0, c1] = some y) (hw : Wt 83 y.1) : ∃ x : PCase, c0 = .int .u32 x.n ∧ c1 = .int .i64 x.to ∧ SmC x := by
  obtain ⟨xs, n, _, rfl, _, hlen, hf⟩ := DataW.trod_struct Tryd.underlying83 h
  obtain ⟨y0, y1, rfl⟩ : ∃ y0 y1, xs = [y0, y1] := by
    clear hw hf
    match xs, hlen with
    | [y0, y1], _ => exact ⟨y0, y1, rfl⟩
  have e0 : DataW.trod enc Tryd.prog w base sp held n 37 ((([c0, c1] : List Value).drop 0).take (Tryd.prog.cellsOf 37)) = some y0 := hf 0 _ rfl
  rw [cells_u32] at e0
  have w0 : Wt 37 y0.1 := wt_part Tryd.underlying83 hw (j := 0) rfl rfl
  have e1 : DataW.trod enc Tryd.prog w base sp held n 3 ((([c0, c1] : List Value).drop 1).take (Tryd.prog.cellsOf 3)) = some y1 := hf 1 _ rfl
  rw [cells_i64] at e1
  have w1 : Wt 3 y1.1 := wt_part Tryd.underlying83 hw (j := 1) rfl rfl
  obtain ⟨x0, rfl, wn⟩ := u32_of (c := c0) e0
  obtain ⟨x1, rfl⟩ := int_of (c := c1) e1
  exact ⟨⟨x0, x1⟩, rfl, rfl, trivial⟩
theorem arr_of {c0 c1 : Value} (h : DataW.trod enc Tryd.prog w base sp held fuel 59 [c0, c1] = some y) (hw : Wt 59 y.1) : ∃ x : PArr, c0 = .int .i64 x.kind ∧ c1 = .int .i64 x.n ∧ SmA x := by
  obtain ⟨xs, n, _, rfl, _, hlen, hf⟩ := DataW.trod_struct Tryd.underlying59 h
  obtain ⟨y0, y1, rfl⟩ : ∃ y0 y1, xs = [y0, y1] := by
    clear hw hf
    match xs, hlen with
    | [y0, y1], _ => exact ⟨y0, y1, rfl⟩
  have e0 : DataW.trod enc Tryd.prog w base sp held n 3 ((([c0, c1] : List Value).drop 0).take (Tryd.prog.cellsOf 3)) = some y0 := hf 0 _ rfl
  rw [cells_i64] at e0
  have w0 : Wt 3 y0.1 := wt_part Tryd.underlying59 hw (j := 0) rfl rfl
  have e1 : DataW.trod enc Tryd.prog w base sp held n 3 ((([c0, c1] : List Value).drop 1).take (Tryd.prog.cellsOf 3)) = some y1 := hf 1 _ rfl
  rw [cells_i64] at e1
  have w1 : Wt 3 y1.1 := wt_part Tryd.underlying59 hw (j := 1) rfl rfl
  obtain ⟨x0, rfl⟩ := int_of (c := c0) e0
  obtain ⟨x1, rfl⟩ := int_of (c := c1) e1
  exact ⟨⟨x0, x1⟩, rfl, rfl, trivial⟩
theorem cases_of (h : DataW.trod enc Tryd.prog w base sp held fuel 38 cs = some y) (hw : Wt 38 y.1) : ∃ v l, cs = [v] ∧ CasesR w v l ∧ l.length * 16 ≤ reachBytes ∧ ∀ x ∈ l, SmC x := by
  obtain ⟨v, n, rfl, hs, hby⟩ := open_sl Tryd.underlying38 cells_case (by kernel_rfl : Tryd.prog.bytesOf 83 = 16) (by decide) h hw
  rcases hs with ⟨rfl, p, c, rfl⟩ | ⟨b, o, c, rfl, h1, h2, h3, h4⟩
  · exact ⟨_, [], rfl, .inl ⟨rfl, p, c, rfl⟩, by simp, by simp⟩
  · obtain ⟨l, hl, hr⟩ := choose_list (R := fun i (x : PCase) => (w.cell? ⟨b, o + i * 2, none⟩ = some (.int .u32 x.n) ∧ w.cell? ⟨b, o + i * 2 + 1, none⟩ = some (.int .i64 x.to)) ∧ SmC x) (n := n) (fun i hi => by
      obtain ⟨ecs, g1, g2, m, z, g3, gw⟩ := h4 i hi
      match ecs, g1 with
      | [c0, c1], _ =>
        obtain ⟨x, rfl, rfl, hsm⟩ := case_of g3 gw
        exact ⟨x, ⟨by simpa using g2 0 (by omega), by simpa using g2 1 (by omega)⟩, hsm⟩)
    exact ⟨_, l, rfl, .inr ⟨b, o, c, by rw [hl], by omega, by omega, h3, fun i _ x hx => (hr i x hx).1⟩, by rw [hl]; exact hby, fun x hx => by
      obtain ⟨i, hi⟩ := List.mem_iff_getElem?.1 hx
      exact (hr i x hi).2⟩
theorem arrs_of (h : DataW.trod enc Tryd.prog w base sp held fuel 23 cs = some y) (hw : Wt 23 y.1) : ∃ v l, cs = [v] ∧ ArrsR w v l ∧ l.length * 16 ≤ reachBytes ∧ ∀ x ∈ l, SmA x := by
  obtain ⟨v, n, rfl, hs, hby⟩ := open_sl Tryd.underlying23 cells_arr (by kernel_rfl : Tryd.prog.bytesOf 59 = 16) (by decide) h hw
  rcases hs with ⟨rfl, p, c, rfl⟩ | ⟨b, o, c, rfl, h1, h2, h3, h4⟩
  · exact ⟨_, [], rfl, .inl ⟨rfl, p, c, rfl⟩, by simp, by simp⟩
  · obtain ⟨l, hl, hr⟩ := choose_list (R := fun i (x : PArr) => (w.cell? ⟨b, o + i * 2, none⟩ = some (.int .i64 x.kind) ∧ w.cell? ⟨b, o + i * 2 + 1, none⟩ = some (.int .i64 x.n)) ∧ SmA x) (n := n) (fun i hi => by
      obtain ⟨ecs, g1, g2, m, z, g3, gw⟩ := h4 i hi
      match ecs, g1 with
      | [c0, c1], _ =>
        obtain ⟨x, rfl, rfl, hsm⟩ := arr_of g3 gw
        exact ⟨x, ⟨by simpa using g2 0 (by omega), by simpa using g2 1 (by omega)⟩, hsm⟩)
    exact ⟨_, l, rfl, .inr ⟨b, o, c, by rw [hl], by omega, by omega, h3, fun i _ x hx => (hr i x hx).1⟩, by rw [hl]; exact hby, fun x hx => by
      obtain ⟨i, hi⟩ := List.mem_iff_getElem?.1 hx
      exact (hr i x hi).2⟩
theorem ins_of {c0 c1 c2 c3 c4 c5 c6 c7 : Value} (h : DataW.trod enc Tryd.prog w base sp held fuel 77 [c0, c1, c2, c3, c4, c5, c6, c7] = some y) (hw : Wt 77 y.1) : ∃ (x : PIns) (va vr : Value), c0 = .int .i64 x.op ∧ c1 = .int .i64 x.d ∧ c2 = .int .i64 x.a ∧ c3 = .int .i64 x.b ∧ c4 = .int .i64 x.f ∧ c5 = .int .u32 x.n ∧ c6 = va ∧ c7 = vr ∧ InsL w va vr x ∧ SmI x := by
  obtain ⟨xs, n, _, rfl, _, hlen, hf⟩ := DataW.trod_struct Tryd.underlying77 h
  obtain ⟨y0, y1, y2, y3, y4, y5, y6, y7, rfl⟩ : ∃ y0 y1 y2 y3 y4 y5 y6 y7, xs = [y0, y1, y2, y3, y4, y5, y6, y7] := by
    clear hw hf
    match xs, hlen with
    | [y0, y1, y2, y3, y4, y5, y6, y7], _ => exact ⟨y0, y1, y2, y3, y4, y5, y6, y7, rfl⟩
  have e0 : DataW.trod enc Tryd.prog w base sp held n 3 ((([c0, c1, c2, c3, c4, c5, c6, c7] : List Value).drop 0).take (Tryd.prog.cellsOf 3)) = some y0 := hf 0 _ rfl
  rw [cells_i64] at e0
  have w0 : Wt 3 y0.1 := wt_part Tryd.underlying77 hw (j := 0) rfl rfl
  have e1 : DataW.trod enc Tryd.prog w base sp held n 3 ((([c0, c1, c2, c3, c4, c5, c6, c7] : List Value).drop 1).take (Tryd.prog.cellsOf 3)) = some y1 := hf 1 _ rfl
  rw [cells_i64] at e1
  have w1 : Wt 3 y1.1 := wt_part Tryd.underlying77 hw (j := 1) rfl rfl
  have e2 : DataW.trod enc Tryd.prog w base sp held n 3 ((([c0, c1, c2, c3, c4, c5, c6, c7] : List Value).drop 2).take (Tryd.prog.cellsOf 3)) = some y2 := hf 2 _ rfl
  rw [cells_i64] at e2
  have w2 : Wt 3 y2.1 := wt_part Tryd.underlying77 hw (j := 2) rfl rfl
  have e3 : DataW.trod enc Tryd.prog w base sp held n 3 ((([c0, c1, c2, c3, c4, c5, c6, c7] : List Value).drop 3).take (Tryd.prog.cellsOf 3)) = some y3 := hf 3 _ rfl
  rw [cells_i64] at e3
  have w3 : Wt 3 y3.1 := wt_part Tryd.underlying77 hw (j := 3) rfl rfl
  have e4 : DataW.trod enc Tryd.prog w base sp held n 3 ((([c0, c1, c2, c3, c4, c5, c6, c7] : List Value).drop 4).take (Tryd.prog.cellsOf 3)) = some y4 := hf 4 _ rfl
  rw [cells_i64] at e4
  have w4 : Wt 3 y4.1 := wt_part Tryd.underlying77 hw (j := 4) rfl rfl
  have e5 : DataW.trod enc Tryd.prog w base sp held n 37 ((([c0, c1, c2, c3, c4, c5, c6, c7] : List Value).drop 5).take (Tryd.prog.cellsOf 37)) = some y5 := hf 5 _ rfl
  rw [cells_u32] at e5
  have w5 : Wt 37 y5.1 := wt_part Tryd.underlying77 hw (j := 5) rfl rfl
  have e6 : DataW.trod enc Tryd.prog w base sp held n 22 ((([c0, c1, c2, c3, c4, c5, c6, c7] : List Value).drop 6).take (Tryd.prog.cellsOf 22)) = some y6 := hf 6 _ rfl
  rw [cells_ints] at e6
  have w6 : Wt 22 y6.1 := wt_part Tryd.underlying77 hw (j := 6) rfl rfl
  have e7 : DataW.trod enc Tryd.prog w base sp held n 22 ((([c0, c1, c2, c3, c4, c5, c6, c7] : List Value).drop 7).take (Tryd.prog.cellsOf 22)) = some y7 := hf 7 _ rfl
  rw [cells_ints] at e7
  have w7 : Wt 22 y7.1 := wt_part Tryd.underlying77 hw (j := 7) rfl rfl
  obtain ⟨x0, rfl⟩ := int_of (c := c0) e0
  obtain ⟨x1, rfl⟩ := int_of (c := c1) e1
  obtain ⟨x2, rfl⟩ := int_of (c := c2) e2
  obtain ⟨x3, rfl⟩ := int_of (c := c3) e3
  obtain ⟨x4, rfl⟩ := int_of (c := c4) e4
  obtain ⟨x5, rfl, wn⟩ := u32_of (c := c5) e5
  obtain ⟨v6, x6, hv6, hr6, hs6⟩ := ints_of (cs := [c6]) e6 w6
  injection hv6 with hv6 _
  subst hv6
  obtain ⟨v7, x7, hv7, hr7, hs7⟩ := ints_of (cs := [c7]) e7 w7
  injection hv7 with hv7 _
  subst hv7
  exact ⟨⟨x0, x1, x2, x3, x4, x5, x6, x7⟩, _, _, rfl, rfl, rfl, rfl, rfl, rfl, rfl, rfl, ⟨hr6, hr7, wn⟩, ⟨hs6, hs7⟩⟩
theorem code_of (h : DataW.trod enc Tryd.prog w base sp held fuel 36 cs = some y) (hw : Wt 36 y.1) : ∃ v l, cs = [v] ∧ CodeR w v l ∧ l.length * 96 ≤ reachBytes ∧ ∀ x ∈ l, SmI x := by
  obtain ⟨v, n, rfl, hs, hby⟩ := open_sl Tryd.underlying36 cells_ins (by kernel_rfl : Tryd.prog.bytesOf 77 = 96) (by decide) h hw
  rcases hs with ⟨rfl, p, c, rfl⟩ | ⟨b, o, c, rfl, h1, h2, h3, h4⟩
  · exact ⟨_, [], rfl, .inl ⟨rfl, p, c, rfl⟩, by simp, by simp⟩
  · obtain ⟨l, hl, hr⟩ := choose_list (R := fun i (x : PIns) => (∃ va vr, InsR w b (o + i * 8) x va vr) ∧ SmI x) (n := n) (fun i hi => by
      obtain ⟨ecs, g1, g2, m, z, g3, gw⟩ := h4 i hi
      match ecs, g1 with
      | [c0, c1, c2, c3, c4, c5, c6, c7], _ =>
        obtain ⟨x, va, vr, rfl, rfl, rfl, rfl, rfl, rfl, rfl, rfl, hl, hsm⟩ := ins_of g3 gw
        exact ⟨x, ⟨_, _, by simpa using g2 0 (by omega), by simpa using g2 1 (by omega), by simpa using g2 2 (by omega), by simpa using g2 3 (by omega), by simpa using g2 4 (by omega), by simpa using g2 5 (by omega), by simpa using g2 6 (by omega), by simpa using g2 7 (by omega), hl⟩, hsm⟩)
    exact ⟨_, l, rfl, .inr ⟨b, o, c, by rw [hl], by omega, by omega, h3, fun i _ x hx => (hr i x hx).1⟩, by rw [hl]; exact hby, fun x hx => by
      obtain ⟨i, hi⟩ := List.mem_iff_getElem?.1 hx
      exact (hr i x hi).2⟩
theorem end_of {c0 c1 c2 c3 c4 c5 c6 c7 c8 : Value} (h : DataW.trod enc Tryd.prog w base sp held fuel 40 [c0, c1, c2, c3, c4, c5, c6, c7, c8] = some y) (hw : Wt 40 y.1) : ∃ (x : PEnd) (vc vt : Value), c0 = .int .i64 x.kind ∧ c1 = .int .i64 x.op ∧ c2 = .int .i64 x.a ∧ c3 = .int .i64 x.b ∧ c4 = .int .u32 x.n ∧ c5 = .int .i64 x.to ∧ c6 = .int .i64 x.els ∧ c7 = vc ∧ c8 = vt ∧ EndL w vc vt x ∧ SmE x := by
  obtain ⟨xs, n, _, rfl, _, hlen, hf⟩ := DataW.trod_struct Tryd.underlying40 h
  obtain ⟨y0, y1, y2, y3, y4, y5, y6, y7, y8, rfl⟩ : ∃ y0 y1 y2 y3 y4 y5 y6 y7 y8, xs = [y0, y1, y2, y3, y4, y5, y6, y7, y8] := by
    clear hw hf
    match xs, hlen with
    | [y0, y1, y2, y3, y4, y5, y6, y7, y8], _ => exact ⟨y0, y1, y2, y3, y4, y5, y6, y7, y8, rfl⟩
  have e0 : DataW.trod enc Tryd.prog w base sp held n 3 ((([c0, c1, c2, c3, c4, c5, c6, c7, c8] : List Value).drop 0).take (Tryd.prog.cellsOf 3)) = some y0 := hf 0 _ rfl
  rw [cells_i64] at e0
  have w0 : Wt 3 y0.1 := wt_part Tryd.underlying40 hw (j := 0) rfl rfl
  have e1 : DataW.trod enc Tryd.prog w base sp held n 3 ((([c0, c1, c2, c3, c4, c5, c6, c7, c8] : List Value).drop 1).take (Tryd.prog.cellsOf 3)) = some y1 := hf 1 _ rfl
  rw [cells_i64] at e1
  have w1 : Wt 3 y1.1 := wt_part Tryd.underlying40 hw (j := 1) rfl rfl
  have e2 : DataW.trod enc Tryd.prog w base sp held n 3 ((([c0, c1, c2, c3, c4, c5, c6, c7, c8] : List Value).drop 2).take (Tryd.prog.cellsOf 3)) = some y2 := hf 2 _ rfl
  rw [cells_i64] at e2
  have w2 : Wt 3 y2.1 := wt_part Tryd.underlying40 hw (j := 2) rfl rfl
  have e3 : DataW.trod enc Tryd.prog w base sp held n 3 ((([c0, c1, c2, c3, c4, c5, c6, c7, c8] : List Value).drop 3).take (Tryd.prog.cellsOf 3)) = some y3 := hf 3 _ rfl
  rw [cells_i64] at e3
  have w3 : Wt 3 y3.1 := wt_part Tryd.underlying40 hw (j := 3) rfl rfl
  have e4 : DataW.trod enc Tryd.prog w base sp held n 37 ((([c0, c1, c2, c3, c4, c5, c6, c7, c8] : List Value).drop 4).take (Tryd.prog.cellsOf 37)) = some y4 := hf 4 _ rfl
  rw [cells_u32] at e4
  have w4 : Wt 37 y4.1 := wt_part Tryd.underlying40 hw (j := 4) rfl rfl
  have e5 : DataW.trod enc Tryd.prog w base sp held n 3 ((([c0, c1, c2, c3, c4, c5, c6, c7, c8] : List Value).drop 5).take (Tryd.prog.cellsOf 3)) = some y5 := hf 5 _ rfl
  rw [cells_i64] at e5
  have w5 : Wt 3 y5.1 := wt_part Tryd.underlying40 hw (j := 5) rfl rfl
  have e6 : DataW.trod enc Tryd.prog w base sp held n 3 ((([c0, c1, c2, c3, c4, c5, c6, c7, c8] : List Value).drop 6).take (Tryd.prog.cellsOf 3)) = some y6 := hf 6 _ rfl
  rw [cells_i64] at e6
  have w6 : Wt 3 y6.1 := wt_part Tryd.underlying40 hw (j := 6) rfl rfl
  have e7 : DataW.trod enc Tryd.prog w base sp held n 38 ((([c0, c1, c2, c3, c4, c5, c6, c7, c8] : List Value).drop 7).take (Tryd.prog.cellsOf 38)) = some y7 := hf 7 _ rfl
  rw [cells_caseS] at e7
  have w7 : Wt 38 y7.1 := wt_part Tryd.underlying40 hw (j := 7) rfl rfl
  have e8 : DataW.trod enc Tryd.prog w base sp held n 22 ((([c0, c1, c2, c3, c4, c5, c6, c7, c8] : List Value).drop 8).take (Tryd.prog.cellsOf 22)) = some y8 := hf 8 _ rfl
  rw [cells_ints] at e8
  have w8 : Wt 22 y8.1 := wt_part Tryd.underlying40 hw (j := 8) rfl rfl
  obtain ⟨x0, rfl⟩ := int_of (c := c0) e0
  obtain ⟨x1, rfl⟩ := int_of (c := c1) e1
  obtain ⟨x2, rfl⟩ := int_of (c := c2) e2
  obtain ⟨x3, rfl⟩ := int_of (c := c3) e3
  obtain ⟨x4, rfl, wn⟩ := u32_of (c := c4) e4
  obtain ⟨x5, rfl⟩ := int_of (c := c5) e5
  obtain ⟨x6, rfl⟩ := int_of (c := c6) e6
  obtain ⟨v7, x7, hv7, hr7, hs7⟩ := cases_of (cs := [c7]) e7 w7
  injection hv7 with hv7 _
  subst hv7
  obtain ⟨v8, x8, hv8, hr8, hs8⟩ := ints_of (cs := [c8]) e8 w8
  injection hv8 with hv8 _
  subst hv8
  exact ⟨⟨x0, x1, x2, x3, x4, x5, x6, x7, x8⟩, _, _, rfl, rfl, rfl, rfl, rfl, rfl, rfl, rfl, rfl, ⟨hr7, hr8, wn⟩, ⟨hs7.1, hs8⟩⟩
theorem blk_of {c0 c1 c2 c3 c4 c5 c6 c7 c8 c9 : Value} (h : DataW.trod enc Tryd.prog w base sp held fuel 42 [c0, c1, c2, c3, c4, c5, c6, c7, c8, c9] = some y) (hw : Wt 42 y.1) : ∃ (x : PBlk) (vk vc vt : Value), c0 = vk ∧ c1 = .int .i64 x.fin.kind ∧ c2 = .int .i64 x.fin.op ∧ c3 = .int .i64 x.fin.a ∧ c4 = .int .i64 x.fin.b ∧ c5 = .int .u32 x.fin.n ∧ c6 = .int .i64 x.fin.to ∧ c7 = .int .i64 x.fin.els ∧ c8 = vc ∧ c9 = vt ∧ CodeR w vk x.code ∧ EndL w vc vt x.fin ∧ SmB x := by
  obtain ⟨xs, n, _, rfl, _, hlen, hf⟩ := DataW.trod_struct Tryd.underlying42 h
  obtain ⟨y0, y1, rfl⟩ : ∃ y0 y1, xs = [y0, y1] := by
    clear hw hf
    match xs, hlen with
    | [y0, y1], _ => exact ⟨y0, y1, rfl⟩
  have e0 : DataW.trod enc Tryd.prog w base sp held n 36 ((([c0, c1, c2, c3, c4, c5, c6, c7, c8, c9] : List Value).drop 0).take (Tryd.prog.cellsOf 36)) = some y0 := hf 0 _ rfl
  rw [cells_insS] at e0
  have w0 : Wt 36 y0.1 := wt_part Tryd.underlying42 hw (j := 0) rfl rfl
  have e1 : DataW.trod enc Tryd.prog w base sp held n 40 ((([c0, c1, c2, c3, c4, c5, c6, c7, c8, c9] : List Value).drop 1).take (Tryd.prog.cellsOf 40)) = some y1 := hf 1 _ rfl
  rw [cells_end] at e1
  have w1 : Wt 40 y1.1 := wt_part Tryd.underlying42 hw (j := 1) rfl rfl
  obtain ⟨v0, x0, hv0, hr0, hs0⟩ := code_of (cs := [c0]) e0 w0
  injection hv0 with hv0 _
  subst hv0
  have hx1 := end_of (c0 := c1) (c1 := c2) (c2 := c3) (c3 := c4) (c4 := c5) (c5 := c6) (c6 := c7) (c7 := c8) (c8 := c9) e1 w1
  obtain ⟨f, vc, vt, rfl, rfl, rfl, rfl, rfl, rfl, rfl, rfl, rfl, hl, hsm⟩ := hx1
  exact ⟨⟨x0, f⟩, _, _, _, rfl, rfl, rfl, rfl, rfl, rfl, rfl, rfl, rfl, rfl, hr0, hl, ⟨hs0.1, hs0.2, hsm⟩⟩
theorem blks_of (h : DataW.trod enc Tryd.prog w base sp held fuel 24 cs = some y) (hw : Wt 24 y.1) : ∃ v l, cs = [v] ∧ BlksR w v l ∧ l.length * 128 ≤ reachBytes ∧ ∀ x ∈ l, SmB x := by
  obtain ⟨v, n, rfl, hs, hby⟩ := open_sl Tryd.underlying24 cells_blk (by kernel_rfl : Tryd.prog.bytesOf 42 = 128) (by decide) h hw
  rcases hs with ⟨rfl, p, c, rfl⟩ | ⟨b, o, c, rfl, h1, h2, h3, h4⟩
  · exact ⟨_, [], rfl, .inl ⟨rfl, p, c, rfl⟩, by simp, by simp⟩
  · obtain ⟨l, hl, hr⟩ := choose_list (R := fun i (x : PBlk) => (∃ vk vc vt, BlkR w b (o + i * 10) x vk vc vt) ∧ SmB x) (n := n) (fun i hi => by
      obtain ⟨ecs, g1, g2, m, z, g3, gw⟩ := h4 i hi
      match ecs, g1 with
      | [c0, c1, c2, c3, c4, c5, c6, c7, c8, c9], _ =>
        obtain ⟨x, vk, vc, vt, rfl, rfl, rfl, rfl, rfl, rfl, rfl, rfl, rfl, rfl, hk, hl, hsm⟩ := blk_of g3 gw
        exact ⟨x, ⟨_, _, _, by simpa using g2 0 (by omega), hk, by simpa using g2 1 (by omega), by simpa using g2 2 (by omega), by simpa using g2 3 (by omega), by simpa using g2 4 (by omega), by simpa using g2 5 (by omega), by simpa using g2 6 (by omega), by simpa using g2 7 (by omega), by simpa using g2 8 (by omega), by simpa using g2 9 (by omega), hl⟩, hsm⟩)
    exact ⟨_, l, rfl, .inr ⟨b, o, c, by rw [hl], by omega, by omega, h3, fun i _ x hx => (hr i x hx).1⟩, by rw [hl]; exact hby, fun x hx => by
      obtain ⟨i, hi⟩ := List.mem_iff_getElem?.1 hx
      exact (hr i x hi).2⟩
theorem gr_of {c0 c1 c2 c3 : Value} (h : DataW.trod enc Tryd.prog w base sp held fuel 26 [c0, c1, c2, c3] = some y) (hw : Wt 26 y.1) : ∃ (x : PGr) (vp va vb : Value), c0 = vp ∧ c1 = .int .i64 x.temps ∧ c2 = va ∧ c3 = vb ∧ GrL w vp va vb x ∧ SmG x := by
  obtain ⟨xs, n, _, rfl, _, hlen, hf⟩ := DataW.trod_struct Tryd.underlying26 h
  obtain ⟨y0, y1, y2, y3, rfl⟩ : ∃ y0 y1 y2 y3, xs = [y0, y1, y2, y3] := by
    clear hw hf
    match xs, hlen with
    | [y0, y1, y2, y3], _ => exact ⟨y0, y1, y2, y3, rfl⟩
  have e0 : DataW.trod enc Tryd.prog w base sp held n 22 ((([c0, c1, c2, c3] : List Value).drop 0).take (Tryd.prog.cellsOf 22)) = some y0 := hf 0 _ rfl
  rw [cells_ints] at e0
  have w0 : Wt 22 y0.1 := wt_part Tryd.underlying26 hw (j := 0) rfl rfl
  have e1 : DataW.trod enc Tryd.prog w base sp held n 3 ((([c0, c1, c2, c3] : List Value).drop 1).take (Tryd.prog.cellsOf 3)) = some y1 := hf 1 _ rfl
  rw [cells_i64] at e1
  have w1 : Wt 3 y1.1 := wt_part Tryd.underlying26 hw (j := 1) rfl rfl
  have e2 : DataW.trod enc Tryd.prog w base sp held n 23 ((([c0, c1, c2, c3] : List Value).drop 2).take (Tryd.prog.cellsOf 23)) = some y2 := hf 2 _ rfl
  rw [cells_arrS] at e2
  have w2 : Wt 23 y2.1 := wt_part Tryd.underlying26 hw (j := 2) rfl rfl
  have e3 : DataW.trod enc Tryd.prog w base sp held n 24 ((([c0, c1, c2, c3] : List Value).drop 3).take (Tryd.prog.cellsOf 24)) = some y3 := hf 3 _ rfl
  rw [cells_blkS] at e3
  have w3 : Wt 24 y3.1 := wt_part Tryd.underlying26 hw (j := 3) rfl rfl
  obtain ⟨v0, x0, hv0, hr0, hs0⟩ := ints_of (cs := [c0]) e0 w0
  injection hv0 with hv0 _
  subst hv0
  obtain ⟨x1, rfl⟩ := int_of (c := c1) e1
  obtain ⟨v2, x2, hv2, hr2, hs2⟩ := arrs_of (cs := [c2]) e2 w2
  injection hv2 with hv2 _
  subst hv2
  obtain ⟨v3, x3, hv3, hr3, hs3⟩ := blks_of (cs := [c3]) e3 w3
  injection hv3 with hv3 _
  subst hv3
  exact ⟨⟨x0, x1, x2, x3⟩, _, _, _, rfl, rfl, rfl, rfl, ⟨hr0, hr2, hr3⟩, ⟨hs0, hs2.1, hs3.1, hs3.2⟩⟩
theorem grs_of (h : DataW.trod enc Tryd.prog w base sp held fuel 61 cs = some y) (hw : Wt 61 y.1) : ∃ v l, cs = [v] ∧ GrsR w v l ∧ l.length * 80 ≤ reachBytes ∧ ∀ x ∈ l, SmG x := by
  obtain ⟨v, n, rfl, hs, hby⟩ := open_sl Tryd.underlying61 cells_gr (by kernel_rfl : Tryd.prog.bytesOf 26 = 80) (by decide) h hw
  rcases hs with ⟨rfl, p, c, rfl⟩ | ⟨b, o, c, rfl, h1, h2, h3, h4⟩
  · exact ⟨_, [], rfl, .inl ⟨rfl, p, c, rfl⟩, by simp, by simp⟩
  · obtain ⟨l, hl, hr⟩ := choose_list (R := fun i (x : PGr) => (∃ vp va vb, GrR w b (o + i * 4) x vp va vb) ∧ SmG x) (n := n) (fun i hi => by
      obtain ⟨ecs, g1, g2, m, z, g3, gw⟩ := h4 i hi
      match ecs, g1 with
      | [c0, c1, c2, c3], _ =>
        obtain ⟨x, vp, va, vb, rfl, rfl, rfl, rfl, hl, hsm⟩ := gr_of g3 gw
        exact ⟨x, ⟨_, _, _, by simpa using g2 0 (by omega), by simpa using g2 1 (by omega), by simpa using g2 2 (by omega), by simpa using g2 3 (by omega), hl⟩, hsm⟩)
    exact ⟨_, l, rfl, .inr ⟨b, o, c, by rw [hl], by omega, by omega, h3, fun i _ x hx => (hr i x hx).1⟩, by rw [hl]; exact hby, fun x hx => by
      obtain ⟨i, hi⟩ := List.mem_iff_getElem?.1 hx
      exact (hr i x hi).2⟩
theorem mod_of {c0 c1 c2 c3 : Value} (h : DataW.trod enc Tryd.prog w base sp held fuel 63 [c0, c1, c2, c3] = some y) (hw : Wt 63 y.1) : ∃ (x : PMod) (vg va vf : Value), c0 = vg ∧ c1 = va ∧ c2 = vf ∧ c3 = .int .i64 x.main ∧ ModL w vg va vf x ∧ SmM x := by
  obtain ⟨xs, n, _, rfl, _, hlen, hf⟩ := DataW.trod_struct Tryd.underlying63 h
  obtain ⟨y0, y1, y2, y3, rfl⟩ : ∃ y0 y1 y2 y3, xs = [y0, y1, y2, y3] := by
    clear hw hf
    match xs, hlen with
    | [y0, y1, y2, y3], _ => exact ⟨y0, y1, y2, y3, rfl⟩
  have e0 : DataW.trod enc Tryd.prog w base sp held n 60 ((([c0, c1, c2, c3] : List Value).drop 0).take (Tryd.prog.cellsOf 60)) = some y0 := hf 0 _ rfl
  rw [cells_words] at e0
  have w0 : Wt 60 y0.1 := wt_part Tryd.underlying63 hw (j := 0) rfl rfl
  have e1 : DataW.trod enc Tryd.prog w base sp held n 22 ((([c0, c1, c2, c3] : List Value).drop 1).take (Tryd.prog.cellsOf 22)) = some y1 := hf 1 _ rfl
  rw [cells_ints] at e1
  have w1 : Wt 22 y1.1 := wt_part Tryd.underlying63 hw (j := 1) rfl rfl
  have e2 : DataW.trod enc Tryd.prog w base sp held n 61 ((([c0, c1, c2, c3] : List Value).drop 2).take (Tryd.prog.cellsOf 61)) = some y2 := hf 2 _ rfl
  rw [cells_grS] at e2
  have w2 : Wt 61 y2.1 := wt_part Tryd.underlying63 hw (j := 2) rfl rfl
  have e3 : DataW.trod enc Tryd.prog w base sp held n 3 ((([c0, c1, c2, c3] : List Value).drop 3).take (Tryd.prog.cellsOf 3)) = some y3 := hf 3 _ rfl
  rw [cells_i64] at e3
  have w3 : Wt 3 y3.1 := wt_part Tryd.underlying63 hw (j := 3) rfl rfl
  obtain ⟨v0, x0, hv0, hr0, hs0⟩ := words_of (cs := [c0]) e0 w0
  injection hv0 with hv0 _
  subst hv0
  obtain ⟨v1, x1, hv1, hr1, hs1⟩ := ints_of (cs := [c1]) e1 w1
  injection hv1 with hv1 _
  subst hv1
  obtain ⟨v2, x2, hv2, hr2, hs2⟩ := grs_of (cs := [c2]) e2 w2
  injection hv2 with hv2 _
  subst hv2
  obtain ⟨x3, rfl⟩ := int_of (c := c3) e3
  exact ⟨⟨x0, x1, x2, x3⟩, _, _, _, rfl, rfl, rfl, rfl, ⟨hr0, hr1, hr2⟩, ⟨hs0, hs1, hs2.1, hs2.2⟩⟩
end
end Go.Proofs.YtcijaaiopfbffaaDoor.Graph
