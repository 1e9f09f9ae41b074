/- The law LiveTells, at any graph. No condition but sizes and the table of bits. -/
import Derived.Test.YtcijaaiopfbffaaDoorRC2
import Derived.Test.YtcijaaiopfbffaaDoorKD2
namespace Go.Proofs.YtcijaaiopfbffaaDoor.Live
open Go.RowKit Go.Proofs.YtcijaaiopfbffaaDoor.Graph Go.Shelf

noncomputable def lenN (x : PGr) (b : Nat) : Nat := (needN x b).length
theorem len_le {x : PGr} (hf : fitsB x = true) (b : Nat) : lenN x b ≤ 8000 := by
  have ht : x.temps ≤ 8000 := by
    unfold fitsB at hf
    rw [Bool.and_eq_true, decide_eq_true_eq] at hf
    exact hf.1.2.2.2
  unfold lenN needN
  have := List.length_filter_le (fun (t : Nat) => @decide (Need x b (t : Int)) (Classical.propDecidable _)) (List.range x.temps.toNat)
  rw [List.length_range] at this
  exact Nat.le_trans this (by omega)
theorem own_keep13 {w w' : World} {B n : Nat} {e : TypeId} {v : Value} {xs : List Value} (h : w.ownsRow B e 1 v n xs) (hk : ∀ g, B ≤ g → g < w.heap.size → w'.heap[g]? = w.heap[g]?) : w'.ownsRow B e 1 v n xs := by
  obtain ⟨h1, h2 | ⟨g, cap, cur, rfl, hB, hg, h3⟩⟩ := h
  · exact ⟨h1, .inl h2⟩
  · exact ⟨h1, .inr ⟨g, cap, cur, rfl, hB, (hk g hB (Array.getElem?_eq_some_iff.1 hg).1).trans hg, h3⟩⟩
theorem RowsO.keep {w w' : World} {B : Nat} {v : Value} {n : Nat} {A : Nat → List Nat} (h : RowsO w B v n A) (hk : ∀ g, B ≤ g → g < w.heap.size → w'.heap[g]? = w.heap[g]?) : RowsO w' B v n A := by
  obtain ⟨vs, h1, h2, h3⟩ := h
  exact ⟨vs, own_keep13 h1 hk, h2, fun j u hj => own_keep13 (h3 j u hj) hk⟩
theorem rows_nil (w : World) : RowsR w (.slice none 0 0) [] := .inl ⟨rfl, _, _, rfl⟩
/-- In the middle of the law: rows of the owner's are written, row by row. -/
structure TurnA (B s4 s7 n k : Nat) (len : Nat → Nat) (vs : Nat → Value) (w7 wr : World) : Prop where
  below : Below B w7 wr
  mid : ∀ g, s4 ≤ g → g < s7 → wr.heap[g]? = w7.heap[g]?
  rows : ∀ b, k ≤ b → b < n → ∃ xs, wr.ownsRow B 3 1 (vs b) (len b) xs
  sz : s7 ≤ wr.heap.size
  old : ∀ b q, b < n → (vs b).ownBlock = some q → q < s4
  apart : ∀ b c q, b < n → c < n → b ≠ c → (vs b).ownBlock = some q → (vs c).ownBlock ≠ some q
  s47 : s4 ≤ s7
  b7 : B ≤ s7
section
variable {B s4 s7 n k : Nat} {len : Nat → Nat} {vs : Nat → Value} {w7 wr wq : World}
/-- A turn that touches one row's block, or a new one. -/
theorem TurnA.turn (h : TurnA B s4 s7 n k len vs w7 wr) {row : Option Nat} (hg : wr.grownBy wq row) (hr : ∀ q, row = some q → B ≤ q ∧ (q < s4 ∨ s7 ≤ q)) {k' : Nat} (hk : k ≤ k')
    (hrows : ∀ b, k' ≤ b → b < n → (∃ xs, wq.ownsRow B 3 1 (vs b) (len b) xs) ∨ ((vs b).ownBlock = none ∨ (vs b).ownBlock ≠ row)) : TurnA B s4 s7 n k' len vs w7 wq := by
  refine ⟨Below.grown h.below hg (Nat.le_trans h.b7 h.sz) (fun q hq => (hr q hq).1), fun g h1 h2 => ?_, fun b h1 h2 => ?_, Nat.le_trans h.sz hg.size, h.old, h.apart, h.s47, h.b7⟩
  · rw [← h.mid g h1 h2]
    exact hg.block g (Nat.lt_of_lt_of_le h2 h.sz) (fun e => by have := (hr g e.symm).2; omega)
  · rcases hrows b h1 h2 with h3 | h3
    · exact h3
    · obtain ⟨xs, h4⟩ := h.rows b (Nat.le_trans hk h1) h2
      exact ⟨xs, h4.kept hg h3⟩
theorem TurnA.row (h : TurnA B s4 s7 n k len vs w7 wr) {m : Nat} (hm : k ≤ m) (hn : m < n) (hl : 0 < len m) : ∃ g c cs, vs m = .slice (some ⟨g, 0, none⟩) (len m) c ∧ len m ≤ c ∧ c ≤ 9223372036854775807 ∧ wr.heap[g]? = some (.cells cs 3 (0, 0)) ∧ cs.size = c ∧ B ≤ g := by
  obtain ⟨xs, _, ⟨_, h0⟩ | ⟨g, cap, cur, e, hB, hg, h1, h2, h3, _⟩⟩ := h.rows m hm hn
  · omega
  · exact ⟨g, cap, cur, e, h1, by unfold maxLen at h2; omega, hg, by omega, hB⟩
theorem TurnA.set (h : TurnA B s4 s7 n k len vs w7 wr) {g c i : Nat} (hk : k < n) (hl : i < len k) (hv : vs k = .slice (some ⟨g, 0, none⟩) (len k) c) (u : Value) : TurnA B s4 s7 n k len vs w7 (wr.setCell ⟨g, i, none⟩ u) := by
  have hob : (vs k).ownBlock = some g := by rw [hv]; rfl
  obtain ⟨xs, h1⟩ := h.rows k (Nat.le_refl _) hk
  refine h.turn (wq := wr.setCell ⟨g, i, none⟩ u) (row := some g) ⟨rfl, rfl, rfl, by rw [World.size_setCell]; exact Nat.le_refl _, fun q _ hne => heap_setCell_other wr ⟨g, i, none⟩ q _ (fun e => hne (by rw [e]))⟩ (fun q hq => by
    injection hq with hq
    subst hq
    exact ⟨(h1.lt g hob).1, .inl (h.old k g hk hob)⟩) (Nat.le_refl _) (fun b hb hbn => ?_)
  by_cases e : b = k
  · subst e
    left
    obtain ⟨h2, ⟨h3, _⟩ | ⟨g', cap, cur, e', hB, hg, hc1, hc2, hc3, hx⟩⟩ := h1
    · rw [h3] at hv; cases hv
    · rw [hv] at e'
      injection e' with e1 _ e3
      injection e1 with e1
      injection e1 with e1
      subst e1 e3
      rw [hv]
      refine ⟨_, by rw [List.length_take, Array.length_toList, Array.size_setIfInBounds]; omega, .inr ⟨g, c, _, rfl, hB, heap_setCell_same wr g i _ _ _ hg, hc1, hc2, by rw [Array.size_setIfInBounds]; exact hc3, rfl⟩⟩
  · right; right
    rw [← hob]
    intro e2
    cases hq : (vs b).ownBlock with
    | none => rw [hq, hob] at e2; cases e2
    | some q => exact h.apart b k q hbn hk e hq (by rw [← e2, hq])
end
set_option maxHeartbeats 8000000 in
set_option maxRecDepth 100000 in
theorem liveTells_no (x : PGr) (vp va vb : Value) (w : World) (h : GrL w vp va vb x) (hs : SmG x) (hT : TabAt 0 Lib.deBruijn64tab w) (h0 : 0 < w.heap.size) (hf : fitsB x = false) :
    Calls Tryd.prog 3 #[grV x vp va vb] w (Is (.bool true) w) := by
  have HG := Lib.hid h
  have HCP := Lib.hid (fun (W : World) (hW : Below w.heap.size w W) => copied13_any x _ _ _ W (HG.out.below hW) hs)
  obtain ⟨pp, pc, rfl⟩ := h.params.form
  obtain ⟨ap, ac, rfl⟩ := h.arrays.form
  have HRV := Lib.hid (fun (W : World) (hW : Below w.heap.size w W) => live13_no x _ _ _ W (HG.out.below hW) hs hf)
  obtain ⟨bp, bc, rfl⟩ := h.blocks.form
  have HAL := Lib.hid (fun (W : World) (hW : Below w.heap.size w W) => alive_any W (tab_below hT h0 hW) (Nat.lt_of_lt_of_le h0 hW.size))
  have HLV := Lib.hid (fun (W : World) (p a b : Value) (hW : GrL W p a b x) => live_no x p a b W hW hs.n hf)
  have HB1 := Lib.hid (Graph.below_alloc w (.cells #[.slice pp x.params.length pc, .int .i64 x.temps, .slice ap x.arrays.length ac, .slice bp x.blocks.length bc] 26))
  have HX1 := Lib.hid (heap_new w (.cells #[.slice pp x.params.length pc, .int .i64 x.temps, .slice ap x.arrays.length ac, .slice bp x.blocks.length bc] 26))
  unfold CopiedG at HCP
  unfold grV at HCP HRV HLV ⊢
  clear h hs hT h0 hf
  go_enter Tryd.func3, Tryd.ntmps3
  go_upto_region 2 with (
    go_at_call 9
    refine (HCP.out _ HB1.out).mono ?_
    rintro e w2 ⟨pq, aq, bq, pc2, ac2, bc2, rfl, hl2, hb2⟩
    have HL2 := Lib.hid (GrL.holds (cut_out _ _) hl2)
    have HB2 := Lib.hid hb2
    clear hl2 hb2)
  have HB3 := Lib.hid (Graph.below_alloc w2 (.cells #[.slice pq x.params.length pc2, .int .i64 x.temps, .slice aq x.arrays.length ac2, .slice bq x.blocks.length bc2] 26))
  have HX3 := Lib.hid (heap_new w2 (.cells #[.slice pq x.params.length pc2, .int .i64 x.temps, .slice aq x.arrays.length ac2, .slice bq x.blocks.length bc2] 26))
  have HBX1 : Hid (∀ W, Below w2.heap.size w2 W → W.cell? ⟨w.heap.size, 0, none⟩ = some (.slice pp x.params.length pc) ∧ W.cell? ⟨w.heap.size, 1, none⟩ = some (.int .i64 x.temps) ∧ W.cell? ⟨w.heap.size, 2, none⟩ = some (.slice ap x.arrays.length ac) ∧ W.cell? ⟨w.heap.size, 3, none⟩ = some (.slice bp x.blocks.length bc)) := Lib.hid (fun W hW => by
    have hb := ((below_then HB2.out hW).block _ (Array.getElem?_eq_some_iff.1 HX1.out).1).trans HX1.out
    exact ⟨(cell_of_block hb (k := 0) rfl).1, (cell_of_block hb (k := 1) rfl).1, (cell_of_block hb (k := 2) rfl).1, (cell_of_block hb (k := 3) rfl).1⟩)
  generalize w2.alloc (.cells #[.slice pq x.params.length pc2, .int .i64 x.temps, .slice aq x.arrays.length ac2, .slice bq x.blocks.length bc2] 26) = W3 at HB3 HX3 ⊢
  have HBX3 : Hid (∀ W, Below W3.heap.size W3 W → W.cell? ⟨w2.heap.size, 0, none⟩ = some (.slice pq x.params.length pc2) ∧ W.cell? ⟨w2.heap.size, 1, none⟩ = some (.int .i64 x.temps) ∧ W.cell? ⟨w2.heap.size, 2, none⟩ = some (.slice aq x.arrays.length ac2) ∧ W.cell? ⟨w2.heap.size, 3, none⟩ = some (.slice bq x.blocks.length bc2)) := Lib.hid (fun W hW => by
    have hb := (hW.block _ (Array.getElem?_eq_some_iff.1 HX3.out).1).trans HX3.out
    exact ⟨(cell_of_block hb (k := 0) rfl).1, (cell_of_block hb (k := 1) rfl).1, (cell_of_block hb (k := 2) rfl).1, (cell_of_block hb (k := 3) rfl).1⟩)
  have HBW : Hid (Below w.heap.size w w2) := Lib.hid (below_then HB1.out HB2.out)
  obtain ⟨a0, a1, a2, a3⟩ := HBX3.out W3 (Below.refl _ _)
  go_upto_region 7 with (first
    | (go_at_call 10
       refine (HLV.out _ _ _ _ (HL2.out.below HB3.out)).mono ?_
       rintro e w4 ⟨rfl, hb4⟩
       have HB4 : Hid (Below W3.heap.size W3 w4) := Lib.hid hb4
       obtain ⟨b0, b1, b2, b3⟩ := HBX1.out w4 (below_then HB3.out hb4)
       clear hb4)
    | (go_at_call 11
       refine (HRV.out _ (below_then HBW.out (below_then HB3.out HB4.out))).mono ?_
       rintro e w5 ⟨rfl, hb5⟩
       have HB5 : Hid (Below W3.heap.size W3 w5) := Lib.hid (below_then HB4.out hb5)
       clear hb5)
    | (go_at_call 12
       refine (HAL.out _ (below_then HBW.out (below_then HB3.out HB5.out))).mono ?_
       rintro e w6 ⟨rfl, hb6⟩
       have HB6 : Hid (Below W3.heap.size W3 w6) := Lib.hid (below_then HB5.out hb6)
       clear hb6)
    | (go_at_call 13
       refine (sameAll_true [] _ _ _ (rows_nil _) (rows_nil _)).mono ?_
       rintro e w7 ⟨rfl, hb7⟩
       have HB7 : Hid (Below W3.heap.size W3 w7) := Lib.hid (below_then HB6.out hb7)
       clear hb7))
  clear a0 a1 a2 a3 b0 b1 b2 b3
  go_loopw [8] (fun i wr => i = .int .i64 0 ∧ wr = w7) (fun _ _ => 0)
  case atStart => exact ⟨rfl, rfl⟩
  case round =>
    obtain ⟨rfl, rfl⟩ := hrel
    obtain ⟨a0, a1, a2, a3⟩ := HBX3.out wr HB7.out
    go_wp2_with (first
    | (go_at_call 10
       refine (HLV.out _ _ _ _ (HL2.out.below (below_then HB3.out HB7.out))).mono ?_
       rintro e w8 ⟨rfl, hb8⟩
       have HB8 : Hid (Below W3.heap.size W3 w8) := Lib.hid (below_then HB7.out hb8)
       clear hb8)
    | (go_at_call 13
       refine (sameAll_true [] _ _ _ (rows_nil _) (rows_nil _)).mono ?_
       rintro e w9 ⟨rfl, hb9⟩
       have HB9 : Hid (Below W3.heap.size W3 w9) := Lib.hid (below_then HB8.out hb9)
       clear hb9))
    go_ret
    exact ⟨rfl, below_then HBW.out (below_then HB3.out HB9.out)⟩
set_option maxHeartbeats 8000000 in
set_option maxRecDepth 100000 in
theorem liveTells_ok (x : PGr) (vp va vb : Value) (w : World) (h : GrL w vp va vb x) (hs : SmG x) (hT : TabAt 0 Lib.deBruijn64tab w) (h0 : 0 < w.heap.size) (hf : fitsB x = true) :
    Calls Tryd.prog 3 #[grV x vp va vb] w (Is (.bool true) w) := by
  have HG := Lib.hid h
  have HCP := Lib.hid (fun (W : World) (hW : Below w.heap.size w W) => copied13_any x _ _ _ W (HG.out.below hW) hs)
  obtain ⟨pp, pc, rfl⟩ := h.params.form
  obtain ⟨ap, ac, rfl⟩ := h.arrays.form
  have HRV := Lib.hid (fun (W : World) (hW : Below w.heap.size w W) => live13_ok x _ _ _ W (HG.out.below hW) hs hf)
  obtain ⟨bp, bc, rfl⟩ := h.blocks.form
  have HAL := Lib.hid (fun (W : World) (hW : Below w.heap.size w W) => alive_any W (tab_below hT h0 hW) (Nat.lt_of_lt_of_le h0 hW.size))
  have HLV := Lib.hid (fun (W : World) (p a b : Value) (hW : GrL W p a b x) (hB : Below w.heap.size w W) => live_ok x p a b W hW hs.n hf (tab_below hT h0 hB) (Nat.lt_of_lt_of_le h0 hB.size))
  have HB1 := Lib.hid (Graph.below_alloc w (.cells #[.slice pp x.params.length pc, .int .i64 x.temps, .slice ap x.arrays.length ac, .slice bp x.blocks.length bc] 26))
  have HX1 := Lib.hid (heap_new w (.cells #[.slice pp x.params.length pc, .int .i64 x.temps, .slice ap x.arrays.length ac, .slice bp x.blocks.length bc] 26))
  have hn2 : x.blocks.length ≤ 20000 := by
    unfold fitsB at hf
    rw [Bool.and_eq_true, decide_eq_true_eq] at hf
    exact hf.1.2.1
  unfold CopiedG at HCP
  unfold grV at HCP HRV HLV ⊢
  have HLN := Lib.hid (len_le hf)
  obtain ⟨n, hn⟩ : ∃ n, n = x.blocks.length := ⟨_, rfl⟩
  have HN := Lib.hid hn
  rw [← hn] at HCP HRV HLV HB1 HX1 hn2 ⊢
  have HN2 := Lib.hid hn2
  obtain ⟨i0', hi, hz0, hz1, hz2⟩ := info_parts info_int
  have HI := Lib.hid hi
  clear h hs hT h0 hf hn hn2 hi
  go_enter Tryd.func3, Tryd.ntmps3
  go_upto_region 2 with (
    go_at_call 9
    refine (HCP.out _ HB1.out).mono ?_
    rintro e w2 ⟨pq, aq, bq, pc2, ac2, bc2, rfl, hl2, hb2⟩
    have HL2 := Lib.hid (GrL.holds (cut_out _ _) hl2)
    have HB2 := Lib.hid hb2
    clear hl2 hb2)
  have HB3 := Lib.hid (Graph.below_alloc w2 (.cells #[.slice pq x.params.length pc2, .int .i64 x.temps, .slice aq x.arrays.length ac2, .slice bq n bc2] 26))
  have HX3 := Lib.hid (heap_new w2 (.cells #[.slice pq x.params.length pc2, .int .i64 x.temps, .slice aq x.arrays.length ac2, .slice bq n bc2] 26))
  have HBX1 : Hid (∀ W, Below w2.heap.size w2 W → W.cell? ⟨w.heap.size, 0, none⟩ = some (.slice pp x.params.length pc) ∧ W.cell? ⟨w.heap.size, 1, none⟩ = some (.int .i64 x.temps) ∧ W.cell? ⟨w.heap.size, 2, none⟩ = some (.slice ap x.arrays.length ac) ∧ W.cell? ⟨w.heap.size, 3, none⟩ = some (.slice bp n bc)) := Lib.hid (fun W hW => by
    have hb := ((below_then HB2.out hW).block _ (Array.getElem?_eq_some_iff.1 HX1.out).1).trans HX1.out
    exact ⟨(cell_of_block hb (k := 0) rfl).1, (cell_of_block hb (k := 1) rfl).1, (cell_of_block hb (k := 2) rfl).1, (cell_of_block hb (k := 3) rfl).1⟩)
  generalize w2.alloc (.cells #[.slice pq x.params.length pc2, .int .i64 x.temps, .slice aq x.arrays.length ac2, .slice bq n bc2] 26) = W3 at HB3 HX3 ⊢
  have HBX3 : Hid (∀ W, Below W3.heap.size W3 W → W.cell? ⟨w2.heap.size, 0, none⟩ = some (.slice pq x.params.length pc2) ∧ W.cell? ⟨w2.heap.size, 1, none⟩ = some (.int .i64 x.temps) ∧ W.cell? ⟨w2.heap.size, 2, none⟩ = some (.slice aq x.arrays.length ac2) ∧ W.cell? ⟨w2.heap.size, 3, none⟩ = some (.slice bq n bc2)) := Lib.hid (fun W hW => by
    have hb := (hW.block _ (Array.getElem?_eq_some_iff.1 HX3.out).1).trans HX3.out
    exact ⟨(cell_of_block hb (k := 0) rfl).1, (cell_of_block hb (k := 1) rfl).1, (cell_of_block hb (k := 2) rfl).1, (cell_of_block hb (k := 3) rfl).1⟩)
  have HBW : Hid (Below w.heap.size w w2) := Lib.hid (below_then HB1.out HB2.out)
  obtain ⟨a0, a1, a2, a3⟩ := HBX3.out W3 (Below.refl _ _)
  go_upto_region 7 with (first
    | (go_at_call 10
       refine (HLV.out _ _ _ _ (HL2.out.below HB3.out) (below_then HBW.out HB3.out)).mono ?_
       rintro e w4 ⟨rb, vs, rfl, h4⟩
       have H4 : Hid (LiveOut x n rb vs W3 w4) := Lib.hid h4
       have HB4 : Hid (Below W3.heap.size W3 w4) := Lib.hid h4.below
       obtain ⟨b0, b1, b2, b3⟩ := HBX1.out w4 (below_then HB3.out HB4.out)
       clear h4)
    | (go_at_call 11
       refine (HRV.out _ (below_then HBW.out (below_then HB3.out HB4.out))).mono ?_
       rintro e w5 ⟨vx, rfl, h5, hb5⟩
       obtain ⟨px, cx, rfl, _⟩ := own_form h5.choose_spec.1
       have H5 := Lib.hid h5
       have HB5 : Hid (Below w4.heap.size w4 w5) := Lib.hid hb5
       clear h5 hb5)
    | (go_at_call 12
       refine (HAL.out _ (below_then HBW.out (below_then HB3.out (below_then HB4.out HB5.out)))).mono ?_
       rintro e w6 ⟨rfl, hb6⟩
       have HB6 : Hid (Below w5.heap.size w5 w6) := Lib.hid hb6
       clear hb6)
    | (go_at_call 13
       refine (sameAll_true (liveL x) _ _ _ ((H4.out.rows HN.out HN2.out).below (below_then HB5.out HB6.out)) ((H5.out.rows HN.out HN2.out).below HB6.out)).mono ?_
       rintro e w7 ⟨rfl, hb7⟩
       have HB7 : Hid (Below w5.heap.size w5 w7) := Lib.hid (below_then HB6.out hb7)
       clear hb7))
  clear a0 a1 a2 a3 b0 b1 b2 b3 HRV HAL HCP
  have HTA : Hid (TurnA (rb + 1) w4.heap.size w7.heap.size n 0 (lenN x) vs w7 w7) := Lib.hid ⟨Below.refl _ _, fun _ _ _ => rfl, fun b _ hb => ⟨_, own_below (H4.out.ah.rows b hb) (below_then HB5.out HB7.out)⟩, Nat.le_refl _, fun b q hb hq => ((H4.out.ah.rows b hb).lt q hq).2, H4.out.ah.apart, Nat.le_trans HB5.out.size HB7.out.size, Nat.le_trans (Nat.succ_le_of_lt H4.out.ah.lt) (Nat.le_trans HB5.out.size HB7.out.size)⟩
  have HBT : Hid (Below w4.heap.size w4 w7) := Lib.hid (below_then HB5.out HB7.out)
  have HRB : Hid (∀ k W, k < n → TurnA (rb + 1) w4.heap.size w7.heap.size n k (lenN x) vs w7 W → W.cell? ⟨rb, k, none⟩ = some (vs k)) := Lib.hid (fun k W hk ht => by
    rw [World.cell?_of_block ((ht.below.block rb (by omega)).trans (HBT.out.block rb H4.out.ah.lt))]
    exact (H4.out.ah.cell hk).1)
  have HB47 : Hid (Below W3.heap.size W3 w7) := Lib.hid (below_then HB4.out HBT.out)
  have HRN : Hid (W3.heap.size ≤ rb) := Lib.hid H4.out.new
  have nn : (n : Int) ≤ 20000 := by have := HN2.out; omega
  have nn0 : (0 : Int) ≤ n := by omega
  have HTW : Hid (∀ k W, TurnA (rb + 1) w4.heap.size w7.heap.size n k (lenN x) vs w7 W → Below W3.heap.size W3 W) := Lib.hid (fun k W ht => HB47.out.trans (ht.below.mono (Nat.le_succ_of_le HRN.out)))
  have H57 : Hid (RowsO w7 w4.heap.size (.slice px n cx) n (needN x)) := Lib.hid (H5.out.keep (fun g h1 h2 => HB7.out.block g h2))
  go_loopw [8] (fun i wr => ∃ k : Nat, k ≤ n ∧ i = .int .i64 k ∧ Hid (TurnA (rb + 1) w4.heap.size w7.heap.size n k (lenN x) vs w7 wr)) (fun i _ => n - (intOf i).toNat)
  case atStart => exact ⟨0, Nat.zero_le _, rfl, HTA⟩
  case round =>
    obtain ⟨k, hk, rfl, HT⟩ := hrel
    by_cases hkn : k < n
    · have ki : (k : Int) < n := by omega
      have k0 : (0 : Int) ≤ k := by omega
      have k4 : (k : Int) < 20000 := by omega
      obtain ⟨m, hm⟩ : ∃ m, m = lenN x k := ⟨_, rfl⟩
      have HM := Lib.hid hm
      have HM8 : Hid (m ≤ 8000) := Lib.hid (by rw [hm]; exact HLN.out k)
      have HK : Hid (k < n) := Lib.hid hkn
      clear hm
      go_upto_region 10 with (fail)
      go_loopw [9] (fun j wq => ∃ i : Nat, i ≤ m ∧ j = .int .i64 i ∧ Hid (TurnA (rb + 1) w4.heap.size w7.heap.size n k (lenN x) vs w7 wq)) (fun j _ => m - (intOf j).toNat)
      case atStart => exact ⟨0, Nat.zero_le _, rfl, HT⟩
      case round =>
        obtain ⟨i, him, rfl, HT2⟩ := hrel
        have c0 := HRB.out k wr HK.out HT2.out
        have m8 : (m : Int) ≤ 8000 := by have := HM8.out; omega
        have i0 : (0 : Int) ≤ i := by omega
        by_cases hi : i < m
        · obtain ⟨g, c, cs, hv, hc1, hc2, hg, hcs, hgB⟩ := HT2.out.row (Nat.le_refl _) HK.out (by rw [← HM.out]; omega)
          have HV := Lib.hid hv
          rw [← HM.out] at hv hc1
          rw [hv] at c0
          obtain ⟨u, hu⟩ : ∃ u, cs[i]? = some u := ⟨_, Array.getElem?_eq_getElem (by omega)⟩
          obtain ⟨q0, q1⟩ := cell_of_block hg hu
          have HNX : Hid (TurnA (rb + 1) w4.heap.size w7.heap.size n k (lenN x) vs w7 (wr.setCell ⟨g, i, none⟩ (.int .i64 (-7)))) := Lib.hid (HT2.out.set HK.out (by rw [← HM.out]; exact hi) HV.out _)
          have ii : (i : Int) < m := by omega
          have ic : (m : Int) ≤ c := by omega
          have ic2 : (c : Int) ≤ 9223372036854775807 := by omega
          have HII : Hid (i < m) := Lib.hid hi
          clear hv hc1 hc2 hg hcs hgB hu hi
          go_wp2
          exact ⟨⟨i + 1, by have := HII.out; omega, by go_num, HNX⟩, by have := HII.out; simp [intOf]; omega⟩
        · have hie : i = m := by omega
          have ii : ¬ ((i : Int) < m) := by omega
          obtain ⟨xs, hown⟩ := HT2.out.rows k (Nat.le_refl _) HK.out
          rw [← HM.out] at hown
          obtain ⟨pr, cr, hvr, _⟩ := own_form hown
          have HVR := Lib.hid hvr
          rw [hvr] at c0 hown
          have HO4 : Hid ((wr.alloc (.cells #[.int .i64 (-8)] 3)).ownsRow (rb + 1) 3 1 (.slice pr m cr) m xs) := Lib.hid (own_below hown (Graph.below_alloc wr _))
          have HNW := Lib.hid (news_one (w := wr) (x := (-8 : Int)) (H := wr.heap.size) (t := 3) rfl)
          have HSB : Hid (rb + 1 ≤ (wr.alloc (.cells #[.int .i64 (-8)] 3)).heap.size) := Lib.hid (by rw [World.size_alloc]; have := HT2.out.b7; have := HT2.out.sz; omega)
          have HT4 : Hid (TurnA (rb + 1) w4.heap.size w7.heap.size n k (lenN x) vs w7 (wr.alloc (.cells #[.int .i64 (-8)] 3))) := Lib.hid (HT2.out.turn (row := none) (World.grownBy_alloc _ _ _) (fun q hq => by cases hq) (Nat.le_refl _) (fun b _ _ => .inr (by cases (vs b).ownBlock <;> simp)))
          have HSZ : Hid (w7.heap.size ≤ (wr.alloc (.cells #[.int .i64 (-8)] 3)).heap.size) := Lib.hid HT4.out.sz
          clear hown hvr hie
          go_upto_region 14 with (
            at_builtin
            go_loud (refine wpList_append_lies _ (by rfl) _ _ 22 (by rfl) (rb + 1) 3 i0' _ 1 8 Tryd.underlying22 HI.out hz0 hz1 hz2 rfl (by omega) _ m _ (by rfl) HO4.out ⟨wr.heap.size, 0, none⟩ 1 1 [.int .i64 (-8)] (by first | rfl | simp) rfl HNW.out (by simp [Value.oneCell']) (by omega) (by unfold maxLen; have := HM8.out; omega) (by have := HM8.out; omega) HSB.out _ rfl ?_)
            intro g5 c5 w8 h5 h6 h7 h8
            have H5 := Lib.hid h5
            have H7 := Lib.hid h7
            have HT5 : Hid (TurnA (rb + 1) w4.heap.size w7.heap.size n (k + 1) (lenN x) vs w7 w8) := Lib.hid (HT4.out.turn h6 (fun q hq => by
              rw [← HVR.out] at hq
              obtain ⟨ys, h9⟩ := HT4.out.rows k (Nat.le_refl _) HK.out
              exact ⟨(h9.lt q hq).1, .inl (HT4.out.old k q HK.out hq)⟩) (Nat.le_succ _) (fun b hb hbn => .inr (by
              rw [← HVR.out]
              cases hq : (vs b).ownBlock with
              | none => exact .inl rfl
              | some q => exact .inr (fun e => HT4.out.apart b k q hbn HK.out (by omega) hq e.symm))))
            clear h5 h6 h7 h8)
          obtain ⟨xs5, ⟨e5, _⟩ | ⟨g6, c6, cs6, e5, hB6, hg6, hc6, hc6', hcs6, _⟩⟩ := H5.out
          · cases e5
          injection e5 with e6 _ e7
          injection e6 with e6
          injection e6 with e6
          subst e6 e7
          obtain ⟨u, hu⟩ : ∃ u, cs6[m]? = some u := ⟨_, Array.getElem?_eq_getElem (by omega)⟩
          obtain ⟨q0, q1⟩ := cell_of_block hg6 hu
          have HT6 : Hid (TurnA (rb + 1) w4.heap.size w7.heap.size n (k + 1) (lenN x) vs w7 (w8.setCell ⟨g5, m, none⟩ (.int .i64 (-9)))) := Lib.hid (HT5.out.turn (wq := w8.setCell ⟨g5, m, none⟩ (.int .i64 (-9))) (row := some g5) ⟨rfl, rfl, rfl, by rw [World.size_setCell]; exact Nat.le_refl _, fun q _ hne => heap_setCell_other w8 ⟨g5, m, none⟩ q _ (fun e => hne (by rw [e]))⟩ (fun q hq => by
              injection hq with hq
              subst hq
              rcases H7.out with h9 | h9
              · rw [← HVR.out] at h9
                exact ⟨hB6, .inl (HT4.out.old k _ HK.out h9)⟩
              · exact ⟨hB6, .inr (by rw [h9]; exact HSZ.out)⟩) (Nat.le_refl _) (fun b hb hbn => .inr (by
              cases hq : (vs b).ownBlock with
              | none => exact .inl rfl
              | some q =>
                right
                intro e
                injection e with e
                subst e
                rcases H7.out with h9 | h9
                · rw [← HVR.out] at h9
                  exact HT4.out.apart b k _ hbn HK.out (by omega) hq h9
                · have h10 := HT4.out.old b _ hbn hq
                  have h11 := HT4.out.s47
                  have h12 := HSZ.out
                  omega)))
          have ic : (m : Int) + 1 ≤ c5 := by omega
          have ic2 : (c5 : Int) ≤ 9223372036854775807 := by unfold maxLen at hc6'; omega
          have m0 : (0 : Int) ≤ m := by omega
          clear hg6 hc6 hc6' hcs6 hu xs5 c0 hB6
          go_wp2
          exact ⟨⟨k + 1, by have := HK.out; omega, by go_num, HT6⟩, by have := HK.out; simp [intOf]; omega⟩
    · have hkn2 : k = n := by omega
      have ki : ¬ ((k : Int) < n) := by omega
      have HBR : Hid (Below W3.heap.size W3 wr) := Lib.hid (HTW.out _ _ HT.out)
      have HXR : Hid (RowsO wr w4.heap.size (.slice px n cx) n (needN x)) := Lib.hid (H57.out.keep (fun g h1 h2 => HT.out.mid g h1 h2))
      obtain ⟨a0, a1, a2, a3⟩ := HBX3.out wr HBR.out
      clear hkn hkn2
      go_wp2_with (first
      | (go_at_call 10
         refine (HLV.out _ _ _ _ (HL2.out.below (below_then HB3.out HBR.out)) (below_then HBW.out (below_then HB3.out HBR.out))).mono ?_
         rintro e w9 ⟨rb9, vs9, rfl, h9⟩
         have H9 : Hid (LiveOut x n rb9 vs9 wr w9) := Lib.hid h9
         clear h9)
      | (go_at_call 13
         refine (sameAll_true (liveL x) _ _ _ (H9.out.rows HN.out HN2.out) ((HXR.out.rows HN.out HN2.out).below H9.out.below)).mono ?_
         rintro e w10 ⟨rfl, hb10⟩
         have HB10 : Hid (Below w.heap.size w w10) := Lib.hid (below_then HBW.out (below_then HB3.out (below_then HBR.out (below_then H9.out.below hb10))))
         clear hb10))
      go_ret
      exact ⟨rfl, HB10.out⟩
theorem liveTells_any (x : PGr) (vp va vb : Value) (w : World) (h : GrL w vp va vb x) (hs : SmG x) (hT : TabAt 0 Lib.deBruijn64tab w) (h0 : 0 < w.heap.size) :
    Calls Tryd.prog 3 #[grV x vp va vb] w (Is (.bool true) w) := by
  cases hf : fitsB x with
  | false => exact liveTells_no x vp va vb w h hs hT h0 hf
  | true => exact liveTells_ok x vp va vb w h hs hT h0 hf
end Go.Proofs.YtcijaaiopfbffaaDoor.Live
