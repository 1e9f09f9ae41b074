/- The law FrameTells, at any graph. No condition but sizes and the table of bits. -/
import Derived.Test.YtcijaaiopfbffaaDoorGE
import Derived.Test.YtcijaaiopfbffaaDoorFC
import Derived.Test.YtcijaaiopfbffaaDoorKD2
import Derived.Test.YtcijaaiopfbffaaDoorLtN
namespace Go.Proofs.YtcijaaiopfbffaaDoor.Live
open Go.RowKit Go.Proofs.YtcijaaiopfbffaaDoor.Graph Go.Shelf

/-- What a Lay answers, whether it refuses or not. -/
def LayA (A S L N c : Int) (l : List Nat) (w : World) (e : Ending) (w' : World) : Prop :=
  ∃ v, e = .returned (.tuple #[.agg #[.int .i64 A, v, .int .i64 S, .int .i64 L, .int .i64 N], .int .i64 c]) ∧ w'.ownsRow w.heap.size 3 1 v l.length (l.map iN) ∧ Below w.heap.size w w'
theorem LayA.of_post {x : PGr} {w w' : World} {e : Ending} (h : LayPost x w e w') : LayA (argsOf x) (slotsOf x) (localW x.arrays) (wordsN x) 0 (regsOf x) w e w' := h
theorem LayA.of_no {w w' : World} {e : Ending} (h : e = .returned (.tuple #[layNo, .int .i64 1]) ∧ Below w.heap.size w w') : LayA 0 0 0 0 1 [] w e w' :=
  ⟨.slice none 0 0, h.1, World.ownsRow_nil _ _ _ _, h.2⟩
def len1 (m : Nat) : Nat → Nat := fun _ => m
def vs1 (v : Value) : Nat → Value := fun _ => v
def WtA (t c : Int) (w : World) (e : Ending) (w' : World) : Prop := e = .returned (.tuple #[.int .i64 t, .int .i64 c]) ∧ Below w.heap.size w w'
set_option maxHeartbeats 16000000 in
set_option maxRecDepth 100000 in
theorem frameTells_core (x : PGr) (vp va vb : Value) (w : World) (h : GrL w vp va vb x) (hs : SmG x) (hT : TabAt 0 Lib.deBruijn64tab w) (h0 : 0 < w.heap.size) (A S L N t9 c9 : Int) (l : List Nat) (hl : l.length ≤ 9)
    (HLY : Hid (∀ (W : World) (p a b : Value), GrL W p a b x → Below w.heap.size w W → Calls Tryd.prog 22 #[grV x p a b] W (LayA A S L N c9 l W)))
    (HRY : Hid (∀ (W : World), Below w.heap.size w W → Calls Tryd.prog 23 #[grV x vp va vb] W (LayA A S L N c9 l W)))
    (HWT : Hid (∀ (W : World) (p a b : Value), GrL W p a b x → Below w.heap.size w W → Calls Tryd.prog 24 #[grV x p a b] W (WtA t9 c9 W)))
    (HRW : Hid (∀ (W : World), Below w.heap.size w W → Calls Tryd.prog 25 #[grV x vp va vb] W (WtA t9 c9 W))) :
    Calls Tryd.prog 7 #[grV x vp va vb] w (Is (.bool true) w) := by
  have HG := Lib.hid h
  have HCP := Lib.hid (fun (W : World) (hW : Below w.heap.size w W) => copied19_any x _ _ _ W (HG.out.below hW) hs)
  have HSG := Lib.hid (fun (W : World) (p a b : Value) (hO : GrL W p a b x) (hW : Below w.heap.size w W) => sameGraph10_any x p a b vp va vb W hO (HG.out.below hW))
  obtain ⟨pp, pc, rfl⟩ := h.params.form
  obtain ⟨ap, ac, rfl⟩ := h.arrays.form
  obtain ⟨bp, bc, rfl⟩ := h.blocks.form
  have HAL := Lib.hid (fun (W : World) (hW : Below w.heap.size w W) => live19_any W (tab_below hT h0 hW) (Nat.lt_of_lt_of_le h0 hW.size))
  have HB1 := Lib.hid (Graph.below_alloc w (.cells #[.slice pp x.params.length pc, .int .i64 x.temps, .slice ap x.arrays.length ac, .slice bp x.blocks.length bc] 26))
  have HX1 := Lib.hid (heap_new w (.cells #[.slice pp x.params.length pc, .int .i64 x.temps, .slice ap x.arrays.length ac, .slice bp x.blocks.length bc] 26))
  unfold CopiedG at HCP
  unfold grV at HCP HSG HLY HRY HWT HRW ⊢
  unfold LayA at HLY HRY
  unfold WtA at HWT HRW
  obtain ⟨i0', hi, hz0, hz1, hz2⟩ := info_parts info_int
  have HI := Lib.hid hi
  obtain ⟨m, hm⟩ : ∃ m, m = l.length := ⟨_, rfl⟩
  rw [← hm] at HLY HRY hl
  have HM := Lib.hid hm
  have HM9 := Lib.hid hl
  clear h hs hT h0 hi hm hl
  go_enter Tryd.func7, Tryd.ntmps7
  go_upto_region 2 with (
    go_at_call 21
    refine (HCP.out _ HB1.out).mono ?_
    rintro e w2 ⟨pq, aq, bq, pc2, ac2, bc2, rfl, hl2, hb2⟩
    have HL2 := Lib.hid (GrL.holds (cut_out _ _) hl2)
    have HB2 := Lib.hid hb2
    clear hl2 hb2)
  have HB3 := Lib.hid (Graph.below_alloc w2 (.cells #[.slice pq x.params.length pc2, .int .i64 x.temps, .slice aq x.arrays.length ac2, .slice bq x.blocks.length bc2] 26))
  have HX3 := Lib.hid (heap_new w2 (.cells #[.slice pq x.params.length pc2, .int .i64 x.temps, .slice aq x.arrays.length ac2, .slice bq x.blocks.length bc2] 26))
  have HBX1 : Hid (∀ W, Below w2.heap.size w2 W → W.cell? ⟨w.heap.size, 0, none⟩ = some (.slice pp x.params.length pc) ∧ W.cell? ⟨w.heap.size, 1, none⟩ = some (.int .i64 x.temps) ∧ W.cell? ⟨w.heap.size, 2, none⟩ = some (.slice ap x.arrays.length ac) ∧ W.cell? ⟨w.heap.size, 3, none⟩ = some (.slice bp x.blocks.length bc)) := Lib.hid (fun W hW => by
    have hb := ((below_then HB2.out hW).block _ (Array.getElem?_eq_some_iff.1 HX1.out).1).trans HX1.out
    exact ⟨(cell_of_block hb (k := 0) rfl).1, (cell_of_block hb (k := 1) rfl).1, (cell_of_block hb (k := 2) rfl).1, (cell_of_block hb (k := 3) rfl).1⟩)
  generalize w2.alloc (.cells #[.slice pq x.params.length pc2, .int .i64 x.temps, .slice aq x.arrays.length ac2, .slice bq x.blocks.length bc2] 26) = W3 at HB3 HX3 ⊢
  have HBX3 : Hid (∀ W, Below W3.heap.size W3 W → W.cell? ⟨w2.heap.size, 0, none⟩ = some (.slice pq x.params.length pc2) ∧ W.cell? ⟨w2.heap.size, 1, none⟩ = some (.int .i64 x.temps) ∧ W.cell? ⟨w2.heap.size, 2, none⟩ = some (.slice aq x.arrays.length ac2) ∧ W.cell? ⟨w2.heap.size, 3, none⟩ = some (.slice bq x.blocks.length bc2)) := Lib.hid (fun W hW => by
    have hb := (hW.block _ (Array.getElem?_eq_some_iff.1 HX3.out).1).trans HX3.out
    exact ⟨(cell_of_block hb (k := 0) rfl).1, (cell_of_block hb (k := 1) rfl).1, (cell_of_block hb (k := 2) rfl).1, (cell_of_block hb (k := 3) rfl).1⟩)
  have HBW : Hid (Below w.heap.size w w2) := Lib.hid (below_then HB1.out HB2.out)
  have HBW3 : Hid (Below w.heap.size w W3) := Lib.hid (below_then HBW.out HB3.out)
  obtain ⟨a0, a1, a2, a3⟩ := HBX3.out W3 (Below.refl _ _)
  go_upto_region 3 with (
    go_at_call 22
    refine (HLY.out _ _ _ _ (HL2.out.below HB3.out) HBW3.out).mono ?_
    rintro e w4 ⟨v4, rfl, hv4, hb4⟩
    have HV4 := Lib.hid hv4
    have HB4 : Hid (Below W3.heap.size W3 w4) := Lib.hid hb4
    obtain ⟨p4, c4, rfl, _⟩ := own_form hv4
    clear hb4 hv4)
  clear a0 a1 a2 a3
  have HX5 := Lib.hid (heap_new w4 (.cells #[.int .i64 A, .slice p4 m c4, .int .i64 S, .int .i64 L, .int .i64 N] 51))
  have HB5 := Lib.hid (Graph.below_alloc w4 (.cells #[.int .i64 A, .slice p4 m c4, .int .i64 S, .int .i64 L, .int .i64 N] 51))
  generalize w4.alloc (.cells #[.int .i64 A, .slice p4 m c4, .int .i64 S, .int .i64 L, .int .i64 N] 51) = W5 at HX5 HB5 ⊢
  have HBW5 : Hid (Below w2.heap.size w2 W5) := Lib.hid (below_then HB3.out (below_then HB4.out HB5.out))
  obtain ⟨b0, b1, b2, b3⟩ := HBX1.out W5 HBW5.out
  go_upto_region 4 with (
    go_at_call 23
    refine (HRY.out _ (below_then HBW.out HBW5.out)).mono ?_
    rintro e w6 ⟨v6, rfl, hv6, hb6⟩
    have HV6 := Lib.hid hv6
    have HB6 : Hid (Below W5.heap.size W5 w6) := Lib.hid hb6
    obtain ⟨p6, c6, rfl, _⟩ := own_form hv6
    clear hb6 hv6)
  clear b0 b1 b2 b3
  have HX7 := Lib.hid (heap_new w6 (.cells #[.int .i64 A, .slice p6 m c6, .int .i64 S, .int .i64 L, .int .i64 N] 51))
  have HB7 := Lib.hid (Graph.below_alloc w6 (.cells #[.int .i64 A, .slice p6 m c6, .int .i64 S, .int .i64 L, .int .i64 N] 51))
  generalize w6.alloc (.cells #[.int .i64 A, .slice p6 m c6, .int .i64 S, .int .i64 L, .int .i64 N] 51) = W7 at HX7 HB7 ⊢
  have HBL : Hid (∀ W, Below W7.heap.size W7 W → (W.cell? ⟨w4.heap.size, 0, none⟩ = some (.int .i64 A) ∧ W.cell? ⟨w4.heap.size, 1, none⟩ = some (.slice p4 m c4) ∧ W.cell? ⟨w4.heap.size, 2, none⟩ = some (.int .i64 S) ∧ W.cell? ⟨w4.heap.size, 3, none⟩ = some (.int .i64 L) ∧ W.cell? ⟨w4.heap.size, 4, none⟩ = some (.int .i64 N)) ∧ W.cell? ⟨w6.heap.size, 0, none⟩ = some (.int .i64 A) ∧ W.cell? ⟨w6.heap.size, 1, none⟩ = some (.slice p6 m c6) ∧ W.cell? ⟨w6.heap.size, 2, none⟩ = some (.int .i64 S) ∧ W.cell? ⟨w6.heap.size, 3, none⟩ = some (.int .i64 L) ∧ W.cell? ⟨w6.heap.size, 4, none⟩ = some (.int .i64 N)) := Lib.hid (fun W hW => by
    have hb := ((below_then HB6.out (below_then HB7.out hW)).block _ (Array.getElem?_eq_some_iff.1 HX5.out).1).trans HX5.out
    have hc := (hW.block _ (Array.getElem?_eq_some_iff.1 HX7.out).1).trans HX7.out
    exact ⟨⟨(cell_of_block hb (k := 0) rfl).1, (cell_of_block hb (k := 1) rfl).1, (cell_of_block hb (k := 2) rfl).1, (cell_of_block hb (k := 3) rfl).1, (cell_of_block hb (k := 4) rfl).1⟩, (cell_of_block hc (k := 0) rfl).1, (cell_of_block hc (k := 1) rfl).1, (cell_of_block hc (k := 2) rfl).1, (cell_of_block hc (k := 3) rfl).1, (cell_of_block hc (k := 4) rfl).1⟩)
  have HBW7 : Hid (Below W3.heap.size W3 W7) := Lib.hid (below_then HB4.out (below_then HB5.out (below_then HB6.out HB7.out)))
  obtain ⟨a0, a1, a2, a3⟩ := HBX3.out W7 HBW7.out
  go_upto_region 6 with (first
    | (go_at_call 24
       refine (HWT.out _ _ _ _ (HL2.out.below (below_then HB3.out HBW7.out)) (below_then HBW3.out HBW7.out)).mono ?_
       rintro e w8 ⟨rfl, hb8⟩
       have HB8 : Hid (Below W7.heap.size W7 w8) := Lib.hid hb8
       obtain ⟨b0, b1, b2, b3⟩ := HBX1.out w8 (below_then HB3.out (below_then HBW7.out hb8))
       clear hb8)
    | (go_at_call 25
       refine (HRW.out _ (below_then HBW3.out (below_then HBW7.out HB8.out))).mono ?_
       rintro e w9 ⟨rfl, hb9⟩
       have HB9 : Hid (Below W7.heap.size W7 w9) := Lib.hid (below_then HB8.out hb9)
       clear hb9))
  clear a0 a1 a2 a3 b0 b1 b2 b3
  go_upto_region 9 with (first
    | (go_at_call 26
       refine (HAL.out _ (below_then HBW3.out (below_then HBW7.out HB9.out))).mono ?_
       rintro e w10 ⟨rfl, hb10⟩
       have HB10 : Hid (Below W7.heap.size W7 w10) := Lib.hid (below_then HB9.out hb10)
       obtain ⟨⟨d0, d1, d2, d3, d4⟩, f0, f1, f2, f3, f4⟩ := HBL.out w10 HB10.out
       clear hb10)
    | (go_at_call 27
       refine (laySame_true A S L N (l.map fun (k : Nat) => (k : Int)) _ _ _ (by first | exact (ints_own (by rw [← HM.out]; exact HV4.out)).below (below_then HB5.out (below_then HB6.out (below_then HB7.out HB10.out)))) (by exact (ints_own (by rw [← HM.out]; exact HV6.out)).below (below_then HB7.out HB10.out))).mono ?_
       rintro e w11 ⟨rfl, hb11⟩
       have HB11 : Hid (Below W7.heap.size W7 w11) := Lib.hid (below_then HB10.out hb11)
       clear hb11))
  clear d0 d1 d2 d3 d4 f0 f1 f2 f3 f4
  have HB411 : Hid (Below w4.heap.size w4 w11) := Lib.hid (below_then HB5.out (below_then HB6.out (below_then HB7.out HB11.out)))
  have HTA : Hid (TurnA W3.heap.size w4.heap.size w11.heap.size 1 0 (len1 m) (vs1 (.slice p4 m c4)) w11 w11) := Lib.hid ⟨Below.refl _ _, fun _ _ _ => rfl, fun b _ _ => ⟨l.map iN, own_below HV4.out HB411.out⟩, Nat.le_refl _, fun b q _ hq => (HV4.out.lt q hq).2, fun b c q hb hc hbc => absurd (by omega : b = c) hbc, HB411.out.size, Nat.le_trans HB4.out.size HB411.out.size⟩
  have HTW : Hid (∀ k W, TurnA W3.heap.size w4.heap.size w11.heap.size 1 k (len1 m) (vs1 (.slice p4 m c4)) w11 W → Below W3.heap.size W3 W) := Lib.hid (fun k W ht => (below_then HB4.out HB411.out).trans ht.below)
  have HTL : Hid (∀ k W, TurnA W3.heap.size w4.heap.size w11.heap.size 1 k (len1 m) (vs1 (.slice p4 m c4)) w11 W → W.cell? ⟨w4.heap.size, 1, none⟩ = some (.slice p4 m c4)) := Lib.hid (fun k W ht => by
    have h1 := (HBL.out w11 HB11.out).1.2.1
    rw [← h1]
    exact World.cell?_of_block (ht.mid _ (Nat.le_refl _) (Nat.lt_of_lt_of_le (by have := (Array.getElem?_eq_some_iff.1 HX5.out).1; omega) (Nat.le_trans (below_then HB6.out (below_then HB7.out HB11.out)).size (Nat.le_refl _)))))
  have m9 : (m : Int) ≤ 9 := by have := HM9.out; omega
  have m0 : (0 : Int) ≤ m := by omega
  go_loopw [12] (fun j wq => ∃ i : Nat, i ≤ m ∧ j = .int .i64 i ∧ Hid (TurnA W3.heap.size w4.heap.size w11.heap.size 1 0 (len1 m) (vs1 (.slice p4 m c4)) w11 wq)) (fun j _ => m - (intOf j).toNat)
  case atStart => exact ⟨0, Nat.zero_le _, rfl, HTA⟩
  case round =>
    obtain ⟨i, him, rfl, HT2⟩ := hrel
    have c0 := HTL.out _ wr HT2.out
    have i0 : (0 : Int) ≤ i := by omega
    by_cases hi : i < m
    · obtain ⟨g, c, cs, hv, hc1, hc2, hg, hcs, hgB⟩ := HT2.out.row (m := 0) (Nat.le_refl _) (by decide) (by show 0 < m; omega)
      have hv2 : Value.slice p4 m c4 = .slice (some ⟨g, 0, none⟩) m c := hv
      injection hv2 with e1 e2 e3
      clear e2
      have hc1 : m ≤ c := hc1
      obtain ⟨u, hu⟩ : ∃ u, cs[i]? = some u := ⟨_, Array.getElem?_eq_getElem (by omega)⟩
      obtain ⟨q0, q1⟩ := cell_of_block hg hu
      have HNX : Hid (TurnA W3.heap.size w4.heap.size w11.heap.size 1 0 (len1 m) (vs1 (.slice p4 m c4)) w11 (wr.setCell ⟨g, i, none⟩ (.int .i64 (-7)))) := Lib.hid (HT2.out.set (by decide) (by show i < m; exact hi) hv _)
      have ii : (i : Int) < m := by omega
      have ic : (m : Int) ≤ c := by omega
      have ic2 : (c : Int) ≤ 9223372036854775807 := by omega
      have HII : Hid (i < m) := Lib.hid hi
      rw [e1, e3] at c0
      clear hv e1 e3 hc1 hc2 hg hcs hgB hu hi
      go_wp2
      exact ⟨⟨i + 1, by have := HII.out; omega, by go_num, HNX⟩, by have := HII.out; simp [intOf]; omega⟩
    · have hie : i = m := by omega
      have ii : ¬ ((i : Int) < m) := by omega
      obtain ⟨xs, hown0⟩ := HT2.out.rows 0 (Nat.le_refl _) (by decide)
      have hown : wr.ownsRow W3.heap.size 3 1 (.slice p4 m c4) m xs := hown0
      have HO4 : Hid ((wr.alloc (.cells #[.int .i64 (-8)] 3)).ownsRow W3.heap.size 3 1 (.slice p4 m c4) m xs) := Lib.hid (own_below hown (Graph.below_alloc wr _))
      have HNW := Lib.hid (news_one (w := wr) (x := (-8 : Int)) (H := wr.heap.size) (t := 3) rfl)
      have HSB : Hid (W3.heap.size ≤ (wr.alloc (.cells #[.int .i64 (-8)] 3)).heap.size) := Lib.hid (by rw [World.size_alloc]; have := HT2.out.b7; have := HT2.out.sz; omega)
      have HT4 : Hid (TurnA W3.heap.size w4.heap.size w11.heap.size 1 0 (len1 m) (vs1 (.slice p4 m c4)) w11 (wr.alloc (.cells #[.int .i64 (-8)] 3))) := Lib.hid (HT2.out.turn (row := none) (World.grownBy_alloc _ _ _) (fun q hq => by cases hq) (Nat.le_refl _) (fun b _ _ => .inr (by cases (vs1 (.slice p4 m c4) b).ownBlock <;> simp)))
      have HSZ : Hid (w11.heap.size ≤ (wr.alloc (.cells #[.int .i64 (-8)] 3)).heap.size) := Lib.hid HT4.out.sz
      clear hown hown0 hie hi
      go_upto_region 13 with (
        at_builtin
        go_loud (refine wpList_append_lies _ (by rfl) _ _ 22 (by rfl) W3.heap.size 3 i0' _ 1 8 Tryd.underlying22 HI.out hz0 hz1 hz2 rfl (by omega) _ m _ (by rfl) HO4.out ⟨wr.heap.size, 0, none⟩ 1 1 [.int .i64 (-8)] (by first | rfl | simp) rfl HNW.out (by simp [Value.oneCell']) (by omega) (by unfold maxLen; have := HM9.out; omega) (by have := HM9.out; omega) HSB.out _ rfl ?_)
        intro g5 c5 w8 h5 h6 h7 h8
        have H5 := Lib.hid h5
        have H7 := Lib.hid h7
        have HT5 : Hid (TurnA W3.heap.size w4.heap.size w11.heap.size 1 1 (len1 m) (vs1 (.slice p4 m c4)) w11 w8) := Lib.hid (HT4.out.turn h6 (fun q hq => ⟨(HO4.out.lt q hq).1, .inl (HT4.out.old 0 q (by decide) hq)⟩) (Nat.le_succ _) (fun b hb hbn => absurd hb (by omega)))
        clear h5 h6 h7 h8)
      obtain ⟨xs5, ⟨e5, _⟩ | ⟨g6, c6', cs6, e5, hB6, hg6, hc6, hc6', hcs6, _⟩⟩ := H5.out
      · cases e5
      injection e5 with e6 _ e7
      injection e6 with e6
      injection e6 with e6
      subst e6 e7
      obtain ⟨u, hu⟩ : ∃ u, cs6[m]? = some u := ⟨_, Array.getElem?_eq_getElem (by omega)⟩
      obtain ⟨q0, q1⟩ := cell_of_block hg6 hu
      have HT6 : Hid (TurnA W3.heap.size w4.heap.size w11.heap.size 1 1 (len1 m) (vs1 (.slice p4 m c4)) w11 (w8.setCell ⟨g5, m, none⟩ (.int .i64 (-9)))) := Lib.hid (HT5.out.turn (wq := w8.setCell ⟨g5, m, none⟩ (.int .i64 (-9))) (row := some g5) ⟨rfl, rfl, rfl, by rw [World.size_setCell]; exact Nat.le_refl _, fun q _ hne => heap_setCell_other w8 ⟨g5, m, none⟩ q _ (fun e => hne (by rw [e]))⟩ (fun q hq => by
          injection hq with hq
          subst hq
          rcases H7.out with h9 | h9
          · exact ⟨hB6, .inl (HT4.out.old 0 _ (by decide) h9)⟩
          · exact ⟨hB6, .inr (by rw [h9]; exact HSZ.out)⟩) (Nat.le_refl _) (fun b hb hbn => absurd hb (by omega)))
      have ic : (m : Int) + 1 ≤ c5 := by omega
      have ic2 : (c5 : Int) ≤ 9223372036854775807 := by unfold maxLen at hc6'; omega
      clear hg6 hc6 hc6' hcs6 hu xs5 c0 hB6
      go_upto_region 14 with (fail)
      clear q0 q1 ic ic2 HT5 H5 H7
      have HBR : Hid (Below W3.heap.size W3 (w8.setCell ⟨g5, m, none⟩ (.int .i64 (-9)))) := Lib.hid (HTW.out _ _ HT6.out)
      have HMID : Hid (∀ g, w4.heap.size ≤ g → g < w11.heap.size → (w8.setCell ⟨g5, m, none⟩ (.int .i64 (-9))).heap[g]? = w11.heap[g]?) := Lib.hid HT6.out.mid
      generalize w8.setCell ⟨g5, m, none⟩ (.int .i64 (-9)) = W12 at HBR HMID ⊢
      have HV12 : Hid (W12.ownsRow W5.heap.size 3 1 (.slice p6 m c6) m (l.map iN)) := Lib.hid (by
        refine own_keep (own_below HV6.out (below_then HB7.out HB11.out)) fun g hg => ?_
        have h1 := (HV6.out.lt g hg)
        exact HMID.out g (Nat.le_trans HB5.out.size h1.1) (Nat.lt_of_lt_of_le h1.2 (below_then HB7.out HB11.out).size))
      have HX12 : Hid (W12.heap[w6.heap.size]? = some (.cells #[.int .i64 A, .slice p6 m c6, .int .i64 S, .int .i64 L, .int .i64 N] 51 (0, 0))) := Lib.hid (by
        have h1 := (Array.getElem?_eq_some_iff.1 HX7.out).1
        rw [HMID.out _ (below_then HB5.out HB6.out).size (Nat.lt_of_lt_of_le h1 HB11.out.size)]
        exact (HB11.out.block _ h1).trans HX7.out)
      clear HMID
      obtain ⟨a0, a1, a2, a3⟩ := HBX3.out W12 HBR.out
      go_upto_region 15 with (
        go_at_call 22
        refine (HLY.out _ _ _ _ (HL2.out.below (below_then HB3.out HBR.out)) (below_then HBW3.out HBR.out)).mono ?_
        rintro e w13 ⟨v13, rfl, hv13, hb13⟩
        have HV13 := Lib.hid hv13
        have HB13 : Hid (Below W12.heap.size W12 w13) := Lib.hid hb13
        obtain ⟨p13, c13, rfl, _⟩ := own_form hv13
        clear hb13 hv13)
      clear a0 a1 a2 a3
      have HX14 := Lib.hid (heap_new w13 (.cells #[.int .i64 A, .slice p13 m c13, .int .i64 S, .int .i64 L, .int .i64 N] 51))
      have HB14 := Lib.hid (Graph.below_alloc w13 (.cells #[.int .i64 A, .slice p13 m c13, .int .i64 S, .int .i64 L, .int .i64 N] 51))
      generalize w13.alloc (.cells #[.int .i64 A, .slice p13 m c13, .int .i64 S, .int .i64 L, .int .i64 N] 51) = W14 at HX14 HB14 ⊢
      obtain ⟨d0, _⟩ := cell_of_block HX14.out (k := 0) rfl
      obtain ⟨d1, _⟩ := cell_of_block HX14.out (k := 1) rfl
      obtain ⟨d2, _⟩ := cell_of_block HX14.out (k := 2) rfl
      obtain ⟨d3, _⟩ := cell_of_block HX14.out (k := 3) rfl
      obtain ⟨d4, _⟩ := cell_of_block HX14.out (k := 4) rfl
      have hx6 := ((below_then HB13.out HB14.out).block _ (Array.getElem?_eq_some_iff.1 HX12.out).1).trans HX12.out
      obtain ⟨f0, _⟩ := cell_of_block hx6 (k := 0) rfl
      obtain ⟨f1, _⟩ := cell_of_block hx6 (k := 1) rfl
      obtain ⟨f2, _⟩ := cell_of_block hx6 (k := 2) rfl
      obtain ⟨f3, _⟩ := cell_of_block hx6 (k := 3) rfl
      obtain ⟨f4, _⟩ := cell_of_block hx6 (k := 4) rfl
      clear hx6
      go_wp2_with (first
        | (go_at_call 27
           refine (laySame_true A S L N (l.map fun (k : Nat) => (k : Int)) _ _ _ ((ints_own (by rw [← HM.out]; exact HV13.out)).below HB14.out) ((ints_own (by rw [← HM.out]; exact HV12.out)).below (below_then HB13.out HB14.out))).mono ?_
           rintro e w15 ⟨rfl, hb15⟩
           have HB15 : Hid (Below W3.heap.size W3 w15) := Lib.hid (below_then HBR.out (below_then HB13.out (below_then HB14.out hb15)))
           obtain ⟨a0, a1, a2, a3⟩ := HBX3.out w15 HB15.out
           obtain ⟨b0, b1, b2, b3⟩ := HBX1.out w15 (below_then HB3.out HB15.out)
           clear hb15)
        | (go_at_call 28
           refine (HSG.out _ _ _ _ (HL2.out.below (below_then HB3.out HB15.out)) (below_then HBW3.out HB15.out)).mono ?_
           rintro e w16 ⟨rfl, hb16⟩
           have HB16 := Lib.hid hb16
           clear hb16))
      go_ret
      exact ⟨rfl, below_then HBW3.out (below_then HB15.out HB16.out)⟩
theorem frameTells_any (x : PGr) (vp va vb : Value) (w : World) (h : GrL w vp va vb x) (hs : SmG x) (hT : TabAt 0 Lib.deBruijn64tab w) (h0 : 0 < w.heap.size) :
    Calls Tryd.prog 7 #[grV x vp va vb] w (Is (.bool true) w) := by
  cases hff : frameFit x with
  | false =>
    exact frameTells_core x vp va vb w h hs hT h0 0 0 0 0 0 1 [] (by decide)
      (Lib.hid fun W p a b hO hW => (lay_no x p a b W hO hs.n (tab_below hT h0 hW) (Nat.lt_of_lt_of_le h0 hW.size) hff).mono fun e w' h => LayA.of_no h)
      (Lib.hid fun W hW => (lay19_no x vp va vb W (h.below hW) hs hff).mono fun e w' h => LayA.of_no h)
      (Lib.hid fun W p a b hO hW => (weight_no x p a b W hO hs.n (tab_below hT h0 hW) (Nat.lt_of_lt_of_le h0 hW.size) hff).mono fun e w' h => h)
      (Lib.hid fun W hW => (weight19_no x vp va vb W (h.below hW) hs hff).mono fun e w' h => h)
  | true =>
    exact frameTells_core x vp va vb w h hs hT h0 (argsOf x) (slotsOf x) (localW x.arrays) (wordsN x) (4 * wordsN x) 0 (regsOf x) (regQ_len _ _)
      (Lib.hid fun W p a b hO hW => (lay_ok x p a b W hO hs.n (tab_below hT h0 hW) (Nat.lt_of_lt_of_le h0 hW.size) hff).mono fun e w' h => LayA.of_post h)
      (Lib.hid fun W hW => (lay19_ok x vp va vb W (h.below hW) hs hff).mono fun e w' h => LayA.of_post h)
      (Lib.hid fun W p a b hO hW => (weight_ok x p a b W hO hs.n (tab_below hT h0 hW) (Nat.lt_of_lt_of_le h0 hW.size) hff).mono fun e w' h => h)
      (Lib.hid fun W hW => (weight19_ok x vp va vb W (h.below hW) hs hff).mono fun e w' h => h)
end Go.Proofs.YtcijaaiopfbffaaDoor.Live
