/- frame's Lay. No condition but sizes and the table of bits. -/
import Derived.Test.YtcijaaiopfbffaaDoorFA
import Derived.Deep.RegionHeld3
import Derived.IntWalk
namespace Go.Proofs.YtcijaaiopfbffaaDoor.Live
open Go.RowKit Go.Proofs.YtcijaaiopfbffaaDoor.Graph Go.Shelf

def frameFit (g : PGr) : Bool := fitsB g && (parsFit g.temps g.params && arrsFit g.arrays)
noncomputable def regsOf (g : PGr) : List Nat := regQ (kAll g (needL g 0)) 9
def argsOf (g : PGr) : Int := g.params.length + handW g.arrays
def slotsOf (g : PGr) : Int := max 0 (g.temps - 9)
noncomputable def wordsN (g : PGr) : Int := argsOf g + (regsOf g).length + slotsOf g + localW g.arrays
def layNo : Value := .agg #[.int .i64 0, .slice none 0 0, .int .i64 0, .int .i64 0, .int .i64 0]
theorem own_keep {w w' : World} {B n : Nat} {e : TypeId} {v : Value} {xs : List Value} (h : w.ownsRow B e 1 v n xs) (hk : ∀ g, v.ownBlock = some g → w'.heap[g]? = w.heap[g]?) : w'.ownsRow B e 1 v n xs := by
  obtain ⟨h1, h2 | ⟨g, cap, cur, rfl, hB, hg, h3⟩⟩ := h
  · exact ⟨h1, .inl h2⟩
  · exact ⟨h1, .inr ⟨g, cap, cur, rfl, hB, (hk g rfl).trans hg, h3⟩⟩
theorem own_base {w : World} {B B' n : Nat} {e : TypeId} {v : Value} {xs : List Value} (h : w.ownsRow B e 1 v n xs) (hB : B' ≤ B) : w.ownsRow B' e 1 v n xs := by
  obtain ⟨h1, h2 | ⟨g, cap, cur, rfl, hg0, hg, h3⟩⟩ := h
  · exact ⟨h1, .inl h2⟩
  · exact ⟨h1, .inr ⟨g, cap, cur, rfl, Nat.le_trans hB hg0, hg, h3⟩⟩
theorem par_nonneg {m : Int} {l : List Int} (h : parsFit m l = true) : ∀ p ∈ l, 0 ≤ p ∧ p < m := fun p hp => by
  obtain ⟨i, hi, e⟩ := List.mem_iff_getElem.1 hp
  unfold parsFit at h
  rw [Bool.and_eq_true] at h
  have h1 := List.all_eq_true.1 h.2 i (List.mem_range.2 hi)
  rw [parOk_at (List.getElem?_eq_getElem hi), e, Bool.and_eq_true] at h1
  have := h1.1
  unfold belowB at this
  simp only [Bool.and_eq_true, decide_eq_true_eq] at this
  exact this
theorem needL_nonneg (x : PGr) (b : Nat) : ∀ t ∈ needL x b, 0 ≤ t := fun t ht => by
  unfold needL at ht
  obtain ⟨k, _, rfl⟩ := List.mem_map.1 ht
  omega
def set5 (w : World) (b : Nat) (v0 v1 v2 v3 v4 : Value) : World := ((((w.setCell ⟨b, 0, none⟩ v0).setCell ⟨b, 1, none⟩ v1).setCell ⟨b, 2, none⟩ v2).setCell ⟨b, 3, none⟩ v3).setCell ⟨b, 4, none⟩ v4
theorem five {w : World} {b : Nat} {c0 c1 c2 c3 c4 : Value} {t : TypeId} (h : w.heap[b]? = some (.cells #[c0, c1, c2, c3, c4] t (0, 0))) (v0 v1 v2 v3 v4 : Value) :
    (set5 w b v0 v1 v2 v3 v4).heap[b]? = some (.cells #[v0, v1, v2, v3, v4] t (0, 0)) ∧ (∀ i, i ≠ b → (set5 w b v0 v1 v2 v3 v4).heap[i]? = w.heap[i]?) ∧ (set5 w b v0 v1 v2 v3 v4).heap.size = w.heap.size ∧ ∀ B w0, Below B w0 w → B ≤ b → Below B w0 (set5 w b v0 v1 v2 v3 v4) := by
  unfold set5
  refine ⟨heap_setCell_same _ b 4 _ _ _ (heap_setCell_same _ b 3 _ _ _ (heap_setCell_same _ b 2 _ _ _ (heap_setCell_same _ b 1 _ _ _ (heap_setCell_same w b 0 _ _ _ h)))), fun i hi => ?_, ?_, fun B w0 hb hB => below_set (below_set (below_set (below_set (below_set hb hB) hB) hB) hB) hB⟩
  · rw [heap_setCell_other _ ⟨b, 4, none⟩ i _ hi, heap_setCell_other _ ⟨b, 3, none⟩ i _ hi, heap_setCell_other _ ⟨b, 2, none⟩ i _ hi, heap_setCell_other _ ⟨b, 1, none⟩ i _ hi, heap_setCell_other _ ⟨b, 0, none⟩ i _ hi]
  · rw [World.size_setCell, World.size_setCell, World.size_setCell, World.size_setCell, World.size_setCell]
theorem lay_boxes (w : World) (g0 g1 g2 g3 : Value) (W : World) (hW : Below (w.heap.size + 2) ((w.alloc (.cells #[g0, g1, g2, g3] 26)).alloc (.cells #[.int .i64 0, .slice none 0 0, .int .i64 0, .int .i64 0, .int .i64 0] 51)) W) :
    (W.cell? ⟨w.heap.size, 0, none⟩ = some g0 ∧ W.cell? ⟨w.heap.size, 1, none⟩ = some g1 ∧ W.cell? ⟨w.heap.size, 2, none⟩ = some g2 ∧ W.cell? ⟨w.heap.size, 3, none⟩ = some g3) ∧
    ((W.cell? ⟨w.heap.size + 1, 0, none⟩ = some (.int .i64 0) ∧ W.frozen? ⟨w.heap.size + 1, 0, none⟩ = false) ∧ (W.cell? ⟨w.heap.size + 1, 1, none⟩ = some (.slice none 0 0) ∧ W.frozen? ⟨w.heap.size + 1, 1, none⟩ = false) ∧ (W.cell? ⟨w.heap.size + 1, 2, none⟩ = some (.int .i64 0) ∧ W.frozen? ⟨w.heap.size + 1, 2, none⟩ = false) ∧ (W.cell? ⟨w.heap.size + 1, 3, none⟩ = some (.int .i64 0) ∧ W.frozen? ⟨w.heap.size + 1, 3, none⟩ = false) ∧ (W.cell? ⟨w.heap.size + 1, 4, none⟩ = some (.int .i64 0) ∧ W.frozen? ⟨w.heap.size + 1, 4, none⟩ = false)) ∧
    W.heap[w.heap.size + 1]? = some (.cells #[.int .i64 0, .slice none 0 0, .int .i64 0, .int .i64 0, .int .i64 0] 51 (0, 0)) ∧ w.heap.size + 2 ≤ W.heap.size := by
  have h0 : W.heap[w.heap.size]? = some (.cells #[g0, g1, g2, g3] 26 (0, 0)) := by
    rw [hW.block _ (by omega), Below.heap_alloc _ _ _ (by simp)]; exact heap_new w _
  have h1 := (hW.block (w.heap.size + 1) (by omega)).trans (new_at w (.cells #[g0, g1, g2, g3] 26) (.cells #[.int .i64 0, .slice none 0 0, .int .i64 0, .int .i64 0, .int .i64 0] 51))
  exact ⟨⟨(cell_of_block h0 (k := 0) rfl).1, (cell_of_block h0 (k := 1) rfl).1, (cell_of_block h0 (k := 2) rfl).1, (cell_of_block h0 (k := 3) rfl).1⟩, ⟨cell_of_block h1 (k := 0) rfl, cell_of_block h1 (k := 1) rfl, cell_of_block h1 (k := 2) rfl, cell_of_block h1 (k := 3) rfl, cell_of_block h1 (k := 4) rfl⟩, h1, by have := hW.size; simp at this; omega⟩
set_option maxHeartbeats 8000000 in
set_option maxRecDepth 100000 in
theorem lay_no (x : PGr) (vp va vb : Value) (w : World) (h : GrL w vp va vb x) (hs : SmN x) (hT : TabAt 0 Lib.deBruijn64tab w) (h0 : 0 < w.heap.size) (hff : frameFit x = false) :
    Calls Tryd.prog 22 #[grV x vp va vb] w fun e w' => e = .returned (.tuple #[layNo, .int .i64 1]) ∧ Below w.heap.size w w' := by
  have HAR := Lib.hid h.arrays
  obtain ⟨ap, ac, rfl⟩ := h.arrays.form
  obtain ⟨bp, bc, rfl⟩ := h.blocks.form
  obtain ⟨pp, pc, rfl⟩ := h.params.form
  have HG := Lib.hid h
  have HTB := Lib.hid (fun (W : World) (hW : Below w.heap.size w W) => tab_below hT h0 hW)
  have H0 := Lib.hid (fun (W : World) (hW : Below w.heap.size w W) => Nat.lt_of_lt_of_le h0 hW.size)
  have HPF := Lib.hid (fun (W : World) (hW : Below w.heap.size w W) => paramsFit_any x _ _ _ W (HG.out.below hW))
  have HAF := Lib.hid (fun (W : World) (hW : Below w.heap.size w W) => arraysFit_any x.arrays _ W (HAR.out.below hW))
  have HRS : Hid (∀ W : World, Below w.heap.size w W → w.heap.size < W.heap.size → True) := Lib.hid (fun _ _ _ => trivial)
  unfold layNo
  cases hf : fitsB x with
  | false =>
    have HLV := Lib.hid (fun (W : World) (hW : Below w.heap.size w W) => live_no x _ _ _ W (HG.out.below hW) hs hf)
    unfold grV at HLV ⊢
    clear h hs hT h0 hff hf HPF HAF
    go_enter Tryd.func22, Tryd.ntmps22
    have HX0 := Lib.hid (fun (W : World) (hW : Below (w.heap.size + 2) ((w.alloc (.cells #[.slice pp x.params.length pc, .int .i64 x.temps, .slice ap x.arrays.length ac, .slice bp x.blocks.length bc] 26)).alloc (.cells #[.int .i64 0, .slice none 0 0, .int .i64 0, .int .i64 0, .int .i64 0] 51)) W) => lay_boxes w _ _ _ _ W hW)
    go_wp2_with (first
      | (go_at_call 10
         refine (HLV.out _ (below2 w _ _)).mono ?_
         rintro e w5 ⟨rfl, hb5⟩
         have HB5 : Hid (Below (w.heap.size + 2) ((w.alloc (.cells #[.slice pp x.params.length pc, .int .i64 x.temps, .slice ap x.arrays.length ac, .slice bp x.blocks.length bc] 26)).alloc (.cells #[.int .i64 0, .slice none 0 0, .int .i64 0, .int .i64 0, .int .i64 0] 51)) w5) := Lib.hid (by simpa using hb5)
         obtain ⟨⟨y0, y1, y2, y3⟩, ⟨z0, z1, z2, z3, z4⟩, hzb, _⟩ := HX0.out w5 HB5.out
         have HZB := Lib.hid hzb
         have HBW : Hid (Below w.heap.size w w5) := Lib.hid (below_then (below2 w _ _) hb5)
         clear hb5 hzb)
      | fail)
    obtain ⟨hbk, _, _, hbb⟩ := five HZB.out (.int .i64 0) (.slice none 0 0) (.int .i64 0) (.int .i64 0) (.int .i64 0)
    have hbw := hbb _ _ HBW.out (show w.heap.size ≤ w.heap.size + 1 by omega)
    unfold set5 at hbk hbw
    generalize (((((w5.setCell ⟨w.heap.size + 1, 0, none⟩ (.int .i64 0)).setCell ⟨w.heap.size + 1, 1, none⟩ (.slice none 0 0)).setCell ⟨w.heap.size + 1, 2, none⟩ (.int .i64 0)).setCell ⟨w.heap.size + 1, 3, none⟩ (.int .i64 0)).setCell ⟨w.heap.size + 1, 4, none⟩ (.int .i64 0)) = W9 at hbk hbw ⊢
    obtain ⟨u0, _⟩ := cell_of_block hbk (k := 0) rfl
    obtain ⟨u1, _⟩ := cell_of_block hbk (k := 1) rfl
    obtain ⟨u2, _⟩ := cell_of_block hbk (k := 2) rfl
    obtain ⟨u3, _⟩ := cell_of_block hbk (k := 3) rfl
    obtain ⟨u4, _⟩ := cell_of_block hbk (k := 4) rfl
    refine bodyPost_ret (v := .tuple #[.agg #[.int .i64 0, .slice none 0 0, .int .i64 0, .int .i64 0, .int .i64 0], .int .i64 1]) ?_ rfl ⟨rfl, hbw⟩
    simp [results, Tryd.results22, go_sem, u0, u1, u2, u3, u4]
  | true =>
    have hfd := hf
    unfold fitsB at hfd
    rw [Bool.and_eq_true] at hfd
    have hlen := of_decide_eq_true hfd.1
    have HLV := Lib.hid (fun (W : World) (hW : Below w.heap.size w W) => live_ok x _ _ _ W (HG.out.below hW) hs hf (HTB.out W hW) (H0.out W hW))
    have hnn : x.blocks.length ≤ 20000 := by omega
    unfold frameFit at hff
    rw [hf, Bool.true_and] at hff
    cases hpf : parsFit x.temps x.params with
    | false =>
      rw [hpf] at HPF
      unfold grV at HLV HPF ⊢
      clear h hs hT h0 hff hf hpf HAF hfd hlen hnn
      go_enter Tryd.func22, Tryd.ntmps22
      have HX0 := Lib.hid (fun (W : World) (hW : Below (w.heap.size + 2) ((w.alloc (.cells #[.slice pp x.params.length pc, .int .i64 x.temps, .slice ap x.arrays.length ac, .slice bp x.blocks.length bc] 26)).alloc (.cells #[.int .i64 0, .slice none 0 0, .int .i64 0, .int .i64 0, .int .i64 0] 51)) W) => lay_boxes w _ _ _ _ W hW)
      go_wp2_with (first
        | (go_at_call 10
           refine (HLV.out _ (below2 w _ _)).mono ?_
           rintro e w5 ⟨rb, vs, rfl, h5⟩
           have hb5 := h5.below
           clear h5
           have HB5 : Hid (Below (w.heap.size + 2) ((w.alloc (.cells #[.slice pp x.params.length pc, .int .i64 x.temps, .slice ap x.arrays.length ac, .slice bp x.blocks.length bc] 26)).alloc (.cells #[.int .i64 0, .slice none 0 0, .int .i64 0, .int .i64 0, .int .i64 0] 51)) w5) := Lib.hid (by simpa using hb5)
           obtain ⟨⟨y0, y1, y2, y3⟩, ⟨z0, z1, z2, z3, z4⟩, hzb, _⟩ := HX0.out w5 HB5.out
           have HZB := Lib.hid hzb
           have HBW : Hid (Below w.heap.size w w5) := Lib.hid (below_then (below2 w _ _) hb5)
           clear hb5 hzb)
        | (go_at_call 42
           refine (HPF.out w5 HBW.out).mono ?_
           rintro e w6 ⟨rfl, hb6⟩
           have HB6 := Lib.hid (below_then HBW.out hb6)
           obtain ⟨⟨y0, y1, y2, y3⟩, ⟨z0, z1, z2, z3, z4⟩, hzb, _⟩ := HX0.out w6 (HB5.out.trans (hb6.mono (by have := (HX0.out w5 HB5.out).2.2.2; exact this)))
           have HZB := Lib.hid hzb
           clear hb6 hzb)
        | fail)
      obtain ⟨hbk, _, _, hbb⟩ := five HZB.out (.int .i64 0) (.slice none 0 0) (.int .i64 0) (.int .i64 0) (.int .i64 0)
      have hbw := hbb _ _ HB6.out (show w.heap.size ≤ w.heap.size + 1 by omega)
      unfold set5 at hbk hbw
      generalize (((((w6.setCell ⟨w.heap.size + 1, 0, none⟩ (.int .i64 0)).setCell ⟨w.heap.size + 1, 1, none⟩ (.slice none 0 0)).setCell ⟨w.heap.size + 1, 2, none⟩ (.int .i64 0)).setCell ⟨w.heap.size + 1, 3, none⟩ (.int .i64 0)).setCell ⟨w.heap.size + 1, 4, none⟩ (.int .i64 0)) = W9 at hbk hbw ⊢
      obtain ⟨u0, _⟩ := cell_of_block hbk (k := 0) rfl
      obtain ⟨u1, _⟩ := cell_of_block hbk (k := 1) rfl
      obtain ⟨u2, _⟩ := cell_of_block hbk (k := 2) rfl
      obtain ⟨u3, _⟩ := cell_of_block hbk (k := 3) rfl
      obtain ⟨u4, _⟩ := cell_of_block hbk (k := 4) rfl
      refine bodyPost_ret (v := .tuple #[.agg #[.int .i64 0, .slice none 0 0, .int .i64 0, .int .i64 0, .int .i64 0], .int .i64 1]) ?_ rfl ⟨rfl, hbw⟩
      simp [results, Tryd.results22, go_sem, u0, u1, u2, u3, u4]
    | true =>
      rw [hpf, Bool.true_and] at hff
      rw [hpf] at HPF
      rw [hff] at HAF
      unfold grV at HLV HPF ⊢
      clear h hs hT h0 hff hf hpf hfd hlen hnn
      go_enter Tryd.func22, Tryd.ntmps22
      have HX0 := Lib.hid (fun (W : World) (hW : Below (w.heap.size + 2) ((w.alloc (.cells #[.slice pp x.params.length pc, .int .i64 x.temps, .slice ap x.arrays.length ac, .slice bp x.blocks.length bc] 26)).alloc (.cells #[.int .i64 0, .slice none 0 0, .int .i64 0, .int .i64 0, .int .i64 0] 51)) W) => lay_boxes w _ _ _ _ W hW)
      go_wp2_with (first
        | (go_at_call 10
           refine (HLV.out _ (below2 w _ _)).mono ?_
           rintro e w5 ⟨rb, vs, rfl, h5⟩
           have hb5 := h5.below
           clear h5
           have HB5 : Hid (Below (w.heap.size + 2) ((w.alloc (.cells #[.slice pp x.params.length pc, .int .i64 x.temps, .slice ap x.arrays.length ac, .slice bp x.blocks.length bc] 26)).alloc (.cells #[.int .i64 0, .slice none 0 0, .int .i64 0, .int .i64 0, .int .i64 0] 51)) w5) := Lib.hid (by simpa using hb5)
           obtain ⟨⟨y0, y1, y2, y3⟩, ⟨z0, z1, z2, z3, z4⟩, hzb, _⟩ := HX0.out w5 HB5.out
           have HZB := Lib.hid hzb
           have HBW : Hid (Below w.heap.size w w5) := Lib.hid (below_then (below2 w _ _) hb5)
           clear hb5 hzb)
        | (go_at_call 42
           refine (HPF.out w5 HBW.out).mono ?_
           rintro e w6 ⟨rfl, hb6⟩
           have HB6 := Lib.hid (below_then HBW.out hb6)
           obtain ⟨⟨y0, y1, y2, y3⟩, ⟨z0, z1, z2, z3, z4⟩, hzb, _⟩ := HX0.out w6 (HB5.out.trans (hb6.mono (by have := (HX0.out w5 HB5.out).2.2.2; exact this)))
           have HB56 := Lib.hid hb6
           have HZB := Lib.hid hzb
           clear hb6 hzb)
        | (go_at_call 43
           refine (HAF.out w6 HB6.out).mono ?_
           rintro e w7 ⟨rfl, hb7⟩
           have HB7 := Lib.hid (below_then HB6.out hb7)
           obtain ⟨_, ⟨z0, z1, z2, z3, z4⟩, hzb, _⟩ := HX0.out w7 ((HB5.out.trans (HB56.out.mono (by have := (HX0.out w5 HB5.out).2.2.2; exact this))).trans (hb7.mono (by have := (HX0.out w5 HB5.out).2.2.2; have := HB56.out.size; omega)))
           have HZB := Lib.hid hzb
           clear hb7 hzb)
        | fail)
      obtain ⟨hbk, _, _, hbb⟩ := five HZB.out (.int .i64 0) (.slice none 0 0) (.int .i64 0) (.int .i64 0) (.int .i64 0)
      have hbw := hbb _ _ HB7.out (show w.heap.size ≤ w.heap.size + 1 by omega)
      unfold set5 at hbk hbw
      generalize (((((w7.setCell ⟨w.heap.size + 1, 0, none⟩ (.int .i64 0)).setCell ⟨w.heap.size + 1, 1, none⟩ (.slice none 0 0)).setCell ⟨w.heap.size + 1, 2, none⟩ (.int .i64 0)).setCell ⟨w.heap.size + 1, 3, none⟩ (.int .i64 0)).setCell ⟨w.heap.size + 1, 4, none⟩ (.int .i64 0)) = W9 at hbk hbw ⊢
      obtain ⟨u0, _⟩ := cell_of_block hbk (k := 0) rfl
      obtain ⟨u1, _⟩ := cell_of_block hbk (k := 1) rfl
      obtain ⟨u2, _⟩ := cell_of_block hbk (k := 2) rfl
      obtain ⟨u3, _⟩ := cell_of_block hbk (k := 3) rfl
      obtain ⟨u4, _⟩ := cell_of_block hbk (k := 4) rfl
      refine bodyPost_ret (v := .tuple #[.agg #[.int .i64 0, .slice none 0 0, .int .i64 0, .int .i64 0, .int .i64 0], .int .i64 1]) ?_ rfl ⟨rfl, hbw⟩
      simp [results, Tryd.results22, go_sem, u0, u1, u2, u3, u4]
end Go.Proofs.YtcijaaiopfbffaaDoor.Live
namespace Go.Proofs.YtcijaaiopfbffaaDoor.Live
open Go.RowKit Go.Proofs.YtcijaaiopfbffaaDoor.Graph Go.Shelf

def layO : Obj := .cells #[.int .i64 0, .slice none 0 0, .int .i64 0, .int .i64 0, .int .i64 0] 51
def SavedP (x : PGr) (w : World) (e : Ending) (w' : World) : Prop := ∃ v, e = .returned v ∧ w'.ownsRow w.heap.size 3 1 v (regsOf x).length ((regsOf x).map iN) ∧ Below w.heap.size w w'
theorem saved_p (x : PGr) (vp va vb vn : Value) (w : World) (h : GrL w vp va vb x) (hf : fitsB x = true) (hp : ∀ p ∈ x.params, 0 ≤ p) (hn : IntsR w vn (needL x 0)) :
    Calls Tryd.prog 45 #[grV x vp va vb, vn] w (SavedP x w) := saved_any x vp va vb vn (needL x 0) w h hf hp hn (needL_nonneg x 0)
theorem lay_set {W9 w10 : World} {RQ : List Nat} {R : Nat} {pv : Option Addr} {cv : Nat} (hn : w10.heap[W9.heap.size]? = some layO) (hv : w10.ownsRow ((World.drew W9).alloc layO).heap.size 3 1 (.slice pv R cv) R (RQ.map iN)) (hb : Below W9.heap.size W9 w10) (A S L : Int) :
    Hid ((((((w10.setCell ⟨W9.heap.size, 0, none⟩ (.int .i64 A)).setCell ⟨W9.heap.size, 1, none⟩ (.slice pv R cv)).setCell ⟨W9.heap.size, 2, none⟩ (.int .i64 S)).setCell ⟨W9.heap.size, 3, none⟩ (.int .i64 L)).setCell ⟨W9.heap.size, 4, none⟩ (.int .i64 0)).heap[W9.heap.size]? = some (.cells #[.int .i64 A, .slice pv R cv, .int .i64 S, .int .i64 L, .int .i64 0] 51 (0, 0))) ∧
    Hid ((((((w10.setCell ⟨W9.heap.size, 0, none⟩ (.int .i64 A)).setCell ⟨W9.heap.size, 1, none⟩ (.slice pv R cv)).setCell ⟨W9.heap.size, 2, none⟩ (.int .i64 S)).setCell ⟨W9.heap.size, 3, none⟩ (.int .i64 L)).setCell ⟨W9.heap.size, 4, none⟩ (.int .i64 0)).ownsRow W9.heap.size 3 1 (.slice pv R cv) R (RQ.map iN)) ∧
    Hid (Below W9.heap.size W9 (((((w10.setCell ⟨W9.heap.size, 0, none⟩ (.int .i64 A)).setCell ⟨W9.heap.size, 1, none⟩ (.slice pv R cv)).setCell ⟨W9.heap.size, 2, none⟩ (.int .i64 S)).setCell ⟨W9.heap.size, 3, none⟩ (.int .i64 L)).setCell ⟨W9.heap.size, 4, none⟩ (.int .i64 0))) ∧
    Hid (W9.heap.size ≤ W9.heap.size ∧ (Value.slice pv R cv).ownBlock ≠ some W9.heap.size) := by
  have hz : W9.heap.size < ((World.drew W9).alloc layO).heap.size := by
    have h1 : ((World.drew W9).alloc layO).heap.size = W9.heap.size + 1 := by rw [World.size_alloc]; rfl
    omega
  unfold layO at hn
  obtain ⟨h1, h2, _, h4⟩ := five hn (.int .i64 A) (.slice pv R cv) (.int .i64 S) (.int .i64 L) (.int .i64 0)
  unfold set5 at h1 h2 h4
  exact ⟨Lib.hid h1, Lib.hid (own_keep (own_base hv (by omega)) fun g hg => h2 g (fun e => by have := (hv.lt g hg).1; omega)), Lib.hid (h4 _ _ hb (Nat.le_refl _)), Lib.hid ⟨Nat.le_refl _, fun e => by have := (hv.lt _ e).1; omega⟩⟩
def LayPost (x : PGr) (w : World) (e : Ending) (w' : World) : Prop :=
  ∃ v, e = .returned (.tuple #[.agg #[.int .i64 (argsOf x), v, .int .i64 (slotsOf x), .int .i64 (localW x.arrays), .int .i64 (wordsN x)], .int .i64 0]) ∧ w'.ownsRow w.heap.size 3 1 v (regsOf x).length ((regsOf x).map iN) ∧ Below w.heap.size w w'
set_option maxHeartbeats 16000000 in
set_option maxRecDepth 100000 in
theorem lay_ok (x : PGr) (vp va vb : Value) (w : World) (h : GrL w vp va vb x) (hs : SmN x) (hT : TabAt 0 Lib.deBruijn64tab w) (h0 : 0 < w.heap.size) (hff : frameFit x = true) :
    Calls Tryd.prog 22 #[grV x vp va vb] w (LayPost x w) := by
  have HAR := Lib.hid h.arrays
  obtain ⟨ap, ac, rfl⟩ := h.arrays.form
  obtain ⟨bp, bc, rfl⟩ := h.blocks.form
  obtain ⟨pp, pc, rfl⟩ := h.params.form
  have HG := Lib.hid h
  unfold frameFit at hff
  simp only [Bool.and_eq_true] at hff
  obtain ⟨hf, hpf, haf⟩ := hff
  have HTB := Lib.hid (fun (W : World) (hW : Below w.heap.size w W) => tab_below hT h0 hW)
  have H0 := Lib.hid (fun (W : World) (hW : Below w.heap.size w W) => Nat.lt_of_lt_of_le h0 hW.size)
  have HPF := Lib.hid (fun (W : World) (hW : Below w.heap.size w W) => paramsFit_any x _ _ _ W (HG.out.below hW))
  have HAF := Lib.hid (fun (W : World) (hW : Below w.heap.size w W) => arraysFit_any x.arrays _ W (HAR.out.below hW))
  have HLV := Lib.hid (fun (W : World) (hW : Below w.heap.size w W) => live_ok x _ _ _ W (HG.out.below hW) hs hf (HTB.out W hW) (H0.out W hW))
  have hap := haf
  unfold arrsFit at hap
  simp only [Bool.and_eq_true, decide_eq_true_eq] at hap
  have HWO := Lib.hid (fun (W : World) (hW : Below w.heap.size w W) => wordsOf_any x.arrays _ W (HAR.out.below hW) hap.1.1.2 hap.1.1.1)
  have hwb := words_bounds hap.1.1.2 x.arrays.length (Nat.le_refl _)
  rw [List.take_length] at hwb
  have hfd := hf
  unfold fitsB at hfd
  rw [Bool.and_eq_true] at hfd
  have hlen := of_decide_eq_true hfd.1
  have HSV := Lib.hid (fun (W : World) (vn : Value) (hW : Below w.heap.size w W) (hn : IntsR W vn (needL x 0)) => saved_p x _ _ _ vn W (HG.out.below hW) hf (fun p hp => (par_nonneg hpf p hp).1) hn)
  have hp8 : x.params.length ≤ 8 := by
    unfold parsFit at hpf
    rw [Bool.and_eq_true] at hpf
    exact of_decide_eq_true hpf.1
  have hl0 : 0 ≤ localW x.arrays := hwb.1
  have hl1 : localW x.arrays ≤ 1000 := hap.1.2
  have hh0 : 0 ≤ handW x.arrays := hwb.2.2.1
  have hh1 : handW x.arrays ≤ 16 := hap.2
  have ht0 : 0 ≤ x.temps := hlen.2.2.1
  have ht1 : x.temps ≤ 8000 := hlen.2.2.2
  have hb1 : 1 ≤ x.blocks.length := hlen.1
  have hb2 : x.blocks.length ≤ 20000 := hlen.2.1
  have hr9 : (regsOf x).length ≤ 9 := regQ_len _ _
  rw [hpf] at HPF
  rw [haf] at HAF
  unfold LayPost wordsN argsOf
  unfold grV at HLV HPF HSV ⊢
  have HSL : Hid (slotsOf x = max 0 (x.temps - 9)) := Lib.hid rfl
  clear h hs hT h0 hf hpf haf hap hwb hfd hlen
  obtain ⟨m, hm⟩ : ∃ m, m = x.params.length := ⟨_, rfl⟩
  obtain ⟨n, hn⟩ : ∃ n, n = x.blocks.length := ⟨_, rfl⟩
  obtain ⟨q, hq⟩ : ∃ q, q = x.arrays.length := ⟨_, rfl⟩
  rw [← hm] at HPF HLV HSV hp8 ⊢
  rw [← hn] at HPF HLV HSV hb1 hb2 ⊢
  rw [← hq] at HPF HLV HSV HWO HAF ⊢
  generalize localW x.arrays = L at *
  generalize handW x.arrays = H at *
  generalize slotsOf x = SL at *
  obtain ⟨RQ, hRQ⟩ : ∃ RQ, RQ = regsOf x := ⟨_, rfl⟩
  obtain ⟨R, hR⟩ : ∃ R, R = RQ.length := ⟨_, rfl⟩
  have HSV2 : Hid (∀ (W : World) (vn : Value), Below w.heap.size w W → IntsR W vn (needL x 0) → Calls Tryd.prog 45 #[.agg #[.slice pp m pc, .int .i64 x.temps, .slice ap q ac, .slice bp n bc], vn] W fun e w' => ∃ v, e = .returned v ∧ w'.ownsRow W.heap.size 3 1 v R (RQ.map iN) ∧ Below W.heap.size W w') := Lib.hid (fun W vn a b => by rw [hR, hRQ]; exact HSV.out W vn a b)
  rw [← hRQ] at hr9 ⊢
  rw [← hR] at hr9 ⊢
  have HRR := Lib.hid hR
  clear HSV hRQ hR
  have HSV := HSV2
  clear HSV2
  have n1 : (1 : Int) ≤ n := by omega
  have n0 : (0 : Int) < n := by omega
  have nn0 : 0 < n := by omega
  have n2 : (n : Int) ≤ 20000 := by omega
  have m1 : (m : Int) ≤ 8 := by omega
  clear hm hn hq
  go_enter Tryd.func22, Tryd.ntmps22
  have HX0 := Lib.hid (fun (W : World) (hW : Below (w.heap.size + 2) ((w.alloc (.cells #[.slice pp m pc, .int .i64 x.temps, .slice ap q ac, .slice bp n bc] 26)).alloc (.cells #[.int .i64 0, .slice none 0 0, .int .i64 0, .int .i64 0, .int .i64 0] 51)) W) => lay_boxes w _ _ _ _ W hW)
  go_upto_region 5 with (first
    | (go_at_call 10
       refine (HLV.out _ (below2 w _ _)).mono ?_
       rintro e w5 ⟨rb, vs, rfl, h5⟩
       have H5 := Lib.hid h5
       have HB5 : Hid (Below (w.heap.size + 2) ((w.alloc (.cells #[.slice pp m pc, .int .i64 x.temps, .slice ap q ac, .slice bp n bc] 26)).alloc (.cells #[.int .i64 0, .slice none 0 0, .int .i64 0, .int .i64 0, .int .i64 0] 51)) w5) := Lib.hid (by simpa using h5.below)
       obtain ⟨⟨y0, y1, y2, y3⟩, _, _, hz5⟩ := HX0.out w5 HB5.out
       have HZ5 := Lib.hid hz5
       have HBW : Hid (Below w.heap.size w w5) := Lib.hid (below_then (below2 w _ _) h5.below)
       clear h5 hz5)
    | (go_at_call 42
       refine (HPF.out w5 HBW.out).mono ?_
       rintro e w6 ⟨rfl, hb6⟩
       have HB6 : Hid (Below w5.heap.size w5 w6) := Lib.hid hb6
       obtain ⟨⟨y0, y1, y2, y3⟩, _, _, _⟩ := HX0.out w6 (HB5.out.trans (hb6.mono HZ5.out))
       clear hb6)
    | (go_at_call 43
       refine (HAF.out w6 (below_then HBW.out HB6.out)).mono ?_
       rintro e w7 ⟨rfl, hb7⟩
       have HB7 : Hid (Below w5.heap.size w5 w7) := Lib.hid (below_then HB6.out hb7)
       obtain ⟨⟨y0, y1, y2, y3⟩, _, _, _⟩ := HX0.out w7 (HB5.out.trans (HB7.out.mono HZ5.out))
       clear hb7)
    | (go_at_call 44
       refine (HWO.out w7 (below_then HBW.out HB7.out)).mono ?_
       rintro e w8 ⟨rfl, hb8⟩
       have HB8 : Hid (Below w5.heap.size w5 w8) := Lib.hid (below_then HB7.out hb8)
       clear hb8))
  have HB9 : Hid (Below w5.heap.size w5 (w8.alloc (.cells #[.int .i64 L, .int .i64 H] 88))) := Lib.hid (below_then HB8.out (Graph.below_alloc w8 _))
  have HXW : Hid ((w8.alloc (.cells #[.int .i64 L, .int .i64 H] 88)).heap[w8.heap.size]? = some (.cells #[.int .i64 L, .int .i64 H] 88 (0, 0))) := Lib.hid (heap_new w8 _)
  generalize w8.alloc (.cells #[.int .i64 L, .int .i64 H] 88) = W9 at HB9 HXW ⊢
  obtain ⟨⟨y0, y1, y2, y3⟩, _, hz9, _⟩ := HX0.out W9 (HB5.out.trans (HB9.out.mono HZ5.out))
  have HZ9 := Lib.hid hz9
  clear hz9
  generalize w8.heap.size = b6 at HXW ⊢
  obtain ⟨y4, _⟩ := cell_of_block HXW.out (k := 0) rfl
  obtain ⟨y5, _⟩ := cell_of_block HXW.out (k := 1) rfl
  obtain ⟨p0, k0, c0, y6, hint⟩ := out_row H5.out HB9.out (show 0 < n by omega)
  have HI0 : Hid (∀ W, Below W9.heap.size W9 W → IntsR W (.slice p0 k0 c0) (needL x 0)) := Lib.hid (fun W hW => hint.below hW)
  have HB9W : Hid (Below w.heap.size w W9) := Lib.hid (below_then HBW.out HB9.out)
  have HCE : Hid (∀ W, Below W9.heap.size W9 W → W.cell? ⟨w.heap.size, 0, none⟩ = some (.slice pp m pc) ∧ W.cell? ⟨w.heap.size, 1, none⟩ = some (.int .i64 x.temps) ∧ W.cell? ⟨w.heap.size, 2, none⟩ = some (.slice ap q ac) ∧ W.cell? ⟨w.heap.size, 3, none⟩ = some (.slice bp n bc) ∧ W.cell? ⟨b6, 0, none⟩ = some (.int .i64 L) ∧ W.cell? ⟨b6, 1, none⟩ = some (.int .i64 H) ∧ W.cell? ⟨rb, 0, none⟩ = some (.slice p0 k0 c0)) := Lib.hid (fun W hW => by
    have l0 := World.block_lt_of_cell? W9 _ y0
    have l4 := World.block_lt_of_cell? W9 _ y4
    have l6 := World.block_lt_of_cell? W9 _ y6
    exact ⟨(cell_below hW l0 _).trans y0, (cell_below hW l0 _).trans y1, (cell_below hW l0 _).trans y2, (cell_below hW l0 _).trans y3, (cell_below hW l4 _).trans y4, (cell_below hW l4 _).trans y5, (cell_below hW l6 _).trans y6⟩)
  have HBA : Hid (Below w.heap.size w (World.drew W9)) := Lib.hid HB9W.out.drew
  have HBBB : Hid (Below W9.heap.size W9 ((World.drew W9).alloc layO)) := Lib.hid ((Below.refl _ W9).drew.alloc (Nat.le_refl _) _)
  have HBB : Hid (Below w.heap.size w ((World.drew W9).alloc layO)) := Lib.hid (below_then HB9W.out HBBB.out)
  have hn0 := World.new_ne W9 _ y0
  have hn4 := World.new_ne W9 _ y4
  have hn6 := World.new_ne W9 _ y6
  clear hint HLV HPF HAF HWO HB5 HB6 HB7 HB8 HX0
  have w1 : IntKind.i64.wrap ((m : Int) + H) = m + H := IntWalk.i64_in _ (by omega)
  have w2 : IntKind.i64.wrap (x.temps - 9) = x.temps - 9 := IntWalk.i64_in _ (by omega)
  go_cut [7] from 30 to 48 (fun t wq => ∃ lb v, t = .pointer (some ⟨lb, 0, none⟩) ∧ Hid (wq.heap[lb]? = some (.cells #[.int .i64 (m + H), v, .int .i64 SL, .int .i64 L, .int .i64 0] 51 (0, 0))) ∧ Hid (wq.ownsRow W9.heap.size 3 1 v R (RQ.map iN)) ∧ Hid (Below W9.heap.size W9 wq) ∧ Hid (W9.heap.size ≤ lb ∧ v.ownBlock ≠ some lb))
  case first =>
    have hSL := HSL.out
    subst hSL
    go_region_held3 (fun W => W.cell? ⟨w.heap.size, 0, none⟩ = some (.slice pp m pc) ∧ W.cell? ⟨w.heap.size, 1, none⟩ = some (.int .i64 x.temps) ∧ W.cell? ⟨w.heap.size, 2, none⟩ = some (.slice ap q ac) ∧ W.cell? ⟨w.heap.size, 3, none⟩ = some (.slice bp n bc) ∧ W.cell? ⟨b6, 0, none⟩ = some (.int .i64 L) ∧ W.cell? ⟨b6, 1, none⟩ = some (.int .i64 H) ∧ W.cell? ⟨rb, 0, none⟩ = some (.slice p0 k0 c0)) (go_keep) (first
      | (go_at_call 45
         refine (HSV.out (World.drew W9) _ HBA.out (HI0.out _ (Below.refl _ W9).drew)).mono ?_
         rintro e w10 ⟨v, rfl, hv, hb10⟩
         obtain ⟨pv, cv, rfl, hv63⟩ := own_form hv
         have HV := Lib.hid hv
         have HB10 : Hid (Below W9.heap.size W9 w10) := Lib.hid (below_then (Below.refl _ W9).drew hb10)
         obtain ⟨x0, x1, x2, x3, x4, x5, x6⟩ := HCE.out w10 HB10.out
         have hn0 := World.new_ne w10 _ x0
         have hn4 := World.new_ne w10 _ x4
         have hn6 := World.new_ne w10 _ x6
         have HKD : Hid (True) := Lib.hid trivial
         clear hv hb10)
      | (go_at_call 45
         refine (HSV.out ((World.drew W9).alloc layO) _ HBB.out (HI0.out _ HBBB.out)).mono ?_
         rintro e w10 ⟨v, rfl, hv, hb10⟩
         obtain ⟨pv, cv, rfl, hv63⟩ := own_form hv
         have HV := Lib.hid hv
         have HB10 : Hid (Below W9.heap.size W9 w10) := Lib.hid (below_then HBBB.out hb10)
         obtain ⟨x0, x1, x2, x3, x4, x5, x6⟩ := HCE.out w10 HB10.out
         have HNB : Hid (w10.heap[W9.heap.size]? = some layO) := Lib.hid ((hb10.block W9.heap.size (by simp)).trans (heap_new (World.drew W9) _))
         have hnb := HNB.out
         unfold layO at hnb
         obtain ⟨u0, f0⟩ := cell_of_block hnb (k := 0) rfl
         obtain ⟨u1, f1⟩ := cell_of_block hnb (k := 1) rfl
         obtain ⟨u2, f2⟩ := cell_of_block hnb (k := 2) rfl
         obtain ⟨u3, f3⟩ := cell_of_block hnb (k := 3) rfl
         obtain ⟨u4, f4⟩ := cell_of_block hnb (k := 4) rfl
         clear hv hb10 hnb))
    all_goals
      go_wp2
      go_meet
      try simp only [w1, w2]
      first
        | (refine ⟨w10.heap.size, .slice pv R cv, by with_reducible rfl, ?_⟩
           exact ⟨Lib.hid (heap_new w10 _), Lib.hid (own_below (own_base HV.out (Nat.le_refl _)) (Graph.below_alloc w10 _)), Lib.hid (below_then HB10.out (Graph.below_alloc w10 _)), Lib.hid ⟨HB10.out.size, fun e => by have := (HV.out.lt _ e).2; omega⟩⟩)
        | (refine ⟨W9.heap.size, .slice pv R cv, by with_reducible rfl, ?_⟩
           exact lay_set HNB.out HV.out HB10.out _ _ _)
  case rest =>
    obtain ⟨lb, v, rfl, HLB, HOW, HBQ, HNE⟩ := hcut
    clear y0 y1 y2 y3 y4 y5 y6 hn0 hn4 hn6 HCE HBA HBB HBBB HI0 HSV
    obtain ⟨l0, g0⟩ := cell_of_block HLB.out (k := 0) rfl
    obtain ⟨l1, g1⟩ := cell_of_block HLB.out (k := 1) rfl
    obtain ⟨l2, g2⟩ := cell_of_block HLB.out (k := 2) rfl
    obtain ⟨l3, g3⟩ := cell_of_block HLB.out (k := 3) rfl
    obtain ⟨l4, g4⟩ := cell_of_block HLB.out (k := 4) rfl
    obtain ⟨pv, cv, rfl, _⟩ := own_form HOW.out
    have hs0 : 0 ≤ SL := by rw [HSL.out]; omega
    have hs1 : SL ≤ 8000 := by rw [HSL.out]; omega
    have r0 : (0 : Int) ≤ R := by omega
    have r1 : (R : Int) ≤ 9 := by omega
    have m0 : (0 : Int) ≤ m := by omega
    have hres := (HBQ.out.block _ (World.block_lt_of_cell? W9 ⟨w.heap.size + 1, 0, none⟩ (cell_of_block HZ9.out (k := 0) rfl).1)).trans HZ9.out
    obtain ⟨z0, f0⟩ := cell_of_block hres (k := 0) rfl
    obtain ⟨z1, f1⟩ := cell_of_block hres (k := 1) rfl
    obtain ⟨z2, f2⟩ := cell_of_block hres (k := 2) rfl
    obtain ⟨z3, f3⟩ := cell_of_block hres (k := 3) rfl
    obtain ⟨z4, f4⟩ := cell_of_block hres (k := 4) rfl
    have HRES := Lib.hid hres
    have hlne : lb ≠ w.heap.size + 1 := by
      have h1 := HNE.out.1
      have h2 := World.block_lt_of_cell? W9 ⟨w.heap.size + 1, 0, none⟩ (cell_of_block HZ9.out (k := 0) rfl).1
      have h3 : w.heap.size + 1 < W9.heap.size := h2
      omega
    clear hres
    go_wp2
    obtain ⟨hbk, hoth, _, hbb⟩ := five ((heap_setCell_other wc ⟨lb, 4, none⟩ (w.heap.size + 1) (.int .i64 (m + H + R + SL + L)) (Ne.symm hlne)).trans HRES.out) (.int .i64 (m + H)) (.slice pv R cv) (.int .i64 SL) (.int .i64 L) (.int .i64 (m + H + R + SL + L))
    have hsz9 : w.heap.size + 1 < W9.heap.size := World.block_lt_of_cell? W9 ⟨w.heap.size + 1, 0, none⟩ (cell_of_block HZ9.out (k := 0) rfl).1
    have hbw := hbb w.heap.size w (below_set (k := 4) (v := .int .i64 (m + H + R + SL + L)) (below_then HB9W.out HBQ.out) (by have := HNE.out.1; omega : w.heap.size ≤ lb)) (by omega)
    have hown : (set5 (wc.setCell ⟨lb, 4, none⟩ (.int .i64 (m + H + R + SL + L))) (w.heap.size + 1) (.int .i64 (m + H)) (.slice pv R cv) (.int .i64 SL) (.int .i64 L) (.int .i64 (m + H + R + SL + L))).ownsRow w.heap.size 3 1 (.slice pv R cv) R (RQ.map iN) := own_keep (own_base HOW.out (by omega)) fun g hg => (hoth g (fun e => by have := (HOW.out.lt g hg).1; omega)).trans (heap_setCell_other wc ⟨lb, 4, none⟩ g _ (fun e => HNE.out.2 (by rw [hg, e])))
    unfold set5 at hbk hbw hown
    clear hoth hbb
    generalize ((((((wc.setCell ⟨lb, 4, none⟩ (.int .i64 (m + H + R + SL + L))).setCell ⟨w.heap.size + 1, 0, none⟩ (.int .i64 (m + H))).setCell ⟨w.heap.size + 1, 1, none⟩ (.slice pv R cv)).setCell ⟨w.heap.size + 1, 2, none⟩ (.int .i64 SL)).setCell ⟨w.heap.size + 1, 3, none⟩ (.int .i64 L)).setCell ⟨w.heap.size + 1, 4, none⟩ (.int .i64 (m + H + R + SL + L))) = W12 at hbk hbw hown ⊢
    obtain ⟨u0, _⟩ := cell_of_block hbk (k := 0) rfl
    obtain ⟨u1, _⟩ := cell_of_block hbk (k := 1) rfl
    obtain ⟨u2, _⟩ := cell_of_block hbk (k := 2) rfl
    obtain ⟨u3, _⟩ := cell_of_block hbk (k := 3) rfl
    obtain ⟨u4, _⟩ := cell_of_block hbk (k := 4) rfl
    refine bodyPost_ret (v := .tuple #[.agg #[.int .i64 (m + H), .slice pv R cv, .int .i64 SL, .int .i64 L, .int .i64 (m + H + R + SL + L)], .int .i64 0]) ?_ rfl ⟨.slice pv R cv, rfl, hown, hbw⟩
    simp [results, Tryd.results22, go_sem, u0, u1, u2, u3, u4]
/-- What Weight does. -/
theorem weight_no (x : PGr) (vp va vb : Value) (w : World) (h : GrL w vp va vb x) (hs : SmN x) (hT : TabAt 0 Lib.deBruijn64tab w) (h0 : 0 < w.heap.size) (hff : frameFit x = false) :
    Calls Tryd.prog 24 #[grV x vp va vb] w fun e w' => e = .returned (.tuple #[.int .i64 0, .int .i64 1]) ∧ Below w.heap.size w w' := by
  obtain ⟨ap, ac, rfl⟩ := h.arrays.form
  obtain ⟨bp, bc, rfl⟩ := h.blocks.form
  obtain ⟨pp, pc, rfl⟩ := h.params.form
  have HLY := Lib.hid (fun (W : World) (hW : Below w.heap.size w W) => lay_no x _ _ _ W (h.below hW) hs (tab_below hT h0 hW) (Nat.lt_of_lt_of_le h0 hW.size) hff)
  unfold grV layNo at *
  clear h hs hT h0 hff
  go_enter Tryd.func24, Tryd.ntmps24
  go_wp2_with (
    go_at_call 22
    refine (HLY.out _ (Graph.below_alloc w _)).mono ?_
    rintro e w5 ⟨rfl, hb5⟩
    have HB5 := Lib.hid hb5
    clear hb5)
  go_ret2
  exact ⟨rfl, below_then (Graph.below_alloc w _) (below_then HB5.out (Graph.below_alloc w5 _))⟩
theorem words_range {x : PGr} (h : frameFit x = true) : 0 ≤ wordsN x ∧ wordsN x ≤ 10000 := by
  unfold frameFit parsFit arrsFit fitsB at h
  simp only [Bool.and_eq_true, decide_eq_true_eq] at h
  obtain ⟨hf, hpf, ⟨⟨hl, ho⟩, h1⟩, h2⟩ := h
  have hw := words_bounds ho x.arrays.length (Nat.le_refl _)
  rw [List.take_length] at hw
  have h9 : (regsOf x).length ≤ 9 := regQ_len _ _
  have := hf.1
  have := hpf.1
  unfold wordsN argsOf slotsOf
  omega
theorem weight_ok (x : PGr) (vp va vb : Value) (w : World) (h : GrL w vp va vb x) (hs : SmN x) (hT : TabAt 0 Lib.deBruijn64tab w) (h0 : 0 < w.heap.size) (hff : frameFit x = true) :
    Calls Tryd.prog 24 #[grV x vp va vb] w fun e w' => e = .returned (.tuple #[.int .i64 (4 * wordsN x), .int .i64 0]) ∧ Below w.heap.size w w' := by
  obtain ⟨ap, ac, rfl⟩ := h.arrays.form
  obtain ⟨bp, bc, rfl⟩ := h.blocks.form
  obtain ⟨pp, pc, rfl⟩ := h.params.form
  have HLY := Lib.hid (fun (W : World) (hW : Below w.heap.size w W) => lay_ok x _ _ _ W (h.below hW) hs (tab_below hT h0 hW) (Nat.lt_of_lt_of_le h0 hW.size) hff)
  obtain ⟨hw0, hw1⟩ := words_range hff
  unfold LayPost at HLY
  unfold grV at *
  generalize wordsN x = N at *
  generalize argsOf x = A at *
  generalize slotsOf x = S at *
  generalize localW x.arrays = L at *
  clear h hs hT h0 hff
  go_enter Tryd.func24, Tryd.ntmps24
  go_wp2_with (
    go_at_call 22
    refine (HLY.out _ (Graph.below_alloc w _)).mono ?_
    rintro e w5 ⟨v, rfl, hv, hb5⟩
    obtain ⟨pv, cv, rfl, _⟩ := own_form hv
    have HB5 := Lib.hid hb5
    clear hb5 hv)
  go_ret2
  exact ⟨rfl, below_then (Graph.below_alloc w _) (below_then HB5.out (Graph.below_alloc w5 _))⟩
end Go.Proofs.YtcijaaiopfbffaaDoor.Live
