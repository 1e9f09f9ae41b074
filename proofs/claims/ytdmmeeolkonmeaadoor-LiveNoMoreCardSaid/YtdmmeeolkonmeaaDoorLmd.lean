/- The law's alive. No condition but the table of bits. -/
import Derived.Test.YtdmmeeolkonmeaaDoorLmc
namespace Go.Proofs.YtdmmeeolkonmeaaDoor.Live
open Go.RowKit Go.Proofs.YtdmmeeolkonmeaaDoor.Graph Go.Shelf

def alIns : Obj := .cells #[.int .i64 6, .int .i64 0, .int .i64 1, .int .i64 2, .int .i64 0, .int .u32 0, .slice none 0 0, .slice none 0 0] 62
def alBlk (g : Nat) : Obj := .cells #[.slice (some ⟨g, 0, none⟩) 1 1, .int .i64 5, .int .i64 0, .int .i64 0, .int .i64 0, .int .u32 0, .int .i64 0, .int .i64 0, .slice none 0 0, .slice none 0 0] 42
theorem al_lies (w W : World) (hb : Below (w.heap.size + 2) ((w.alloc alIns).alloc (alBlk w.heap.size)) W) : GrL W (.slice none 0 0) (.slice none 0 0) (.slice (some ⟨w.heap.size + 1, 0, none⟩) 1 1) alG := by
  have hi : W.heap[w.heap.size]? = some alIns := by
    rw [hb.block _ (by omega), Below.heap_alloc _ _ _ (by simp)]
    exact World.alloc_heap_new w alIns
  have hk : W.heap[w.heap.size + 1]? = some (alBlk w.heap.size) := by
    rw [hb.block _ (by omega)]
    have := World.alloc_heap_new (w.alloc alIns) (alBlk w.heap.size)
    simpa using this
  have l1 := (Array.getElem?_eq_some_iff.1 hi).1
  have l2 := (Array.getElem?_eq_some_iff.1 hk).1
  unfold alIns at hi
  unfold alBlk at hk
  refine ⟨.inl ⟨rfl, _, _, rfl⟩, .inl ⟨rfl, _, _, rfl⟩, .inr ⟨w.heap.size + 1, 0, 1, rfl, by decide, by decide, l2, fun i hi1 x hx => ?_⟩⟩
  have hi1 : i < 1 := hi1
  obtain rfl : i = 0 := by omega
  simp only [alG, List.getElem?_cons_zero, Option.some.injEq] at hx
  subst hx
  refine ⟨_, _, _, (cell_of_block hk (k := 0) rfl).1, .inr ⟨w.heap.size, 0, 1, rfl, by decide, by decide, l1, fun j hj1 y hy => ?_⟩, (cell_of_block hk (k := 1) rfl).1, (cell_of_block hk (k := 2) rfl).1, (cell_of_block hk (k := 3) rfl).1, (cell_of_block hk (k := 4) rfl).1, (cell_of_block hk (k := 5) rfl).1, (cell_of_block hk (k := 6) rfl).1, (cell_of_block hk (k := 7) rfl).1, (cell_of_block hk (k := 8) rfl).1, (cell_of_block hk (k := 9) rfl).1, .inl ⟨rfl, _, _, rfl⟩, .inl ⟨rfl, _, _, rfl⟩, by decide⟩
  have hj1 : j < 1 := hj1
  obtain rfl : j = 0 := by omega
  simp only [List.getElem?_cons_zero, Option.some.injEq] at hy
  subst hy
  exact ⟨_, _, (cell_of_block hi (k := 0) rfl).1, (cell_of_block hi (k := 1) rfl).1, (cell_of_block hi (k := 2) rfl).1, (cell_of_block hi (k := 3) rfl).1, (cell_of_block hi (k := 4) rfl).1, (cell_of_block hi (k := 5) rfl).1, (cell_of_block hi (k := 6) rfl).1, (cell_of_block hi (k := 7) rfl).1, .inl ⟨rfl, _, _, rfl⟩, .inl ⟨rfl, _, _, rfl⟩, by decide⟩
/-- What Live tells, as lists of lists. -/
noncomputable def liveL (x : PGr) : List (List Int) := (List.range x.blocks.length).map (needL x)
theorem LiveOut.rows {x : PGr} {n rb : Nat} {vs : Nat → Value} {w w' : World} (h : LiveOut x n rb vs w w') (hn : n = x.blocks.length) (hb : n ≤ 20000) : RowsR w' (.slice (some ⟨rb, 0, none⟩) n n) (liveL x) := by
  have hl : (liveL x).length = n := by unfold liveL; rw [List.length_map, List.length_range, hn]
  unfold RowsR
  rw [hl]
  rcases Nat.eq_zero_or_pos n with h0 | h0
  · exact .inl ⟨h0, _, _, by rw [h0]⟩
  · refine .inr ⟨rb, 0, n, rfl, h0, ⟨Nat.le_refl _, by omega⟩, h.ah.lt, fun i hi y hy => ⟨vs i, ?_, ?_⟩⟩
    · rw [Nat.mul_one, Nat.zero_add]; exact (h.ah.cell hi).1
    · have : y = needL x i := by
        unfold liveL at hy
        rw [List.getElem?_map, List.getElem?_range (by omega)] at hy
        injection hy with hy; exact hy.symm
      rw [this]
      exact ints_own (h.ah.rows i hi)
theorem al_liveL : liveL alG = [[1, 2]] := by
  unfold liveL
  rw [show alG.blocks.length = 1 by rfl, show List.range 1 = [0] by rfl]
  simp only [List.map_cons, List.map_nil]
  unfold needL
  rw [al_list]; rfl
theorem al_live (w W : World) (hb : Below (w.heap.size + 2) ((w.alloc alIns).alloc (alBlk w.heap.size)) W) (hT : TabAt 0 Lib.deBruijn64tab W) (h0 : 0 < W.heap.size) :
    Calls Tryd.prog 11 #[.agg #[.slice none 0 0, .int .i64 3, .slice none 0 0, .slice (some ⟨w.heap.size + 1, 0, none⟩) 1 1]] W (LiveOk alG 1 W) :=
  live_ok alG (.slice none 0 0) (.slice none 0 0) (.slice (some ⟨w.heap.size + 1, 0, none⟩) 1 1) W (al_lies w W hb) al_sm al_fits hT h0
theorem rows_12 (W W' : World) (hb : Below (W.heap.size + 2) ((W.alloc (.cells #[.int .i64 1, .int .i64 2] 3)).alloc (.cells #[.slice (some ⟨W.heap.size, 0, none⟩) 2 2] 22)) W') : RowsR W' (.slice (some ⟨W.heap.size + 1, 0, none⟩) 1 1) [[1, 2]] := by
  have hi : W'.heap[W.heap.size]? = some (.cells #[.int .i64 1, .int .i64 2] 3) := by
    rw [hb.block _ (by omega), Below.heap_alloc _ _ _ (by simp)]
    exact World.alloc_heap_new W _
  have hk : W'.heap[W.heap.size + 1]? = some (.cells #[.slice (some ⟨W.heap.size, 0, none⟩) 2 2] 22) := by
    rw [hb.block _ (by omega)]
    have := World.alloc_heap_new (W.alloc (.cells #[.int .i64 1, .int .i64 2] 3)) (.cells #[.slice (some ⟨W.heap.size, 0, none⟩) 2 2] 22)
    simpa using this
  refine .inr ⟨W.heap.size + 1, 0, 1, rfl, by decide, by decide, (Array.getElem?_eq_some_iff.1 hk).1, fun i hi1 y hy => ?_⟩
  have hi1 : i < 1 := hi1
  obtain rfl : i = 0 := by omega
  simp only [List.getElem?_cons_zero, Option.some.injEq] at hy
  subst hy
  refine ⟨_, (cell_of_block hk (k := 0) rfl).1, .inr ⟨W.heap.size, 0, 2, rfl, by decide, by decide, (Array.getElem?_eq_some_iff.1 hi).1, fun j hj1 z hz => ?_⟩⟩
  match j, hz with
  | 0, hz => injection hz with hz; subst hz; exact (cell_of_block hi (k := 0) rfl).1
  | 1, hz => injection hz with hz; subst hz; exact (cell_of_block hi (k := 1) rfl).1
set_option maxHeartbeats 4000000 in
set_option maxRecDepth 100000 in
theorem alive_any (w : World) (hT : TabAt 0 Lib.deBruijn64tab w) (h0 : 0 < w.heap.size) : Calls Tryd.prog 13 #[] w (Is (.bool true) w) := by
  have HLV : Hid (Calls Tryd.prog 11 #[.agg #[.slice none 0 0, .int .i64 3, .slice none 0 0, .slice (some ⟨w.heap.size + 1, 0, none⟩) 1 1]] (((w.alloc alIns).alloc (alBlk w.heap.size)).alloc (.cells #[.slice none 0 0, .int .i64 3, .slice none 0 0, .slice (some ⟨w.heap.size + 1, 0, none⟩) 1 1] 26)) (LiveOk alG 1 (((w.alloc alIns).alloc (alBlk w.heap.size)).alloc (.cells #[.slice none 0 0, .int .i64 3, .slice none 0 0, .slice (some ⟨w.heap.size + 1, 0, none⟩) 1 1] 26)))) := Lib.hid (by
    have h1 : Below w.heap.size w (((w.alloc alIns).alloc (alBlk w.heap.size)).alloc (.cells #[.slice none 0 0, .int .i64 3, .slice none 0 0, .slice (some ⟨w.heap.size + 1, 0, none⟩) 1 1] 26)) := ((Graph.below_alloc w _).alloc (by simp) _).alloc (by simp; omega) _
    refine al_live w _ ?_ (tab_below hT h0 h1) (Nat.lt_of_lt_of_le h0 h1.size)
    exact (Below.refl _ _).alloc (by simp) _)
  have HW : Hid (Below w.heap.size w (((w.alloc alIns).alloc (alBlk w.heap.size)).alloc (.cells #[.slice none 0 0, .int .i64 3, .slice none 0 0, .slice (some ⟨w.heap.size + 1, 0, none⟩) 1 1] 26))) := Lib.hid (((Graph.below_alloc w _).alloc (by simp) _).alloc (by simp; omega) _)
  clear hT h0
  unfold alIns alBlk at HLV HW
  go_enter Tryd.func13, Tryd.ntmps13
  go_wp2_with (first
    | (go_at_call 11
       refine HLV.out.mono ?_
       rintro e w5 ⟨rb, vs, rfl, h5⟩
       have H5 := Lib.hid h5
       clear h5)
    | (go_at_call 14
       have hb6 := ((Graph.below_alloc w5 (.cells #[.int .i64 1, .int .i64 2] 3)).alloc (by simp) (.cells #[.slice (some ⟨w5.heap.size, 0, none⟩) 2 2] 22))
       refine (sameAll_true [[1, 2]] _ _ _ (by rw [← al_liveL]; exact (H5.out.rows rfl (by decide)).below hb6) (rows_12 w5 _ (Below.refl _ _))).mono ?_
       rintro e w7 ⟨rfl, hb7⟩
       have HB6 := Lib.hid hb6
       have HB7 := Lib.hid hb7
       clear hb6 hb7))
  go_ret
  exact ⟨rfl, below_then HW.out (below_then H5.out.below (below_then HB6.out HB7.out))⟩
end Go.Proofs.YtdmmeeolkonmeaaDoor.Live
