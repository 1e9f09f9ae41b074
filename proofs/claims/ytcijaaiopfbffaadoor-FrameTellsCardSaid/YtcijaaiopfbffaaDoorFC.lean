/- The laws of layer frame: same layouts; live. No condition but the table of bits. -/
import Derived.Test.YtcijaaiopfbffaaDoorFB
namespace Go.Proofs.YtcijaaiopfbffaaDoor.Live
open Go.RowKit Go.Proofs.YtcijaaiopfbffaaDoor.Graph Go.Shelf

set_option maxHeartbeats 4000000 in
set_option maxRecDepth 100000 in
theorem sameInts_true (l : List Int) (va vb : Value) (w : World) (ha : IntsR w va l) (hb : IntsR w vb l) :
    Calls Tryd.prog 48 #[va, vb] w (Is (.bool true) w) := by
  obtain ⟨pa, ca, rfl⟩ := ha.form
  obtain ⟨pb, cb, rfl⟩ := hb.form
  have HA := Lib.hid ha
  have HB := Lib.hid hb
  obtain ⟨n, hn⟩ : ∃ n, n = l.length := ⟨_, rfl⟩
  have HN := Lib.hid hn
  rw [← hn]
  clear ha hb hn
  go_enter Tryd.func48, Tryd.ntmps48
  go_wp2
  go_loopw [5] (fun i wr => ∃ k : Nat, k ≤ n ∧ i = .int .i64 k ∧ Hid (Below w.heap.size w wr)) (fun i _ => n - (intOf i).toNat)
  case atStart => exact ⟨0, Nat.zero_le _, rfl, Lib.hid (Below.refl _ _)⟩
  case round =>
    obtain ⟨k, hk, rfl, HW⟩ := hrel
    by_cases hkn : k < n
    · obtain ⟨x, hx⟩ : ∃ x, l[k]? = some x := ⟨_, List.getElem?_eq_getElem (by have := HN.out; omega)⟩
      obtain ⟨g, o, c', hv, hc, hg, hc1, hc2⟩ := ints_cell (HA.out.below HW.out) hx
      obtain ⟨g', o', c'', hv', hc', hg', hc1', hc2'⟩ := ints_cell (HB.out.below HW.out) hx
      rw [← HN.out] at hv hc1 hv' hc1'
      injection hv with e1 _ e3
      subst e1 e3
      injection hv' with e1 _ e3
      subst e1 e3
      have ki : (k : Int) < n := by omega
      have k0 : (0 : Int) ≤ k := by omega
      have k2 : (n : Int) ≤ ca := by omega
      have k3 : (ca : Int) ≤ 9223372036854775807 := by omega
      have k4 : (n : Int) ≤ cb := by omega
      have k5 : (cb : Int) ≤ 9223372036854775807 := by omega
      clear hx hc1 hc2 hc1' hc2'
      go_upto_region 6 with (fail)
      go_cut [25] from 17 to 25 (fun v wq => v = .bool false ∧ Hid (Below wr.heap.size wr wq))
      case first =>
        go_region
        all_goals
          go_wp2
          go_meet
          exact ⟨by simp, Lib.hid (Graph.below_drewN wr _)⟩
      case rest =>
        obtain ⟨rfl, HQ⟩ := hcut
        clear hc hc' 
        go_wp2
        exact ⟨⟨k + 1, by omega, by go_num, Lib.hid (below_then HW.out HQ.out)⟩, by simp [intOf]; omega⟩
    · have hkn2 : k = n := by omega
      have hki : ¬ ((k : Int) < n) := by omega
      go_wp2
      go_ret
      exact ⟨rfl, HW.out⟩
set_option maxHeartbeats 4000000 in
set_option maxRecDepth 100000 in
theorem laySame_true (A S L W : Int) (l : List Int) (va vb : Value) (w : World) (ha : IntsR w va l) (hb : IntsR w vb l) :
    Calls Tryd.prog 27 #[.agg #[.int .i64 A, va, .int .i64 S, .int .i64 L, .int .i64 W], .agg #[.int .i64 A, vb, .int .i64 S, .int .i64 L, .int .i64 W]] w (Is (.bool true) w) := by
  obtain ⟨pa, ca, rfl⟩ := ha.form
  obtain ⟨pb, cb, rfl⟩ := hb.form
  have HS := Lib.hid (fun (W' : World) (hW : Below w.heap.size w W') => sameInts_true l _ _ W' (ha.below hW) (hb.below hW))
  generalize l.length = n at *
  clear ha hb
  go_enter Tryd.func27, Tryd.ntmps27
  have HX0 : Hid (∀ W' : World, Below (w.heap.size + 2) ((w.alloc (.cells #[.int .i64 A, .slice pa n ca, .int .i64 S, .int .i64 L, .int .i64 W] 51)).alloc (.cells #[.int .i64 A, .slice pb n cb, .int .i64 S, .int .i64 L, .int .i64 W] 51)) W' →
      (W'.cell? ⟨w.heap.size, 2, none⟩ = some (.int .i64 S) ∧ W'.cell? ⟨w.heap.size, 3, none⟩ = some (.int .i64 L) ∧ W'.cell? ⟨w.heap.size, 4, none⟩ = some (.int .i64 W)) ∧ (W'.cell? ⟨w.heap.size + 1, 2, none⟩ = some (.int .i64 S) ∧ W'.cell? ⟨w.heap.size + 1, 3, none⟩ = some (.int .i64 L) ∧ W'.cell? ⟨w.heap.size + 1, 4, none⟩ = some (.int .i64 W))) := Lib.hid (fun W' hW => by
    have h0 : W'.heap[w.heap.size]? = some (.cells #[.int .i64 A, .slice pa n ca, .int .i64 S, .int .i64 L, .int .i64 W] 51 (0, 0)) := by
      rw [hW.block _ (by omega), Below.heap_alloc _ _ _ (by simp)]; exact heap_new w _
    have h1 := (hW.block (w.heap.size + 1) (by omega)).trans (new_at w _ _)
    exact ⟨⟨(cell_of_block h0 (k := 2) rfl).1, (cell_of_block h0 (k := 3) rfl).1, (cell_of_block h0 (k := 4) rfl).1⟩, (cell_of_block h1 (k := 2) rfl).1, (cell_of_block h1 (k := 3) rfl).1, (cell_of_block h1 (k := 4) rfl).1⟩)
  go_wp2_with (
    go_at_call 48
    refine (HS.out _ (below2 w _ _)).mono ?_
    rintro e w5 ⟨rfl, hb5⟩
    have HB5 : Hid (Below w.heap.size w w5) := Lib.hid (below_then (below2 w _ _) hb5)
    obtain ⟨⟨x2, x3, x4⟩, z2, z3, z4⟩ := HX0.out w5 (by simpa using hb5)
    clear hb5)
  go_ret
  exact ⟨rfl, HB5.out⟩
/-- The graph of the law's live. -/
def lvG : PGr := ⟨[2, 0], 12, [⟨3, 0⟩, ⟨2, 5⟩], [⟨[⟨1, 1, 0, 0, 0, 0, [], []⟩, ⟨2, 11, 4, 0, 0, 0, [], []⟩], ⟨5, 0, -1, 0, 0, 0, 0, [], []⟩⟩]⟩
theorem lv_need (b : Nat) (t : Int) : Need lvG b t ↔ b = 0 ∧ t = 4 := by
  constructor
  · intro h
    have hb : b = 0 := by have := h.lt; simp [lvG] at this; omega
    subst hb
    refine ⟨rfl, ?_⟩
    cases h with
    | use hb h1 =>
      simp only [lvG, List.getElem?_cons_zero, Option.some.injEq] at hb
      subst hb
      simp only [firstB, firstC, usesI, setsT, usesE] at h1
      by_cases e4 : t = 4
      · exact e4
      · by_cases e1 : (1 : Int) = t
        · subst e1; simp at h1
        · by_cases e11 : (11 : Int) = t
          · subst e11; simp at h1
          · simp [e4, e1, e11] at h1
    | step hb _ hc _ =>
      simp only [lvG, List.getElem?_cons_zero, Option.some.injEq] at hb
      subst hb
      simp [namedN] at hc
  · rintro ⟨rfl, rfl⟩
    exact .use (blk := ⟨[⟨1, 1, 0, 0, 0, 0, [], []⟩, ⟨2, 11, 4, 0, 0, 0, [], []⟩], ⟨5, 0, -1, 0, 0, 0, 0, [], []⟩⟩) rfl rfl
theorem lv_list : needL lvG 0 = [4] := by
  unfold needL needN
  rw [show lvG.temps.toNat = 12 by rfl, show List.range 12 = [0, 1, 2, 3, 4, 5, 6, 7, 8, 9, 10, 11] by rfl]
  have h4 : Need lvG 0 ((4 : Nat) : Int) := (lv_need _ _).2 ⟨rfl, rfl⟩
  have hn : ∀ k : Nat, k ≠ 4 → ¬ Need lvG 0 (k : Int) := fun k hk hh => by have := ((lv_need _ _).1 hh).2; omega
  rw [List.filter_cons_of_neg (by simpa using hn 0 (by decide)), List.filter_cons_of_neg (by simpa using hn 1 (by decide)), List.filter_cons_of_neg (by simpa using hn 2 (by decide)), List.filter_cons_of_neg (by simpa using hn 3 (by decide)), List.filter_cons_of_pos (by simpa using h4), List.filter_cons_of_neg (by simpa using hn 5 (by decide)), List.filter_cons_of_neg (by simpa using hn 6 (by decide)), List.filter_cons_of_neg (by simpa using hn 7 (by decide)), List.filter_cons_of_neg (by simpa using hn 8 (by decide)), List.filter_cons_of_neg (by simpa using hn 9 (by decide)), List.filter_cons_of_neg (by simpa using hn 10 (by decide)), List.filter_cons_of_neg (by simpa using hn 11 (by decide)), List.filter_nil]
  rfl
theorem lv_regs : regsOf lvG = [0, 1, 2, 4] := by
  unfold regsOf
  rw [lv_list]
  decide
theorem lv_fit : frameFit lvG = true := by decide
theorem lv_sm : SmG lvG := by simp [SmG, lvG, SmB, SmI, SmE, reachBytes]
def lvO1 : Obj := .cells #[.int .i64 2, .int .i64 0] 3
def lvO2 : Obj := .cells #[.int .i64 3, .int .i64 0, .int .i64 2, .int .i64 5] 59
def lvO3 : Obj := .cells #[.int .i64 1, .int .i64 1, .int .i64 0, .int .i64 0, .int .i64 0, .int .u32 0, .slice none 0 0, .slice none 0 0, .int .i64 2, .int .i64 11, .int .i64 4, .int .i64 0, .int .i64 0, .int .u32 0, .slice none 0 0, .slice none 0 0] 77
def lvO4 (g : Nat) : Obj := .cells #[.slice (some ⟨g, 0, none⟩) 2 2, .int .i64 5, .int .i64 0, .int .i64 (-1), .int .i64 0, .int .u32 0, .int .i64 0, .int .i64 0, .slice none 0 0, .slice none 0 0] 42
theorem lv_lies (w W : World) (hb : Below (w.heap.size + 4) ((((w.alloc lvO1).alloc lvO2).alloc lvO3).alloc (lvO4 (w.heap.size + 2))) W) : GrL W (.slice (some ⟨w.heap.size, 0, none⟩) 2 2) (.slice (some ⟨w.heap.size + 1, 0, none⟩) 2 2) (.slice (some ⟨w.heap.size + 3, 0, none⟩) 1 1) lvG := by
  have h1 : W.heap[w.heap.size]? = some lvO1 := by
    rw [hb.block _ (by omega), Below.heap_alloc _ _ _ (by simp only [World.size_alloc]; omega), Below.heap_alloc _ _ _ (by simp only [World.size_alloc]; omega), Below.heap_alloc _ _ _ (by simp only [World.size_alloc]; omega)]
    exact World.alloc_heap_new w lvO1
  have h2 : W.heap[w.heap.size + 1]? = some lvO2 := by
    rw [hb.block _ (by omega), Below.heap_alloc _ _ _ (by simp only [World.size_alloc]; omega), Below.heap_alloc _ _ _ (by simp)]
    have := World.alloc_heap_new (w.alloc lvO1) lvO2
    simpa using this
  have h3 : W.heap[w.heap.size + 2]? = some lvO3 := by
    rw [hb.block _ (by omega), Below.heap_alloc _ _ _ (by simp)]
    have := World.alloc_heap_new ((w.alloc lvO1).alloc lvO2) lvO3
    simpa using this
  have h4 : W.heap[w.heap.size + 3]? = some (lvO4 (w.heap.size + 2)) := by
    rw [hb.block _ (by omega)]
    have := World.alloc_heap_new (((w.alloc lvO1).alloc lvO2).alloc lvO3) (lvO4 (w.heap.size + 2))
    simpa using this
  have l1 := (Array.getElem?_eq_some_iff.1 h1).1
  have l2 := (Array.getElem?_eq_some_iff.1 h2).1
  have l3 := (Array.getElem?_eq_some_iff.1 h3).1
  have l4 := (Array.getElem?_eq_some_iff.1 h4).1
  unfold lvO1 at h1
  unfold lvO2 at h2
  unfold lvO3 at h3
  unfold lvO4 at h4
  refine ⟨ints_two h1, .inr ⟨w.heap.size + 1, 0, 2, rfl, by decide, by decide, l2, fun i hi1 x hx => ?_⟩, .inr ⟨w.heap.size + 3, 0, 1, rfl, by decide, by decide, l4, fun i hi1 x hx => ?_⟩⟩
  · match i, hx with
    | 0, hx => injection hx with hx; subst hx; exact ⟨(cell_of_block h2 (k := 0) rfl).1, (cell_of_block h2 (k := 1) rfl).1⟩
    | 1, hx => injection hx with hx; subst hx; exact ⟨(cell_of_block h2 (k := 2) rfl).1, (cell_of_block h2 (k := 3) rfl).1⟩
  have hi1 : i < 1 := hi1
  obtain rfl : i = 0 := by omega
  simp only [lvG, List.getElem?_cons_zero, Option.some.injEq] at hx
  subst hx
  refine ⟨_, _, _, (cell_of_block h4 (k := 0) rfl).1, .inr ⟨w.heap.size + 2, 0, 2, rfl, by decide, by decide, l3, fun j hj1 y hy => ?_⟩, (cell_of_block h4 (k := 1) rfl).1, (cell_of_block h4 (k := 2) rfl).1, (cell_of_block h4 (k := 3) rfl).1, (cell_of_block h4 (k := 4) rfl).1, (cell_of_block h4 (k := 5) rfl).1, (cell_of_block h4 (k := 6) rfl).1, (cell_of_block h4 (k := 7) rfl).1, (cell_of_block h4 (k := 8) rfl).1, (cell_of_block h4 (k := 9) rfl).1, .inl ⟨rfl, _, _, rfl⟩, .inl ⟨rfl, _, _, rfl⟩, by decide⟩
  match j, hy with
  | 0, hy => injection hy with hy; subst hy; exact ⟨_, _, (cell_of_block h3 (k := 0) rfl).1, (cell_of_block h3 (k := 1) rfl).1, (cell_of_block h3 (k := 2) rfl).1, (cell_of_block h3 (k := 3) rfl).1, (cell_of_block h3 (k := 4) rfl).1, (cell_of_block h3 (k := 5) rfl).1, (cell_of_block h3 (k := 6) rfl).1, (cell_of_block h3 (k := 7) rfl).1, .inl ⟨rfl, _, _, rfl⟩, .inl ⟨rfl, _, _, rfl⟩, by decide⟩
  | 1, hy => injection hy with hy; subst hy; exact ⟨_, _, (cell_of_block h3 (k := 8) rfl).1, (cell_of_block h3 (k := 9) rfl).1, (cell_of_block h3 (k := 10) rfl).1, (cell_of_block h3 (k := 11) rfl).1, (cell_of_block h3 (k := 12) rfl).1, (cell_of_block h3 (k := 13) rfl).1, (cell_of_block h3 (k := 14) rfl).1, (cell_of_block h3 (k := 15) rfl).1, .inl ⟨rfl, _, _, rfl⟩, .inl ⟨rfl, _, _, rfl⟩, by decide⟩
end Go.Proofs.YtcijaaiopfbffaaDoor.Live
namespace Go.Proofs.YtcijaaiopfbffaaDoor.Live
open Go.RowKit Go.Proofs.YtcijaaiopfbffaaDoor.Graph Go.Shelf

def lvW (w : World) : World := (((w.alloc lvO1).alloc lvO2).alloc lvO3).alloc (lvO4 (w.heap.size + 2))
def lvB (w : World) : World := (lvW w).alloc (.cells #[.slice (some ⟨w.heap.size, 0, none⟩) 2 2, .int .i64 12, .slice (some ⟨w.heap.size + 1, 0, none⟩) 2 2, .slice (some ⟨w.heap.size + 3, 0, none⟩) 1 1] 26)
theorem lvW_size (w : World) : (lvW w).heap.size = w.heap.size + 4 := by simp [lvW]
theorem lvB_below (w : World) : Below w.heap.size w (lvB w) := by
  unfold lvB lvW
  exact ((((Graph.below_alloc w _).alloc (by simp only [World.size_alloc]; omega) _).alloc (by simp only [World.size_alloc]; omega) _).alloc (by simp only [World.size_alloc]; omega) _).alloc (by simp only [World.size_alloc]; omega) _
theorem lv_at {w W : World} (h : Below (lvB w).heap.size (lvB w) W) : GrL W (.slice (some ⟨w.heap.size, 0, none⟩) 2 2) (.slice (some ⟨w.heap.size + 1, 0, none⟩) 2 2) (.slice (some ⟨w.heap.size + 3, 0, none⟩) 1 1) lvG := by
  refine lv_lies w W ?_
  have h1 : Below (lvW w).heap.size (lvW w) (lvB w) := Graph.below_alloc _ _
  have h2 := below_then h1 h
  rw [lvW_size] at h2
  exact h2
theorem rows_0124 (W W' : World) (hb : Below (W.heap.size + 1) (W.alloc (.cells #[.int .i64 0, .int .i64 1, .int .i64 2, .int .i64 4] 3)) W') : IntsR W' (.slice (some ⟨W.heap.size, 0, none⟩) 4 4) [0, 1, 2, 4] := by
  have hi : W'.heap[W.heap.size]? = some (.cells #[.int .i64 0, .int .i64 1, .int .i64 2, .int .i64 4] 3) := by
    rw [hb.block _ (by omega)]
    exact World.alloc_heap_new W _
  refine .inr ⟨W.heap.size, 0, 4, rfl, by decide, by decide, (Array.getElem?_eq_some_iff.1 hi).1, fun i hi1 y hy => ?_⟩
  match i, hy with
  | 0, hz => injection hz with hz; subst hz; exact (cell_of_block hi (k := 0) rfl).1
  | 1, hz => injection hz with hz; subst hz; exact (cell_of_block hi (k := 1) rfl).1
  | 2, hz => injection hz with hz; subst hz; exact (cell_of_block hi (k := 2) rfl).1
  | 3, hz => injection hz with hz; subst hz; exact (cell_of_block hi (k := 3) rfl).1
theorem lv_lay {w W : World} (h : Below (lvB w).heap.size (lvB w) W) (hT : TabAt 0 Lib.deBruijn64tab W) (h0 : 0 < W.heap.size) :
    Calls Tryd.prog 22 #[.agg #[.slice (some ⟨w.heap.size, 0, none⟩) 2 2, .int .i64 12, .slice (some ⟨w.heap.size + 1, 0, none⟩) 2 2, .slice (some ⟨w.heap.size + 3, 0, none⟩) 1 1]] W fun e w' =>
      ∃ v, e = .returned (.tuple #[.agg #[.int .i64 4, v, .int .i64 3, .int .i64 5, .int .i64 16], .int .i64 0]) ∧ IntsR w' v [0, 1, 2, 4] ∧ Below W.heap.size W w' := by
  refine (lay_ok lvG _ _ _ W (lv_at h) lv_sm.n hT h0 lv_fit).mono ?_
  rintro e w' ⟨v, rfl, hv, hb⟩
  have hw : wordsN lvG = 16 := by unfold wordsN; rw [lv_regs]; rfl
  rw [hw]
  refine ⟨v, rfl, ?_, hb⟩
  have := ints_own hv
  rw [lv_regs] at this
  exact this
theorem lv_weight {w W : World} (h : Below (lvB w).heap.size (lvB w) W) (hT : TabAt 0 Lib.deBruijn64tab W) (h0 : 0 < W.heap.size) :
    Calls Tryd.prog 24 #[.agg #[.slice (some ⟨w.heap.size, 0, none⟩) 2 2, .int .i64 12, .slice (some ⟨w.heap.size + 1, 0, none⟩) 2 2, .slice (some ⟨w.heap.size + 3, 0, none⟩) 1 1]] W fun e w' =>
      e = .returned (.tuple #[.int .i64 64, .int .i64 0]) ∧ Below W.heap.size W w' := by
  refine (weight_ok lvG _ _ _ W (lv_at h) lv_sm.n hT h0 lv_fit).mono ?_
  rintro e w' ⟨rfl, hb⟩
  have hw : wordsN lvG = 16 := by unfold wordsN; rw [lv_regs]; rfl
  rw [hw]
  exact ⟨rfl, hb⟩
set_option maxHeartbeats 4000000 in
set_option maxRecDepth 100000 in
theorem live19_any (w : World) (hT : TabAt 0 Lib.deBruijn64tab w) (h0 : 0 < w.heap.size) : Calls Tryd.prog 26 #[] w (Is (.bool true) w) := by
  have HT := Lib.hid (fun (W : World) (hW : Below w.heap.size w W) => tab_below hT h0 hW)
  have H0 := Lib.hid (fun (W : World) (hW : Below w.heap.size w W) => Nat.lt_of_lt_of_le h0 hW.size)
  have HBB := Lib.hid (lvB_below w)
  have HLY := Lib.hid (fun (W : World) (hW : Below (lvB w).heap.size (lvB w) W) => lv_lay hW (HT.out W (below_then (lvB_below w) hW)) (H0.out W (below_then (lvB_below w) hW)))
  have HWE := Lib.hid (fun (W : World) (hW : Below (lvB w).heap.size (lvB w) W) => lv_weight hW (HT.out W (below_then (lvB_below w) hW)) (H0.out W (below_then (lvB_below w) hW)))
  have HBX : Hid (∀ W, Below (lvB w).heap.size (lvB w) W → W.cell? ⟨w.heap.size + 4, 0, none⟩ = some (.slice (some ⟨w.heap.size, 0, none⟩) 2 2) ∧ W.cell? ⟨w.heap.size + 4, 1, none⟩ = some (.int .i64 12) ∧ W.cell? ⟨w.heap.size + 4, 2, none⟩ = some (.slice (some ⟨w.heap.size + 1, 0, none⟩) 2 2) ∧ W.cell? ⟨w.heap.size + 4, 3, none⟩ = some (.slice (some ⟨w.heap.size + 3, 0, none⟩) 1 1)) := Lib.hid (fun W hW => by
    have h1 : (lvB w).heap[w.heap.size + 4]? = some (.cells #[.slice (some ⟨w.heap.size, 0, none⟩) 2 2, .int .i64 12, .slice (some ⟨w.heap.size + 1, 0, none⟩) 2 2, .slice (some ⟨w.heap.size + 3, 0, none⟩) 1 1] 26 (0, 0)) := by
      rw [← lvW_size w]; exact heap_new _ _
    have h2 := (hW.block _ (Array.getElem?_eq_some_iff.1 h1).1).trans h1
    exact ⟨(cell_of_block h2 (k := 0) rfl).1, (cell_of_block h2 (k := 1) rfl).1, (cell_of_block h2 (k := 2) rfl).1, (cell_of_block h2 (k := 3) rfl).1⟩)
  clear hT h0
  go_enter Tryd.func26, Tryd.ntmps26
  go_upto_region 2 with (fail)
  rw [show (((((w.alloc (.cells #[.int .i64 2, .int .i64 0] 3)).alloc (.cells #[.int .i64 3, .int .i64 0, .int .i64 2, .int .i64 5] 59)).alloc (.cells #[.int .i64 1, .int .i64 1, .int .i64 0, .int .i64 0, .int .i64 0, .int .u32 0, .slice none 0 0, .slice none 0 0, .int .i64 2, .int .i64 11, .int .i64 4, .int .i64 0, .int .i64 0, .int .u32 0, .slice none 0 0, .slice none 0 0] 77)).alloc (.cells #[.slice (some ⟨w.heap.size + 1 + 1, 0, none⟩) 2 2, .int .i64 5, .int .i64 0, .int .i64 (-1), .int .i64 0, .int .u32 0, .int .i64 0, .int .i64 0, .slice none 0 0, .slice none 0 0] 42)).alloc (.cells #[.slice (some ⟨w.heap.size, 0, none⟩) 2 2, .int .i64 12, .slice (some ⟨w.heap.size + 1, 0, none⟩) 2 2, .slice (some ⟨w.heap.size + 1 + 1 + 1, 0, none⟩) 1 1] 26)) = lvB w from rfl]
  simp only [Nat.add_assoc, Nat.reduceAdd]
  have hb0 := Below.refl (lvB w).heap.size (lvB w)
  obtain ⟨y0, y1, y2, y3⟩ := HBX.out _ hb0
  have HB0 := Lib.hid hb0
  generalize lvB w = W0 at HBB HLY HWE HBX HB0 y0 y1 y2 y3 ⊢
  clear hb0
  go_wp2_with (first
    | (go_at_call 22
       refine (HLY.out _ HB0.out).mono ?_
       rintro e w5 ⟨v, rfl, hv, hb5⟩
       obtain ⟨pv, cv, rfl⟩ := hv.form
       have HV := Lib.hid hv
       have HB5 : Hid (Below W0.heap.size W0 (w5.alloc (.cells #[.int .i64 4, .slice pv 4 cv, .int .i64 3, .int .i64 5, .int .i64 16] 51))) := Lib.hid (below_then hb5 (Graph.below_alloc w5 _))
       obtain ⟨z0, z1, z2, z3⟩ := HBX.out w5 hb5
       obtain ⟨t0, t1, t2, t3⟩ := HBX.out _ HB5.out
       clear hb5 hv)
    | (go_at_call 24
       refine (HWE.out _ HB5.out).mono ?_
       rintro e w6 ⟨rfl, hb6⟩
       have HB6 := Lib.hid hb6
       have hx := (hb6.block w5.heap.size (by simp)).trans (heap_new w5 _)
       obtain ⟨u0, _⟩ := cell_of_block hx (k := 0) rfl
       obtain ⟨u1, _⟩ := cell_of_block hx (k := 1) rfl
       obtain ⟨u2, _⟩ := cell_of_block hx (k := 2) rfl
       obtain ⟨u3, _⟩ := cell_of_block hx (k := 3) rfl
       obtain ⟨u4, _⟩ := cell_of_block hx (k := 4) rfl
       have hl6 := (Array.getElem?_eq_some_iff.1 hx).1
       clear hb6 hx)
    | (go_at_call 27
       have hb7 := Graph.below_alloc w6 (.cells #[.int .i64 0, .int .i64 1, .int .i64 2, .int .i64 4] 3)
       refine (laySame_true 4 3 5 16 [0, 1, 2, 4] _ _ _ ((HV.out.below (below_then (Graph.below_alloc w5 _) HB6.out)).below hb7) (rows_0124 w6 _ (Below.refl _ _))).mono ?_
       rintro e w8 ⟨rfl, hb8⟩
       have HB8 : Hid (Below w6.heap.size w6 w8) := Lib.hid (below_then hb7 hb8)
       clear hb7 hb8))
  go_ret
  exact ⟨rfl, below_then HBB.out (below_then HB5.out (below_then HB6.out HB8.out))⟩
end Go.Proofs.YtcijaaiopfbffaaDoor.Live
