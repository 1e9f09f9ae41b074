/- The laws of layer frame: same layouts; live. No condition but the table of bits. -/
import Derived.Test.YtdmmeeolkonmeaaDoorFB
namespace Go.Proofs.YtdmmeeolkonmeaaDoor.Live
open Go.RowKit Go.Proofs.YtdmmeeolkonmeaaDoor.Graph Go.Shelf

set_option maxHeartbeats 4000000 in
set_option maxRecDepth 100000 in
theorem sameInts_true (l : List Int) (va vb : Value) (w : World) (ha : IntsR w va l) (hb : IntsR w vb l) :
    Calls Tryd.prog 50 #[va, vb] w (Is (.bool true) w) := by
  obtain ⟨pa, ca, rfl⟩ := ha.form
  obtain ⟨pb, cb, rfl⟩ := hb.form
  have HA := Lib.hid ha
  have HB := Lib.hid hb
  obtain ⟨n, hn⟩ : ∃ n, n = l.length := ⟨_, rfl⟩
  have HN := Lib.hid hn
  rw [← hn]
  clear ha hb hn
  go_enter Tryd.func50, Tryd.ntmps50
  go_wp2
  go_loopw [5] (fun i wr => ∃ k : Nat, k ≤ n ∧ i = .int .i64 k ∧ Hid (Below w.heap.size w wr)) (fun i _ => n - (intOf i).toNat)
  case atStart => exact ⟨0, Nat.zero_le _, rfl, Lib.hid (Below.refl _ _)⟩
  case round =>
    obtain ⟨k, hk, rfl, HW⟩ := hrel
    by_cases hkn : k < n
    · obtain ⟨x, hx⟩ : ∃ x, l[k]? = some x := ⟨_, List.getElem?_eq_getElem (by have := HN.out; omega)⟩
      obtain ⟨g, o, c', hv, hc, hg, hc1, hc2⟩ := ints_cell (HA.out.below HW.out) hx
      obtain ⟨g', o', c'', hv', hc', hg', hc1', hc2'⟩ := ints_cell (HB.out.below HW.out) hx
      rw [← HN.out] at hv hc1 hv' hc1'
      injection hv with e1 _ e3
      subst e1 e3
      injection hv' with e1 _ e3
      subst e1 e3
      have ki : (k : Int) < n := by omega
      have k0 : (0 : Int) ≤ k := by omega
      have k2 : (n : Int) ≤ ca := by omega
      have k3 : (ca : Int) ≤ 9223372036854775807 := by omega
      have k4 : (n : Int) ≤ cb := by omega
      have k5 : (cb : Int) ≤ 9223372036854775807 := by omega
      clear hx hc1 hc2 hc1' hc2'
      go_upto_region 6 with (fail)
      go_cut [25] from 17 to 25 (fun v wq => v = .bool false ∧ Hid (Below wr.heap.size wr wq))
      case first =>
        go_region
        all_goals
          go_wp2
          go_meet
          exact ⟨by simp, Lib.hid (Graph.below_drewN wr _)⟩
      case rest =>
        obtain ⟨rfl, HQ⟩ := hcut
        clear hc hc' 
        go_wp2
        exact ⟨⟨k + 1, by omega, by go_num, Lib.hid (below_then HW.out HQ.out)⟩, by simp [intOf]; omega⟩
    · have hkn2 : k = n := by omega
      have hki : ¬ ((k : Int) < n) := by omega
      go_wp2
      go_ret
      exact ⟨rfl, HW.out⟩
set_option maxHeartbeats 4000000 in
set_option maxRecDepth 100000 in
theorem laySame_true (A S L W : Int) (l : List Int) (va vb : Value) (w : World) (ha : IntsR w va l) (hb : IntsR w vb l) :
    Calls Tryd.prog 28 #[.agg #[.int .i64 A, va, .int .i64 S, .int .i64 L, .int .i64 W], .agg #[.int .i64 A, vb, .int .i64 S, .int .i64 L, .int .i64 W]] w (Is (.bool true) w) := by
  obtain ⟨pa, ca, rfl⟩ := ha.form
  obtain ⟨pb, cb, rfl⟩ := hb.form
  have HS := Lib.hid (fun (W' : World) (hW : Below w.heap.size w W') => sameInts_true l _ _ W' (ha.below hW) (hb.below hW))
  generalize l.length = n at *
  clear ha hb
  go_enter Tryd.func28, Tryd.ntmps28
  have HX0 : Hid (∀ W' : World, Below (w.heap.size + 2) ((w.alloc (.cells #[.int .i64 A, .slice pa n ca, .int .i64 S, .int .i64 L, .int .i64 W] 51)).alloc (.cells #[.int .i64 A, .slice pb n cb, .int .i64 S, .int .i64 L, .int .i64 W] 51)) W' →
      (W'.cell? ⟨w.heap.size, 2, none⟩ = some (.int .i64 S) ∧ W'.cell? ⟨w.heap.size, 3, none⟩ = some (.int .i64 L) ∧ W'.cell? ⟨w.heap.size, 4, none⟩ = some (.int .i64 W)) ∧ (W'.cell? ⟨w.heap.size + 1, 2, none⟩ = some (.int .i64 S) ∧ W'.cell? ⟨w.heap.size + 1, 3, none⟩ = some (.int .i64 L) ∧ W'.cell? ⟨w.heap.size + 1, 4, none⟩ = some (.int .i64 W))) := Lib.hid (fun W' hW => by
    have h0 : W'.heap[w.heap.size]? = some (.cells #[.int .i64 A, .slice pa n ca, .int .i64 S, .int .i64 L, .int .i64 W] 51 (0, 0)) := by
      rw [hW.block _ (by omega), Below.heap_alloc _ _ _ (by simp)]; exact heap_new w _
    have h1 := (hW.block (w.heap.size + 1) (by omega)).trans (new_at w _ _)
    exact ⟨⟨(cell_of_block h0 (k := 2) rfl).1, (cell_of_block h0 (k := 3) rfl).1, (cell_of_block h0 (k := 4) rfl).1⟩, (cell_of_block h1 (k := 2) rfl).1, (cell_of_block h1 (k := 3) rfl).1, (cell_of_block h1 (k := 4) rfl).1⟩)
  go_wp2_with (
    go_at_call 50
    refine (HS.out _ (below2 w _ _)).mono ?_
    rintro e w5 ⟨rfl, hb5⟩
    have HB5 : Hid (Below w.heap.size w w5) := Lib.hid (below_then (below2 w _ _) hb5)
    obtain ⟨⟨x2, x3, x4⟩, z2, z3, z4⟩ := HX0.out w5 (by simpa using hb5)
    clear hb5)
  go_ret
  exact ⟨rfl, HB5.out⟩
/-- The graph of the law's live. -/
def lvG : PGr := ⟨[2, 0], 12, [⟨3, 0⟩, ⟨2, 5⟩], [⟨[⟨1, 1, 0, 0, 0, 0, [], []⟩, ⟨2, 11, 4, 0, 0, 0, [], []⟩], ⟨5, 0, -1, 0, 0, 0, 0, [], []⟩⟩]⟩
theorem lv_need (b : Nat) (t : Int) : Need lvG b t ↔ b = 0 ∧ t = 4 := by
  constructor
  · intro h
    have hb : b = 0 := by have := h.lt; simp [lvG] at this; omega
    subst hb
    refine ⟨rfl, ?_⟩
    cases h with
    | use hb h1 =>
      simp only [lvG, List.getElem?_cons_zero, Option.some.injEq] at hb
      subst hb
      simp only [firstB, firstC, usesI, setsT, usesE] at h1
      by_cases e4 : t = 4
      · exact e4
      · by_cases e1 : (1 : Int) = t
        · subst e1; simp at h1
        · by_cases e11 : (11 : Int) = t
          · subst e11; simp at h1
          · simp [e4, e1, e11] at h1
    | step hb _ hc _ =>
      simp only [lvG, List.getElem?_cons_zero, Option.some.injEq] at hb
      subst hb
      simp [namedN] at hc
  · rintro ⟨rfl, rfl⟩
    exact .use (blk := ⟨[⟨1, 1, 0, 0, 0, 0, [], []⟩, ⟨2, 11, 4, 0, 0, 0, [], []⟩], ⟨5, 0, -1, 0, 0, 0, 0, [], []⟩⟩) rfl rfl
theorem lv_list : needL lvG 0 = [4] := by
  unfold needL needN
  rw [show lvG.temps.toNat = 12 by rfl, show List.range 12 = [0, 1, 2, 3, 4, 5, 6, 7, 8, 9, 10, 11] by rfl]
  have h4 : Need lvG 0 ((4 : Nat) : Int) := (lv_need _ _).2 ⟨rfl, rfl⟩
  have hn : ∀ k : Nat, k ≠ 4 → ¬ Need lvG 0 (k : Int) := fun k hk hh => by have := ((lv_need _ _).1 hh).2; omega
  rw [List.filter_cons_of_neg (by simpa using hn 0 (by decide)), List.filter_cons_of_neg (by simpa using hn 1 (by decide)), List.filter_cons_of_neg (by simpa using hn 2 (by decide)), List.filter_cons_of_neg (by simpa using hn 3 (by decide)), List.filter_cons_of_pos (by simpa using h4), List.filter_cons_of_neg (by simpa using hn 5 (by decide)), List.filter_cons_of_neg (by simpa using hn 6 (by decide)), List.filter_cons_of_neg (by simpa using hn 7 (by decide)), List.filter_cons_of_neg (by simpa using hn 8 (by decide)), List.filter_cons_of_neg (by simpa using hn 9 (by decide)), List.filter_cons_of_neg (by simpa using hn 10 (by decide)), List.filter_cons_of_neg (by simpa using hn 11 (by decide)), List.filter_nil]
  rfl
theorem lv_regs : regsOf lvG = [0, 1, 2, 4] := by
  unfold regsOf
  rw [lv_list]
  decide
theorem lv_fit : frameFit lvG = true := by decide
theorem lv_sm : SmG lvG := by simp [SmG, lvG, SmB, SmI, SmE, reachBytes]
def lvO1 : Obj := .cells #[.int .i64 2, .int .i64 0] 3
def lvO2 : Obj := .cells #[.int .i64 3, .int .i64 0, .int .i64 2, .int .i64 5] 59
def lvO3 : Obj := .cells #[.int .i64 1, .int .i64 1, .int .i64 0, .int .i64 0, .int .i64 0, .int .u32 0, .slice none 0 0, .slice none 0 0, .int .i64 2, .int .i64 11, .int .i64 4, .int .i64 0, .int .i64 0, .int .u32 0, .slice none 0 0, .slice none 0 0] 62
def lvO4 (g : Nat) : Obj := .cells #[.slice (some ⟨g, 0, none⟩) 2 2, .int .i64 5, .int .i64 0, .int .i64 (-1), .int .i64 0, .int .u32 0, .int .i64 0, .int .i64 0, .slice none 0 0, .slice none 0 0] 42
theorem lv_lies (w W : World) (hb : Below (w.heap.size + 4) ((((w.alloc lvO1).alloc lvO2).alloc lvO3).alloc (lvO4 (w.heap.size + 2))) W) : GrL W (.slice (some ⟨w.heap.size, 0, none⟩) 2 2) (.slice (some ⟨w.heap.size + 1, 0, none⟩) 2 2) (.slice (some ⟨w.heap.size + 3, 0, none⟩) 1 1) lvG := by
  have h1 : W.heap[w.heap.size]? = some lvO1 := by
    rw [hb.block _ (by omega), Below.heap_alloc _ _ _ (by simp only [World.size_alloc]; omega), Below.heap_alloc _ _ _ (by simp only [World.size_alloc]; omega), Below.heap_alloc _ _ _ (by simp only [World.size_alloc]; omega)]
    exact World.alloc_heap_new w lvO1
  have h2 : W.heap[w.heap.size + 1]? = some lvO2 := by
    rw [hb.block _ (by omega), Below.heap_alloc _ _ _ (by simp only [World.size_alloc]; omega), Below.heap_alloc _ _ _ (by simp)]
    have := World.alloc_heap_new (w.alloc lvO1) lvO2
    simpa using this
  have h3 : W.heap[w.heap.size + 2]? = some lvO3 := by
    rw [hb.block _ (by omega), Below.heap_alloc _ _ _ (by simp)]
    have := World.alloc_heap_new ((w.alloc lvO1).alloc lvO2) lvO3
    simpa using this
  have h4 : W.heap[w.heap.size + 3]? = some (lvO4 (w.heap.size + 2)) := by
    rw [hb.block _ (by omega)]
    have := World.alloc_heap_new (((w.alloc lvO1).alloc lvO2).alloc lvO3) (lvO4 (w.heap.size + 2))
    simpa using this
  have l1 := (Array.getElem?_eq_some_iff.1 h1).1
  have l2 := (Array.getElem?_eq_some_iff.1 h2).1
  have l3 := (Array.getElem?_eq_some_iff.1 h3).1
  have l4 := (Array.getElem?_eq_some_iff.1 h4).1
  unfold lvO1 at h1
  unfold lvO2 at h2
  unfold lvO3 at h3
  unfold lvO4 at h4
  refine ⟨ints_two h1, .inr ⟨w.heap.size + 1, 0, 2, rfl, by decide, by decide, l2, fun i hi1 x hx => ?_⟩, .inr ⟨w.heap.size + 3, 0, 1, rfl, by decide, by decide, l4, fun i hi1 x hx => ?_⟩⟩
  · match i, hx with
    | 0, hx => injection hx with hx; subst hx; exact ⟨(cell_of_block h2 (k := 0) rfl).1, (cell_of_block h2 (k := 1) rfl).1⟩
    | 1, hx => injection hx with hx; subst hx; exact ⟨(cell_of_block h2 (k := 2) rfl).1, (cell_of_block h2 (k := 3) rfl).1⟩
  have hi1 : i < 1 := hi1
  obtain rfl : i = 0 := by omega
  simp only [lvG, List.getElem?_cons_zero, Option.some.injEq] at hx
  subst hx
  refine ⟨_, _, _, (cell_of_block h4 (k := 0) rfl).1, .inr ⟨w.heap.size + 2, 0, 2, rfl, by decide, by decide, l3, fun j hj1 y hy => ?_⟩, (cell_of_block h4 (k := 1) rfl).1, (cell_of_block h4 (k := 2) rfl).1, (cell_of_block h4 (k := 3) rfl).1, (cell_of_block h4 (k := 4) rfl).1, (cell_of_block h4 (k := 5) rfl).1, (cell_of_block h4 (k := 6) rfl).1, (cell_of_block h4 (k := 7) rfl).1, (cell_of_block h4 (k := 8) rfl).1, (cell_of_block h4 (k := 9) rfl).1, .inl ⟨rfl, _, _, rfl⟩, .inl ⟨rfl, _, _, rfl⟩, by decide⟩
  match j, hy with
  | 0, hy => injection hy with hy; subst hy; exact ⟨_, _, (cell_of_block h3 (k := 0) rfl).1, (cell_of_block h3 (k := 1) rfl).1, (cell_of_block h3 (k := 2) rfl).1, (cell_of_block h3 (k := 3) rfl).1, (cell_of_block h3 (k := 4) rfl).1, (cell_of_block h3 (k := 5) rfl).1, (cell_of_block h3 (k := 6) rfl).1, (cell_of_block h3 (k := 7) rfl).1, .inl ⟨rfl, _, _, rfl⟩, .inl ⟨rfl, _, _, rfl⟩, by decide⟩
  | 1, hy => injection hy with hy; subst hy; exact ⟨_, _, (cell_of_block h3 (k := 8) rfl).1, (cell_of_block h3 (k := 9) rfl).1, (cell_of_block h3 (k := 10) rfl).1, (cell_of_block h3 (k := 11) rfl).1, (cell_of_block h3 (k := 12) rfl).1, (cell_of_block h3 (k := 13) rfl).1, (cell_of_block h3 (k := 14) rfl).1, (cell_of_block h3 (k := 15) rfl).1, .inl ⟨rfl, _, _, rfl⟩, .inl ⟨rfl, _, _, rfl⟩, by decide⟩
end Go.Proofs.YtdmmeeolkonmeaaDoor.Live
namespace Go.Proofs.YtdmmeeolkonmeaaDoor.Live
open Go.RowKit Go.Proofs.YtdmmeeolkonmeaaDoor.Graph Go.Shelf

def lvW (w : World) : World := (((w.alloc lvO1).alloc lvO2).alloc lvO3).alloc (lvO4 (w.heap.size + 2))
def lvB (w : World) : World := (lvW w).alloc (.cells #[.slice (some ⟨w.heap.size, 0, none⟩) 2 2, .int .i64 12, .slice (some ⟨w.heap.size + 1, 0, none⟩) 2 2, .slice (some ⟨w.heap.size + 3, 0, none⟩) 1 1] 26)
theorem lvW_size (w : World) : (lvW w).heap.size = w.heap.size + 4 := by simp [lvW]
theorem lvB_below (w : World) : Below w.heap.size w (lvB w) := by
  unfold lvB lvW
  exact ((((Graph.below_alloc w _).alloc (by simp only [World.size_alloc]; omega) _).alloc (by simp only [World.size_alloc]; omega) _).alloc (by simp only [World.size_alloc]; omega) _).alloc (by simp only [World.size_alloc]; omega) _
theorem lv_at {w W : World} (h : Below (lvB w).heap.size (lvB w) W) : GrL W (.slice (some ⟨w.heap.size, 0, none⟩) 2 2) (.slice (some ⟨w.heap.size + 1, 0, none⟩) 2 2) (.slice (some ⟨w.heap.size + 3, 0, none⟩) 1 1) lvG := by
  refine lv_lies w W ?_
  have h1 : Below (lvW w).heap.size (lvW w) (lvB w) := Graph.below_alloc _ _
  have h2 := below_then h1 h
  rw [lvW_size] at h2
  exact h2
theorem rows_0124 (W W' : World) (hb : Below (W.heap.size + 1) (W.alloc (.cells #[.int .i64 0, .int .i64 1, .int .i64 2, .int .i64 4] 3)) W') : IntsR W' (.slice (some ⟨W.heap.size, 0, none⟩) 4 4) [0, 1, 2, 4] := by
  have hi : W'.heap[W.heap.size]? = some (.cells #[.int .i64 0, .int .i64 1, .int .i64 2, .int .i64 4] 3) := by
    rw [hb.block _ (by omega)]
    exact World.alloc_heap_new W _
  refine .inr ⟨W.heap.size, 0, 4, rfl, by decide, by decide, (Array.getElem?_eq_some_iff.1 hi).1, fun i hi1 y hy => ?_⟩
  match i, hy with
  | 0, hz => injection hz with hz; subst hz; exact (cell_of_block hi (k := 0) rfl).1
  | 1, hz => injection hz with hz; subst hz; exact (cell_of_block hi (k := 1) rfl).1
  | 2, hz => injection hz with hz; subst hz; exact (cell_of_block hi (k := 2) rfl).1
  | 3, hz => injection hz with hz; subst hz; exact (cell_of_block hi (k := 3) rfl).1
theorem lv_lay {w W : World} (h : Below (lvB w).heap.size (lvB w) W) (hT : TabAt 0 Lib.deBruijn64tab W) (h0 : 0 < W.heap.size) :
    Calls Tryd.prog 23 #[.agg #[.slice (some ⟨w.heap.size, 0, none⟩) 2 2, .int .i64 12, .slice (some ⟨w.heap.size + 1, 0, none⟩) 2 2, .slice (some ⟨w.heap.size + 3, 0, none⟩) 1 1]] W fun e w' =>
      ∃ v, e = .returned (.tuple #[.agg #[.int .i64 4, v, .int .i64 3, .int .i64 5, .int .i64 16], .int .i64 0]) ∧ IntsR w' v [0, 1, 2, 4] ∧ Below W.heap.size W w' := by
  refine (lay_ok lvG _ _ _ W (lv_at h) lv_sm hT h0 lv_fit).mono ?_
  rintro e w' ⟨v, rfl, hv, hb⟩
  have hw : wordsN lvG = 16 := by unfold wordsN; rw [lv_regs]; rfl
  rw [hw]
  refine ⟨v, rfl, ?_, hb⟩
  have := ints_own hv
  rw [lv_regs] at this
  exact this
theorem lv_weight {w W : World} (h : Below (lvB w).heap.size (lvB w) W) (hT : TabAt 0 Lib.deBruijn64tab W) (h0 : 0 < W.heap.size) :
    Calls Tryd.prog 25 #[.agg #[.slice (some ⟨w.heap.size, 0, none⟩) 2 2, .int .i64 12, .slice (some ⟨w.heap.size + 1, 0, none⟩) 2 2, .slice (some ⟨w.heap.size + 3, 0, none⟩) 1 1]] W fun e w' =>
      e = .returned (.tuple #[.int .i64 64, .int .i64 0]) ∧ Below W.heap.size W w' := by
  refine (weight_ok lvG _ _ _ W (lv_at h) lv_sm hT h0 lv_fit).mono ?_
  rintro e w' ⟨rfl, hb⟩
  have hw : wordsN lvG = 16 := by unfold wordsN; rw [lv_regs]; rfl
  rw [hw]
  exact ⟨rfl, hb⟩
set_option maxHeartbeats 4000000 in
set_option maxRecDepth 100000 in
theorem live19_any (w : World) (hT : TabAt 0 Lib.deBruijn64tab w) (h0 : 0 < w.heap.size) : Calls Tryd.prog 27 #[] w (Is (.bool true) w) := by
  have HT := Lib.hid (fun (W : World) (hW : Below w.heap.size w W) => tab_below hT h0 hW)
  have H0 := Lib.hid (fun (W : World) (hW : Below w.heap.size w W) => Nat.lt_of_lt_of_le h0 hW.size)
  have HBB := Lib.hid (lvB_below w)
  have HLY := Lib.hid (fun (W : World) (hW : Below (lvB w).heap.size (lvB w) W) => lv_lay hW (HT.out W (below_then (lvB_below w) hW)) (H0.out W (below_then (lvB_below w) hW)))
  have HWE := Lib.hid (fun (W : World) (hW : Below (lvB w).heap.size (lvB w) W) => lv_weight hW (HT.out W (below_then (lvB_below w) hW)) (H0.out W (below_then (lvB_below w) hW)))
  have HBX : Hid (∀ W, Below (lvB w).heap.size (lvB w) W → W.cell? ⟨w.heap.size + 4, 0, none⟩ = some (.slice (some ⟨w.heap.size, 0, none⟩) 2 2) ∧ W.cell? ⟨w.heap.size + 4, 1, none⟩ = some (.int .i64 12) ∧ W.cell? ⟨w.heap.size + 4, 2, none⟩ = some (.slice (some ⟨w.heap.size + 1, 0, none⟩) 2 2) ∧ W.cell? ⟨w.heap.size + 4, 3, none⟩ = some (.slice (some ⟨w.heap.size + 3, 0, none⟩) 1 1)) := Lib.hid (fun W hW => by
    have h1 : (lvB w).heap[w.heap.size + 4]? = some (.cells #[.slice (some ⟨w.heap.size, 0, none⟩) 2 2, .int .i64 12, .slice (some ⟨w.heap.size + 1, 0, none⟩) 2 2, .slice (some ⟨w.heap.size + 3, 0, none⟩) 1 1] 26 (0, 0)) := by
      rw [← lvW_size w]; exact heap_new _ _
    have h2 := (hW.block _ (Array.getElem?_eq_some_iff.1 h1).1).trans h1
    exact ⟨(cell_of_block h2 (k := 0) rfl).1, (cell_of_block h2 (k := 1) rfl).1, (cell_of_block h2 (k := 2) rfl).1, (cell_of_block h2 (k := 3) rfl).1⟩)
  clear hT h0
  go_enter Tryd.func27, Tryd.ntmps27
  go_upto_region 2 with (fail)
  rw [show (((((w.alloc (.cells #[.int .i64 2, .int .i64 0] 3)).alloc (.cells #[.int .i64 3, .int .i64 0, .int .i64 2, .int .i64 5] 59)).alloc (.cells #[.int .i64 1, .int .i64 1, .int .i64 0, .int .i64 0, .int .i64 0, .int .u32 0, .slice none 0 0, .slice none 0 0, .int .i64 2, .int .i64 11, .int .i64 4, .int .i64 0, .int .i64 0, .int .u32 0, .slice none 0 0, .slice none 0 0] 62)).alloc (.cells #[.slice (some ⟨w.heap.size + 1 + 1, 0, none⟩) 2 2, .int .i64 5, .int .i64 0, .int .i64 (-1), .int .i64 0, .int .u32 0, .int .i64 0, .int .i64 0, .slice none 0 0, .slice none 0 0] 42)).alloc (.cells #[.slice (some ⟨w.heap.size, 0, none⟩) 2 2, .int .i64 12, .slice (some ⟨w.heap.size + 1, 0, none⟩) 2 2, .slice (some ⟨w.heap.size + 1 + 1 + 1, 0, none⟩) 1 1] 26)) = lvB w from rfl]
  simp only [Nat.add_assoc, Nat.reduceAdd]
  have hb0 := Below.refl (lvB w).heap.size (lvB w)
  obtain ⟨y0, y1, y2, y3⟩ := HBX.out _ hb0
  have HB0 := Lib.hid hb0
  generalize lvB w = W0 at HBB HLY HWE HBX HB0 y0 y1 y2 y3 ⊢
  clear hb0
  go_wp2_with (first
    | (go_at_call 23
       refine (HLY.out _ HB0.out).mono ?_
       rintro e w5 ⟨v, rfl, hv, hb5⟩
       obtain ⟨pv, cv, rfl⟩ := hv.form
       have HV := Lib.hid hv
       have HB5 : Hid (Below W0.heap.size W0 (w5.alloc (.cells #[.int .i64 4, .slice pv 4 cv, .int .i64 3, .int .i64 5, .int .i64 16] 51))) := Lib.hid (below_then hb5 (Graph.below_alloc w5 _))
       obtain ⟨z0, z1, z2, z3⟩ := HBX.out w5 hb5
       obtain ⟨t0, t1, t2, t3⟩ := HBX.out _ HB5.out
       clear hb5 hv)
    | (go_at_call 25
       refine (HWE.out _ HB5.out).mono ?_
       rintro e w6 ⟨rfl, hb6⟩
       have HB6 := Lib.hid hb6
       have hx := (hb6.block w5.heap.size (by simp)).trans (heap_new w5 _)
       obtain ⟨u0, _⟩ := cell_of_block hx (k := 0) rfl
       obtain ⟨u1, _⟩ := cell_of_block hx (k := 1) rfl
       obtain ⟨u2, _⟩ := cell_of_block hx (k := 2) rfl
       obtain ⟨u3, _⟩ := cell_of_block hx (k := 3) rfl
       obtain ⟨u4, _⟩ := cell_of_block hx (k := 4) rfl
       have hl6 := (Array.getElem?_eq_some_iff.1 hx).1
       clear hb6 hx)
    | (go_at_call 28
       have hb7 := Graph.below_alloc w6 (.cells #[.int .i64 0, .int .i64 1, .int .i64 2, .int .i64 4] 3)
       refine (laySame_true 4 3 5 16 [0, 1, 2, 4] _ _ _ ((HV.out.below (below_then (Graph.below_alloc w5 _) HB6.out)).below hb7) (rows_0124 w6 _ (Below.refl _ _))).mono ?_
       rintro e w8 ⟨rfl, hb8⟩
       have HB8 : Hid (Below w6.heap.size w6 w8) := Lib.hid (below_then hb7 hb8)
       clear hb7 hb8))
  go_ret
  exact ⟨rfl, below_then HBB.out (below_then HB5.out (below_then HB6.out HB8.out))⟩
end Go.Proofs.YtdmmeeolkonmeaaDoor.Live
namespace Go.Proofs.YtdmmeeolkonmeaaDoor.Live
open Go.RowKit Go.Proofs.YtdmmeeolkonmeaaDoor.Graph Go.Shelf

set_option maxHeartbeats 16000000 in
set_option maxRecDepth 100000 in
theorem frameSmall_any (x : PGr) (vp va vb : Value) (w : World) (h : GrL w vp va vb x) (hs : SmG x) (hT : TabAt 0 Lib.deBruijn64tab w) (h0 : 0 < w.heap.size) :
    Calls Tryd.prog 8 #[grV x vp va vb] w (Is (.bool true) w) := by
  have HAR := Lib.hid h.arrays
  obtain ⟨pp, pc, rfl⟩ := h.params.form
  obtain ⟨ap, ac, rfl⟩ := h.arrays.form
  obtain ⟨bp, bc, rfl⟩ := h.blocks.form
  have HLI := Lib.hid (fun (W : World) (hW : Below w.heap.size w W) => live19_any W (tab_below hT h0 hW) (Nat.lt_of_lt_of_le h0 hW.size))
  have HB1 := Lib.hid (Graph.below_alloc w (.cells #[.slice pp x.params.length pc, .int .i64 x.temps, .slice ap x.arrays.length ac, .slice bp x.blocks.length bc] 26))
  have HX0 : Hid (∀ W : World, Below (w.heap.size + 1) (w.alloc (.cells #[.slice pp x.params.length pc, .int .i64 x.temps, .slice ap x.arrays.length ac, .slice bp x.blocks.length bc] 26)) W → W.cell? ⟨w.heap.size, 0, none⟩ = some (.slice pp x.params.length pc) ∧ W.cell? ⟨w.heap.size, 1, none⟩ = some (.int .i64 x.temps) ∧ W.cell? ⟨w.heap.size, 2, none⟩ = some (.slice ap x.arrays.length ac) ∧ W.cell? ⟨w.heap.size, 3, none⟩ = some (.slice bp x.blocks.length bc)) := Lib.hid (fun W hW => by
    have hb := (hW.block _ (by omega)).trans (heap_new w _)
    exact ⟨(cell_of_block hb (k := 0) rfl).1, (cell_of_block hb (k := 1) rfl).1, (cell_of_block hb (k := 2) rfl).1, (cell_of_block hb (k := 3) rfl).1⟩)
  cases hff : frameFit x with
  | false =>
    have HLY := Lib.hid (fun (W : World) (hW : Below w.heap.size w W) => lay_no x _ _ _ W (h.below hW) hs (tab_below hT h0 hW) (Nat.lt_of_lt_of_le h0 hW.size) hff)
    have HWE := Lib.hid (fun (W : World) (hW : Below w.heap.size w W) => weight_no x _ _ _ W (h.below hW) hs (tab_below hT h0 hW) (Nat.lt_of_lt_of_le h0 hW.size) hff)
    unfold grV at *
    unfold layNo at HLY
    clear h hs hT h0 hff
    go_enter Tryd.func8, Tryd.ntmps8
    go_wp2_with (first
      | (go_at_call 23
         refine (HLY.out _ HB1.out).mono ?_
         rintro e w5 ⟨rfl, hb5⟩
         have HB5 : Hid (Below w.heap.size w (w5.alloc (.cells #[.int .i64 0, .slice none 0 0, .int .i64 0, .int .i64 0, .int .i64 0] 51))) := Lib.hid (below_then HB1.out (below_then hb5 (Graph.below_alloc w5 _)))
         obtain ⟨y0, y1, y2, y3⟩ := HX0.out w5 (by simpa using hb5)
         obtain ⟨z0, z1, z2, z3⟩ := HX0.out _ (by have := below_then hb5 (Graph.below_alloc w5 (.cells #[.int .i64 0, .slice none 0 0, .int .i64 0, .int .i64 0, .int .i64 0] 51)); simpa using this)
         clear hb5)
      | (go_at_call 25
         refine (HWE.out _ HB5.out).mono ?_
         rintro e w6 ⟨rfl, hb6⟩
         have HB6 := Lib.hid (below_then HB5.out hb6)
         clear hb6)
      | (go_at_call 27
         refine (HLI.out _ HB6.out).mono ?_
         rintro e w7 ⟨rfl, hb7⟩
         have HB7 := Lib.hid (below_then HB6.out hb7)
         clear hb7))
    go_ret
    exact ⟨rfl, HB7.out⟩
  | true =>
    have HLY := Lib.hid (fun (W : World) (hW : Below w.heap.size w W) => lay_ok x _ _ _ W (h.below hW) hs (tab_below hT h0 hW) (Nat.lt_of_lt_of_le h0 hW.size) hff)
    have HWE := Lib.hid (fun (W : World) (hW : Below w.heap.size w W) => weight_ok x _ _ _ W (h.below hW) hs (tab_below hT h0 hW) (Nat.lt_of_lt_of_le h0 hW.size) hff)
    have hwr := words_range hff
    have hfd := hff
    unfold frameFit parsFit arrsFit fitsB at hfd
    simp only [Bool.and_eq_true, decide_eq_true_eq] at hfd
    obtain ⟨hf1, hp1, ⟨⟨hl5, hok⟩, hl1⟩, hh1⟩ := hfd
    have hwb := words_bounds hok x.arrays.length (Nat.le_refl _)
    rw [List.take_length] at hwb
    have hr9 : (regsOf x).length ≤ 9 := regQ_len _ _
    have hw1 : argsOf x + localW x.arrays ≤ wordsN x ∧ wordsN x ≤ argsOf x + localW x.arrays + x.temps + 14 := by
      unfold wordsN slotsOf
      omega
    have HOK := Lib.hid hok
    have HARG : Hid (argsOf x = x.params.length + handW x.arrays) := Lib.hid rfl
    obtain ⟨ht0, ht1⟩ : 0 ≤ x.temps ∧ x.temps ≤ 8000 := ⟨hf1.1.2.2.1, hf1.1.2.2.2⟩
    have hp8 := hp1.1
    unfold LayPost at HLY
    unfold grV at *
    have ha0 : 0 ≤ argsOf x := by rw [HARG.out]; omega
    have ha1 : argsOf x ≤ 100 := by rw [HARG.out]; omega
    obtain ⟨m, hm⟩ : ∃ m, m = x.params.length := ⟨_, rfl⟩
    obtain ⟨q, hq⟩ : ∃ q, q = x.arrays.length := ⟨_, rfl⟩
    have HQ := Lib.hid hq
    rw [← hm] at HLY HWE HX0 HB1 HARG hp8 ⊢
    rw [← hq] at HLY HWE HX0 HB1 hl5 ⊢
    generalize wordsN x = W at *
    generalize argsOf x = A at *
    generalize slotsOf x = S at *
    obtain ⟨L, hL⟩ : ∃ L, L = localW x.arrays := ⟨_, rfl⟩
    have HLL := Lib.hid hL
    rw [← hL] at HLY hw1 hl1 hwb
    obtain ⟨wr0, wr1⟩ := hwr
    obtain ⟨wa0, wa1⟩ := hw1
    have L0 : 0 ≤ L := hwb.1
    generalize x.blocks.length = bn at *
    clear h hs hT h0 hff hf1 hp1 hok hh1 hwb hr9 hm hq hL
    have qi : (q : Int) ≤ 500 := by omega
    have m8 : (m : Int) ≤ 8 := by omega
    go_enter Tryd.func8, Tryd.ntmps8
    go_wp2_with (first
      | (go_at_call 23
         refine (HLY.out _ HB1.out).mono ?_
         rintro e w5 ⟨v, rfl, hv, hb5⟩
         obtain ⟨pv, cv, rfl, _⟩ := own_form hv
         have HB5 : Hid (Below w.heap.size w (w5.alloc (.cells #[.int .i64 A, .slice pv (regsOf x).length cv, .int .i64 S, .int .i64 L, .int .i64 W] 51))) := Lib.hid (below_then HB1.out (below_then hb5 (Graph.below_alloc w5 _)))
         have HBB : Hid (Below (w.heap.size + 1) (w.alloc (.cells #[.slice pp m pc, .int .i64 x.temps, .slice ap q ac, .slice bp bn bc] 26)) (w5.alloc (.cells #[.int .i64 A, .slice pv (regsOf x).length cv, .int .i64 S, .int .i64 L, .int .i64 W] 51))) := Lib.hid (by have := below_then hb5 (Graph.below_alloc w5 (.cells #[.int .i64 A, .slice pv (regsOf x).length cv, .int .i64 S, .int .i64 L, .int .i64 W] 51)); simpa using this)
         obtain ⟨y0, y1, y2, y3⟩ := HX0.out w5 (by simpa using hb5)
         obtain ⟨z0, z1, z2, z3⟩ := HX0.out _ HBB.out
         clear hb5 hv)
      | (go_at_call 25
         refine (HWE.out _ HB5.out).mono ?_
         rintro e w6 ⟨rfl, hb6⟩
         have HB6 := Lib.hid (below_then HB5.out hb6)
         have HXL : Hid (w6.heap[w5.heap.size]? = some (.cells #[.int .i64 A, .slice pv (regsOf x).length cv, .int .i64 S, .int .i64 L, .int .i64 W] 51 (0, 0))) := Lib.hid ((hb6.block w5.heap.size (by simp)).trans (heap_new w5 _))
         have HB66 : Hid (Below (w.heap.size + 1) (w.alloc (.cells #[.slice pp m pc, .int .i64 x.temps, .slice ap q ac, .slice bp bn bc] 26)) w6) := Lib.hid (HBB.out.trans (hb6.mono (by have := HBB.out.size; simp at this ⊢; omega)))
         obtain ⟨u0, u1, u2, u3⟩ := HX0.out w6 HB66.out
         clear hb6))
    clear y0 y1 y2 y3 z0 z1 z2 z3
    go_loopw [7, 8, 9] (fun g l i wr => ∃ k : Nat, k ≤ q ∧ i = .int .i64 k ∧ g = .int .i64 (m + handW (x.arrays.take k)) ∧ l = .int .i64 (localW (x.arrays.take k)) ∧ wr = w6) (fun _ _ i _ => q - (intOf i).toNat)
    case atStart => exact ⟨0, Nat.zero_le _, rfl, by simp [handW], by simp [localW], rfl⟩
    case round =>
      obtain ⟨k, hk, rfl, rfl, rfl, rfl⟩ := hrel
      by_cases hkq : k < q
      · obtain ⟨a, ha⟩ : ∃ a, x.arrays[k]? = some a := ⟨_, List.getElem?_eq_getElem (by have := HQ.out; omega)⟩
        obtain ⟨g, o, c', hv, hc0, hc1, hg, hc2, hc3⟩ := arrs_cell (HAR.out.below HB6.out) ha
        rw [← HQ.out] at hv hc2
        injection hv with e1 _ e3
        subst e1 e3
        have ki : (k : Int) < q := by omega
        have k0 : (0 : Int) ≤ k := by omega
        have k2 : (q : Int) ≤ ac := by omega
        have k3 : (ac : Int) ≤ 9223372036854775807 := by omega
        have hb := words_bounds HOK.out k (by have := HQ.out; omega)
        have hab := arr_bounds (List.all_eq_true.1 HOK.out a (List.mem_of_getElem? ha))
        have HLT := Lib.hid (local_take ha)
        have HHT := Lib.hid (hand_take ha)
        generalize localW (x.arrays.take k) = l at *
        generalize handW (x.arrays.take k) = hd at *
        obtain ⟨b1, b2, b3, b4⟩ := hb
        have b5 : l ≤ 500000 := by omega
        have b6 : hd ≤ 1000 := by omega
        clear ha hc2 hc3 b2 b4
        by_cases h2 : a.kind = 2
        · have e2 : (a.kind == 2) = true := by simpa using h2
          have e3 : (a.kind == 3) = false := by rw [h2]; rfl
          have hlo : localOf a = a.n := by unfold localOf; rw [if_pos h2]
          have hho : handOf a = 0 := by unfold handOf; rw [if_pos h2]
          rw [hlo] at hab HLT
          rw [hho] at HHT
          obtain ⟨a1, a2, _, _⟩ := hab
          clear hlo hho h2
          go_wp2
          exact ⟨⟨k + 1, by omega, by go_num, by rw [HHT.out]; congr 1; omega, by rw [HLT.out], (by first | trivial | rfl)⟩, by simp [intOf]; omega⟩
        · have e2 : (a.kind == 2) = false := by simpa using h2
          have hlo : localOf a = 0 := by unfold localOf; rw [if_neg h2]
          rw [hlo] at HLT
          by_cases h3 : a.kind = 3
          · have e3 : (a.kind == 3) = true := by simpa using h3
            have hho : handOf a = 2 := by unfold handOf; rw [if_neg h2, if_pos h3]
            rw [hho] at HHT
            clear hab hlo hho h2 h3
            go_wp2
            exact ⟨⟨k + 1, by omega, by go_num, by rw [HHT.out]; congr 1; omega, by rw [HLT.out]; congr 1; omega, (by first | trivial | rfl)⟩, by simp [intOf]; omega⟩
          · have e3 : (a.kind == 3) = false := by simpa using h3
            have hho : handOf a = 0 := by unfold handOf; rw [if_neg h2, if_neg h3]
            rw [hho] at HHT
            clear hab hlo hho h2 h3
            go_wp2
            exact ⟨⟨k + 1, by omega, by go_num, by rw [HHT.out]; congr 1; omega, by rw [HLT.out]; congr 1; omega, (by first | trivial | rfl)⟩, by simp [intOf]; omega⟩
      · have hkq2 : k = q := by omega
        have ki : ¬ ((k : Int) < q) := by omega
        have HE : Hid (x.arrays.take k = x.arrays) := Lib.hid (by rw [hkq2, HQ.out, List.take_length])
        rw [HE.out, ← HARG.out, ← HLL.out]
        have HLQ := Lib.hid (HLI.out wr HB6.out)
        have HCL : Hid (∀ W', Below wr.heap.size wr W' → W'.cell? ⟨w5.heap.size, 0, none⟩ = some (.int .i64 A) ∧ W'.cell? ⟨w5.heap.size, 3, none⟩ = some (.int .i64 L) ∧ W'.cell? ⟨w5.heap.size, 4, none⟩ = some (.int .i64 W) ∧ W'.cell? ⟨w.heap.size, 1, none⟩ = some (.int .i64 x.temps)) := Lib.hid (fun W' hW => by
          have h1 := (hW.block _ (Array.getElem?_eq_some_iff.1 HXL.out).1).trans HXL.out
          exact ⟨(cell_of_block h1 (k := 0) rfl).1, (cell_of_block h1 (k := 3) rfl).1, (cell_of_block h1 (k := 4) rfl).1, (cell_below hW (World.block_lt_of_cell? wr _ u1) _).trans u1⟩)
        have f1 : (A : Int) + L ≤ 2000 := by omega
        have f2 : 4 * (A + L) ≤ 4 * W := by omega
        have f3 : 4 * W ≤ 4 * (A + L + x.temps + 14) := by omega
        go_wp2_with (
          go_at_call 27
          refine HLQ.out.mono ?_
          rintro e w7 ⟨rfl, hb7⟩
          have HB7 := Lib.hid hb7
          obtain ⟨l0, l3, l4, t1⟩ := HCL.out w7 hb7
          clear hb7)
        go_ret
        exact ⟨rfl, below_then HB6.out HB7.out⟩
end Go.Proofs.YtdmmeeolkonmeaaDoor.Live
