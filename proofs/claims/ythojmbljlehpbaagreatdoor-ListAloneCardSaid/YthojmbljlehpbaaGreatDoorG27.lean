/- Which line has just these words: the walk. No condition but sizes. -/
import Derived.Test.YthojmbljlehpbaaGreatDoorG26
import Derived.Deep.RegionHeld3
namespace Go.Proofs.YthojmbljlehpbaaGreatDoor.Lists
open Go.RowKit Go.Proofs.YthojmbljlehpbaaGreatDoor.Relax Go.Proofs.YthojmbljlehpbaaGreatDoor.Graph
open Go.Lib hiding intOf
open Go.Proofs.YthojmbljlehpbaaGreatDoor.Enc hiding below_one bt ret_bool

def LineOfPost (ws : List (Option Wd)) (w : World) (e : Ending) (w' : World) : Prop :=
  ∃ lp lc, e = .returned (.tuple #[lineV (fillP ws) lp (fillP ws).list.length lc, .bool (lineP ws).isSome]) ∧ w'.ownsRow w.heap.size 3 1 (.slice lp (fillP ws).list.length lc) (fillP ws).list.length ((fillP ws).list.map fun x => Value.int .i64 x) ∧ Below w.heap.size w w'
theorem own_sl {w : World} {B n : Nat} {e : TypeId} {v : Value} {xs : List Value} (h : w.ownsRow B e 1 v n xs) : ∃ p c, v = .slice p n c := by
  obtain ⟨_, ⟨rfl, rfl⟩ | ⟨g, cap, cur, rfl, _⟩⟩ := h
  · exact ⟨_, _, rfl⟩
  · exact ⟨_, _, rfl⟩
set_option maxHeartbeats 16000000 in
set_option maxRecDepth 100000 in
theorem lineOf_any (ws : List (Option Wd)) (p : Option Addr) (c : Nat) (w : World) (hL : LaidL w) (hW : WdsR w (.slice p ws.length c) ws) (hn : ws.length ≤ 403) :
    Calls Tryz.prog 122 #[.slice p ws.length c] w (LineOfPost ws w) := by
  have HW := Lib.hid hW
  have h8 := hL.pos
  have HLL := Lib.hid (fun (W : World) (hW : Below w.heap.size w W) => hL.below hW)
  have HFL := Lib.hid (fun (k : Nat) => fold_regs (ws.take k) ⟨noL, 0⟩)
  have HFN := Lib.hid (fill_n ws)
  obtain ⟨n, hnn⟩ : ∃ n, n = ws.length := ⟨_, rfl⟩
  have HN := Lib.hid hnn
  rw [← hnn] at hn ⊢
  have n0 : (0 : Int) ≤ n := by omega
  have n9 : (n : Int) ≤ 403 := by omega
  obtain ⟨wm, hwm⟩ : ∃ wm, wm = (w.alloc (.cells #[.int .i64 0, .int .i64 0, .int .i64 0, .int .i64 0, .int .u32 0, .int .i64 0, .slice none 0 0] 52)).alloc (.cells (flCs ⟨noL, 0⟩ (.slice none 0 0)) 170) := ⟨_, rfl⟩
  have HB0 : Hid (Below w.heap.size w wm) := Lib.hid (by rw [hwm]; exact (below_one w _).alloc (below_one w _).size _)
  have HZ0 : Hid (wm.heap[w.heap.size]? = some (.cells #[.int .i64 0, .int .i64 0, .int .i64 0, .int .i64 0, .int .u32 0, .int .i64 0, .slice none 0 0] 52 (0, 0))) := Lib.hid (by rw [hwm, Below.heap_alloc _ _ _ (by simp)]; exact heap_alloc_new w _)
  have HF0 : Hid (FlR (w.heap.size + 1) (w.heap.size + 1) wm ((ws.take 0).foldl putW ⟨noL, 0⟩) (.slice none 0 0)) := Lib.hid (by
    rw [List.take_zero]
    refine ⟨?_, World.ownsRow_nil _ _ _ _, Nat.le_refl _⟩
    rw [hwm]; have := heap_alloc_new (w.alloc (.cells #[.int .i64 0, .int .i64 0, .int .i64 0, .int .i64 0, .int .u32 0, .int .i64 0, .slice none 0 0] 52)) (.cells (flCs ⟨noL, 0⟩ (.slice none 0 0)) 170); simpa using this)
  have HSZ : Hid (wm.heap.size = w.heap.size + 2) := Lib.hid (by rw [hwm]; simp)
  unfold flCs noL at hwm
  clear hW hL hn hnn
  go_enter Tryz.func122, Tryz.ntmps122
  go_upto_region 2 with (fail)
  rw [show (((0 : Nat) : Int)) = 0 from rfl] at hwm
  rw [← hwm]
  clear hwm
  go_wp2
  go_loopw [9] (fun i wr => ∃ (k : Nat) (vl : Value), k ≤ n ∧ i = .int .i64 k ∧ Hid (FlR (w.heap.size + 1) (w.heap.size + 1) wr ((ws.take k).foldl putW ⟨noL, 0⟩) vl) ∧ Hid (Below (w.heap.size + 1) wm wr)) (fun i _ => n - (intOf i).toNat)
  case atStart => exact ⟨0, _, Nat.zero_le _, rfl, HF0, Lib.hid (Below.refl _ _)⟩
  case round =>
    obtain ⟨k, vl, hk, rfl, HF, HB⟩ := hrel
    have k0 : (0 : Int) ≤ k := by omega
    have HBW : Hid (Below w.heap.size w wr) := Lib.hid (HB0.out.trans (HB.out.mono (Nat.le_succ _)))
    by_cases hkn : k < n
    · obtain ⟨b1, o1, x, rfl, hx, hb1, hc1, hq1, hr1⟩ := wds_pt (show WdsR wr (.slice p ws.length c) ws from HW.out.below HBW.out) (k := k) (by have := HN.out; omega)
      have k1 : (k : Int) < n := by omega
      have j1 : (n : Int) ≤ c := by have := HN.out; omega
      have j3 : (c : Int) ≤ 9223372036854775807 := by omega
      have hfl := HFL.out k
      rw [List.length_take] at hfl
      have HP := Lib.hid (put_any _ _ _ vl wr HF.out x (by have h1 : ((ws.take k).foldl putW ⟨noL, 0⟩).regs ≤ 0 + min k ws.length := hfl.1; omega) (by have h1 : ((ws.take k).foldl putW ⟨noL, 0⟩).line.list.length ≤ 0 + min k ws.length := hfl.2; omega))
      unfold PutPost at HP
      have HTK := Lib.hid (show (ws.take (k + 1)).foldl putW ⟨noL, 0⟩ = putW ((ws.take k).foldl putW ⟨noL, 0⟩) x by rw [List.take_add_one, hx]; simp)
      have HKN := Lib.hid hkn
      generalize wdV x = vx at hc1 HP
      clear hx hq1 hr1 hkn hk hfl
      go_wp2_with (
        go_at_call 138
        refine HP.out.mono ?_
        rintro e w5 ⟨rfl, vl5, hf5, hb5⟩
        have HF5 := Lib.hid hf5
        have HB5 := Lib.hid (HB.out.trans hb5)
        clear hf5 hb5)
      exact ⟨⟨k + 1, vl5, HKN.out, by go_num, Lib.hid (by rw [HTK.out]; exact HF5.out), HB5⟩, by have := HKN.out; simp [intOf]; omega⟩
    · obtain rfl : n = k := by omega
      have HTE : Hid (ws.take n = ws) := Lib.hid (List.take_of_length_le (by have := HN.out; omega))
      obtain ⟨F, hF⟩ : ∃ F, F = ws.foldl putW ⟨noL, 0⟩ := ⟨_, rfl⟩
      have hff := HF.out
      rw [HTE.out, ← hF] at hff
      have hfl := HFL.out n
      rw [HTE.out, ← hF] at hfl
      obtain ⟨x, hx⟩ : ∃ x, x = F.line := ⟨_, rfl⟩
      have hfx : fillP ws = x := by rw [hx, hF]; rfl
      have HFX := Lib.hid hfx
      have hrow := hff.row
      obtain ⟨lp, lc, rfl⟩ := own_sl hrow
      obtain ⟨⟨y0, y1, y2, y3, y4, y5, y6, y7⟩, fz⟩ := hff.cells
      have hlt := hff.lt
      rw [← hx] at hrow y0 y1 y2 y3 y4 y5 y6 hfl
      obtain ⟨m, hm⟩ : ∃ m, m = x.list.length := ⟨_, rfl⟩
      have HM := Lib.hid hm
      have hm4 : m ≤ 403 := by have h1 : x.list.length ≤ 0 + ws.length := hfl.2; have h2 := HN.out; omega
      rw [← hm] at y6
      have HRW : Hid (wr.ownsRow (w.heap.size + 1) 3 1 (.slice lp m lc) m (x.list.map fun x => Value.int .i64 x)) := Lib.hid (by rw [hm]; exact hrow)
      have HXN : Hid (0 ≤ x.n ∧ x.n < 4294967296) := Lib.hid (by rw [← hfx]; exact HFN.out)
      have hS : St7 wr w.heap.size #[.int .i64 0, .int .i64 0, .int .i64 0, .int .i64 0, .int .u32 0, .int .i64 0, .slice none 0 0] wr := St7.refl ((HB.out.block w.heap.size (Nat.lt_succ_self _)).trans HZ0.out)
      have HS := Lib.hid hS
      have hrbl := hS.lt
      have hfz := hS.free
      have z0 := hS.cells (k := 0) rfl
      have z1 := hS.cells (k := 1) rfl
      have z2 := hS.cells (k := 2) rfl
      have z3 := hS.cells (k := 3) rfl
      have z4 := hS.cells (k := 4) rfl
      have z5 := hS.cells (k := 5) rfl
      have z6 := hS.cells (k := 6) rfl
      have HY : Hid (∀ cs W, St7 wr w.heap.size cs W → W.cell? ⟨w.heap.size + 1, 0, none⟩ = some (.int .i64 x.op) ∧ W.cell? ⟨w.heap.size + 1, 1, none⟩ = some (.int .i64 x.a) ∧ W.cell? ⟨w.heap.size + 1, 2, none⟩ = some (.int .i64 x.b) ∧ W.cell? ⟨w.heap.size + 1, 3, none⟩ = some (.int .i64 x.imm) ∧ W.cell? ⟨w.heap.size + 1, 4, none⟩ = some (.int .u32 x.n) ∧ W.cell? ⟨w.heap.size + 1, 5, none⟩ = some (.int .i64 x.label) ∧ W.cell? ⟨w.heap.size + 1, 6, none⟩ = some (.slice lp m lc)) := Lib.hid (fun cs W h => by
        have hb := h.other hlt (by omega)
        have hk : ∀ k, W.cell? ⟨w.heap.size + 1, k, none⟩ = wr.cell? ⟨w.heap.size + 1, k, none⟩ := fun k => World.cell?_of_block hb
        exact ⟨(hk 0).trans y0, (hk 1).trans y1, (hk 2).trans y2, (hk 3).trans y3, (hk 4).trans y4, (hk 5).trans y5, (hk 6).trans y6⟩)
      have HLW := Lib.hid (HLL.out wr HBW.out)
      have HIN := Lib.hid (fun cs W (h : St7 wr w.heap.size cs W) => (show IntsR W (.slice lp x.list.length lc) x.list from by
        have := own_st h HRW.out (Nat.lt_succ_self _)
        rw [HM.out] at this
        exact ints_own this))
      have HMB := Lib.hid (fun cs W (h : St7 wr w.heap.size cs W) => (mayBe_any x lp lc W (h.laid HLW.out h8 hrbl).forms (HIN.out cs W h) (by have := HM.out; omega)).mono fun e w' ⟨h1, h2⟩ => (show e = Ending.returned (.bool (mayB x)) ∧ St7 wr w.heap.size cs w' from ⟨h1, h.below h2⟩))
      have HWO := Lib.hid (fun (hmy : mayB x = true) cs W (h : St7 wr w.heap.size cs W) => (wordsOf_any x lp lc W (h.laid HLW.out h8 hrbl).forms hmy HXN.out (HIN.out cs W h)).mono fun e w' ⟨g, c, h1, h2, h3, h4, h5⟩ => (show ∃ g c, e = Ending.returned (.slice (some ⟨g, 0, none⟩) (wordsL x).length c) ∧ w'.ownsRow (w.heap.size + 1) 20 1 (.slice (some ⟨g, 0, none⟩) (wordsL x).length c) (wordsL x).length (((wordsL x).map some).map wdV) ∧ St7 wr w.heap.size cs w' from ⟨g, c, h1, own_mono h4 (by have := h.lt; omega), h.below h5⟩))
      have HEQ := Lib.hid (fun (hl : (wordsL x).length ≤ 1000000) cs W (h : St7 wr w.heap.size cs W) g c2 (ho : W.ownsRow (w.heap.size + 1) 20 1 (.slice (some ⟨g, 0, none⟩) (wordsL x).length c2) (wordsL x).length (((wordsL x).map some).map wdV)) => (show Calls Tryz.prog 139 #[.slice (some ⟨g, 0, none⟩) (wordsL x).length c2, .slice p n c] W fun e w' => e = Ending.returned (.bool (decide ((wordsL x).map some = ws))) ∧ St7 wr w.heap.size cs w' from by
        have := equal_any (some ⟨g, 0, none⟩) p c2 c ((wordsL x).map some) ws W (wds_own (by rw [List.length_map]; exact ho) |> fun h => by rw [List.length_map]; exact h) (wds_st h HW.out HBW.out (Nat.le_refl _)) (by rw [List.length_map]; exact hl) (by have := HN.out; omega)
        rw [List.length_map, ← HN.out] at this
        exact this.mono fun e w' ⟨h1, h2⟩ => ⟨h1, h.below h2⟩))
      have HPO : Hid (∀ cs W, St7 wr w.heap.size cs W → W.ownsRow w.heap.size 3 1 (.slice lp m lc) m (x.list.map fun x => Value.int .i64 x) ∧ Below w.heap.size w W) := Lib.hid (fun cs W h => ⟨own_mono (own_st h HRW.out (Nat.lt_succ_self _)) (Nat.le_succ _), HBW.out.trans ⟨h.g.os, h.g.tape, h.g.output, h.g.size, fun k hk => h.other (Nat.lt_of_lt_of_le hk HBW.out.size) (by omega)⟩⟩)
      unfold lineV at HMB HWO
      rw [← hm] at HMB HWO
      have m0 : (0 : Int) ≤ m := by omega
      have hne : w.heap.size ≠ w.heap.size + 1 := by omega
      obtain ⟨my, hmy⟩ : ∃ my, my = mayB x := ⟨_, rfl⟩
      have HMY := Lib.hid hmy
      rw [← hmy] at HMB
      have HLP : Hid ((lineP ws).isSome = (my && decide ((wordsL x).map some = ws))) := Lib.hid (by
        unfold lineP
        rw [hfx, hmy]
        split
        · rename_i h; rw [h]; rfl
        · rename_i h; simp only [Bool.not_eq_true] at h; rw [h]; rfl)
      clear hff hfl hx hF hfx hrow hS fz hm hmy hkn hk
      have fz0 := hfz 0
      have fz1 := hfz 1
      have fz2 := hfz 2
      have fz3 := hfz 3
      have fz4 := hfz 4
      have fz5 := hfz 5
      have fz6 := hfz 6
      clear hfz
      go_upto_region 7 with (fail)
      rcases (show my = false ∨ my = true by cases my <;> simp) with rfl | rfl
      · refine wp_region_held_drew (S := (fun W => W.cell? ⟨w.heap.size + 1, 0, none⟩ = some (.int .i64 x.op) ∧ W.cell? ⟨w.heap.size + 1, 1, none⟩ = some (.int .i64 x.a) ∧ W.cell? ⟨w.heap.size + 1, 2, none⟩ = some (.int .i64 x.b) ∧ W.cell? ⟨w.heap.size + 1, 3, none⟩ = some (.int .i64 x.imm) ∧ W.cell? ⟨w.heap.size + 1, 4, none⟩ = some (.int .u32 x.n) ∧ W.cell? ⟨w.heap.size + 1, 5, none⟩ = some (.int .i64 x.label) ∧ W.cell? ⟨w.heap.size + 1, 6, none⟩ = some (.slice lp m lc))) (by kernel_rfl) (HY.out _ _ HS.out.drew) (fun hHeld => ?_)
        refine wpAnyH_take (i := 0) (v := .pointer (some ⟨w.heap.size + 1, 0, none⟩)) rfl (by kernel_rfl) (by kernel_rfl) (by kernel_rfl) (fun _ _ _ h => h) (Or.inl ⟨by kernel_rfl, fun w hSw => by (try dsimp only at hSw); (first | (go_simp; done) | (go_simp; with_reducible rfl))⟩) (by assumption) ?_
        refine wpAnyH_take (i := 2) (v := .pointer (some ⟨w.heap.size + 1, 0, none⟩)) rfl (by kernel_rfl) (by kernel_rfl) (by kernel_rfl) (fun _ _ _ h => h) (Or.inl ⟨by kernel_rfl, fun w hSw => by (try dsimp only at hSw); (first | (go_simp; done) | (go_simp; with_reducible rfl))⟩) (by assumption) ?_
        refine wpAnyH_take (i := 1) (v := .agg #[.int .i64 x.op, .int .i64 x.a, .int .i64 x.b, .int .i64 x.imm, .int .u32 x.n, .int .i64 x.label, .slice lp m lc]) rfl (by kernel_rfl) (by kernel_rfl) (by kernel_rfl) (fun _ _ _ h => h) (Or.inl ⟨by kernel_rfl, fun w hSw => by (try dsimp only at hSw); (first | (go_simp; done) | (go_simp; with_reducible rfl))⟩) (by assumption) ?_
        refine wpAnyH_take (i := 3) (v := .agg #[.int .i64 x.op, .int .i64 x.a, .int .i64 x.b, .int .i64 x.imm, .int .u32 x.n, .int .i64 x.label, .slice lp m lc]) rfl (by kernel_rfl) (by kernel_rfl) (by kernel_rfl) (fun _ _ _ h => h) (Or.inl ⟨by kernel_rfl, fun w hSw => by (try dsimp only at hSw); (first | (go_simp; done) | (go_simp; with_reducible rfl))⟩) (by assumption) ?_
        refine wpAnyH_ready (rs := [4]) (by kernel_rfl) (by simp) ?_
        refine AllReadyH.cons rfl (fun K hK => ?_) AllReadyH.nil
        rw [if_pos (by kernel_rfl)]
        go_simp
        refine (HMB.out #[.int .i64 0, .int .i64 0, .int .i64 0, .int .i64 0, .int .u32 0, .int .i64 0, .slice none 0 0] _ (HS.out.drew)).mono ?_
        rintro e w6 ⟨rfl, hs6⟩
        have HS6 := Lib.hid hs6
        refine hK.out _ _ (HY.out _ _ hs6) (fun hHeld => ?_)
        have z0 := hs6.cells (k := 0) rfl
        have z1 := hs6.cells (k := 1) rfl
        have z2 := hs6.cells (k := 2) rfl
        have z3 := hs6.cells (k := 3) rfl
        have z4 := hs6.cells (k := 4) rfl
        have z5 := hs6.cells (k := 5) rfl
        have z6 := hs6.cells (k := 6) rfl
        have fz0 := hs6.free 0
        have fz1 := hs6.free 1
        have fz2 := hs6.free 2
        have fz3 := hs6.free 3
        have fz4 := hs6.free 4
        have fz5 := hs6.free 5
        have fz6 := hs6.free 6
        have hrbl := hs6.lt
        clear hs6
        refine wpAnyH_take (i := 5) (v := .bool false) rfl (by kernel_rfl) (by kernel_rfl) (by kernel_rfl) (fun _ _ _ h => h) (Or.inl ⟨by kernel_rfl, fun w hSw => by (try dsimp only at hSw); (first | (go_simp; done) | (go_simp; with_reducible rfl))⟩) (by assumption) ?_
        refine wpAnyH_take (i := 6) (v := undef) rfl (by kernel_rfl) (by kernel_rfl) (by kernel_rfl) (fun _ _ _ h => h) (Or.inr ⟨by kernel_rfl, rfl⟩) (by assumption) ?_
        refine wpAnyH_take (i := 7) (v := undef) rfl (by kernel_rfl) (by kernel_rfl) (by kernel_rfl) (fun _ _ _ h => h) (Or.inr ⟨by kernel_rfl, rfl⟩) (by assumption) ?_
        refine wpAnyH_take (i := 8) (v := undef) rfl (by kernel_rfl) (by kernel_rfl) (by kernel_rfl) (fun _ _ _ h => h) (Or.inr ⟨by kernel_rfl, rfl⟩) (by assumption) ?_
        refine wpAnyH_take (i := 9) (v := undef) rfl (by kernel_rfl) (by kernel_rfl) (by kernel_rfl) (fun _ _ _ h => h) (Or.inr ⟨by kernel_rfl, rfl⟩) (by assumption) ?_
        refine wpAnyH_take (i := 10) (v := undef) rfl (by kernel_rfl) (by kernel_rfl) (by kernel_rfl) (fun _ _ _ h => h) (Or.inr ⟨by kernel_rfl, rfl⟩) (by assumption) ?_
        refine wpAnyH_take (i := 11) (v := .bool false) rfl (by kernel_rfl) (by kernel_rfl) (by kernel_rfl) (fun _ _ _ h => h) (Or.inl ⟨by kernel_rfl, fun w hSw => by (try dsimp only at hSw); (first | (go_simp; done) | (go_simp; with_reducible rfl))⟩) (by assumption) ?_
        refine wpAnyH_ready (rs := [12]) (by kernel_rfl) (by simp) ?_
        refine AllReadyH.cons rfl (fun K hK => ?_) AllReadyH.nil
        rw [if_pos (by kernel_rfl)]
        go_simp
        have hT0 := (HS6.out).store7 (.int .i64 x.op) (.int .i64 x.a) (.int .i64 x.b) (.int .i64 x.imm) (.int .u32 x.n) (.int .i64 x.label) (.slice lp m lc)
        refine hK.out _ _ (HY.out _ _ hT0) (fun hHeld => ?_)
        have HT := Lib.hid hT0
        clear hT0
        refine wpAnyH_take (i := 13) (v := .bool false) rfl (by kernel_rfl) (by kernel_rfl) (by kernel_rfl) (fun _ _ _ h => h) (Or.inl ⟨by kernel_rfl, fun w hSw => by (try dsimp only at hSw); (first | (go_simp; done) | (go_simp; with_reducible rfl))⟩) (by assumption) ?_
        refine wpAnyH_done (by kernel_rfl) ?_ _
        go_simp
        go_wp2
        have hT := HT.out
        have p0 := hT.cells (k := 0) rfl
        have p1 := hT.cells (k := 1) rfl
        have p2 := hT.cells (k := 2) rfl
        have p3 := hT.cells (k := 3) rfl
        have p4 := hT.cells (k := 4) rfl
        have p5 := hT.cells (k := 5) rfl
        have p6 := hT.cells (k := 6) rfl
        refine bodyPost_ret (v := .tuple #[.agg #[.int .i64 x.op, .int .i64 x.a, .int .i64 x.b, .int .i64 x.imm, .int .u32 x.n, .int .i64 x.label, .slice lp m lc], .bool false]) ?_ rfl ?_
        · simp [results, Tryz.results122, go_sem, p0, p1, p2, p3, p4, p5, p6]
        · unfold LineOfPost lineV
          rw [HFX.out, HLP.out, ← HM.out]
          exact ⟨lp, lc, rfl, (HPO.out _ _ hT).1, (HPO.out _ _ hT).2⟩
      · have HWX := Lib.hid (fun cs W h => HWO.out HMY.out.symm cs W h)
        obtain ⟨wl, hwl⟩ : ∃ wl, wl = wordsL x := ⟨_, rfl⟩
        have hwn := words_ok (show fineL x from ⟨HMY.out.symm, HXN.out⟩)
        have HEX := Lib.hid (fun cs W h g c2 ho => HEQ.out (by have := hwn.2.2; omega) cs W h g c2 ho)
        rw [← hwl] at HWX HEX HLP
        obtain ⟨q, hq⟩ : ∃ q, q = decide (wl.map some = ws) := ⟨_, rfl⟩
        rw [← hq] at HEX HLP
        clear hwl hwn hq HWO HEQ
        go_region_held3 (fun W => W.cell? ⟨w.heap.size + 1, 0, none⟩ = some (.int .i64 x.op) ∧ W.cell? ⟨w.heap.size + 1, 1, none⟩ = some (.int .i64 x.a) ∧ W.cell? ⟨w.heap.size + 1, 2, none⟩ = some (.int .i64 x.b) ∧ W.cell? ⟨w.heap.size + 1, 3, none⟩ = some (.int .i64 x.imm) ∧ W.cell? ⟨w.heap.size + 1, 4, none⟩ = some (.int .u32 x.n) ∧ W.cell? ⟨w.heap.size + 1, 5, none⟩ = some (.int .i64 x.label) ∧ W.cell? ⟨w.heap.size + 1, 6, none⟩ = some (.slice lp m lc)) (go_keep) (first
        | (go_at_call 27
           with_reducible refine (HMB.out #[.int .i64 0, .int .i64 0, .int .i64 0, .int .i64 0, .int .u32 0, .int .i64 0, .slice none 0 0] _ ?hs).mono ?_
           case hs => (repeat (first | with_reducible exact HS.out | with_reducible refine St7.drew ?_))
           rintro e w6 ⟨rfl, hs6⟩
           have HS := Lib.hid hs6
           have hrbl := hs6.lt
           obtain ⟨y0, y1, y2, y3, y4, y5, y6⟩ := HY.out _ _ hs6
           have z0 := hs6.cells (k := 0) rfl
           have z1 := hs6.cells (k := 1) rfl
           have z2 := hs6.cells (k := 2) rfl
           have z3 := hs6.cells (k := 3) rfl
           have z4 := hs6.cells (k := 4) rfl
           have z5 := hs6.cells (k := 5) rfl
           have z6 := hs6.cells (k := 6) rfl
           have fz0 := hs6.free 0
           have fz1 := hs6.free 1
           have fz2 := hs6.free 2
           have fz3 := hs6.free 3
           have fz4 := hs6.free 4
           have fz5 := hs6.free 5
           have fz6 := hs6.free 6
           clear hs6)
        | (go_at_call 27
           with_reducible refine (HMB.out #[.int .i64 x.op, .int .i64 x.a, .int .i64 x.b, .int .i64 x.imm, .int .u32 x.n, .int .i64 x.label, .slice lp m lc] _ ?hs).mono ?_
           case hs => (first | with_reducible exact HT.out | (with_reducible refine St7.drew ?_; with_reducible exact HT.out) | (with_reducible refine St7.store7 ?_ _ _ _ _ _ _ _; repeat (first | with_reducible exact HS.out | with_reducible refine St7.drew ?_)))
           rintro e w6 ⟨rfl, hs6⟩
           have HT := Lib.hid hs6
           have hrbl := hs6.lt
           obtain ⟨y0, y1, y2, y3, y4, y5, y6⟩ := HY.out _ _ hs6
           have z0 := hs6.cells (k := 0) rfl
           have z1 := hs6.cells (k := 1) rfl
           have z2 := hs6.cells (k := 2) rfl
           have z3 := hs6.cells (k := 3) rfl
           have z4 := hs6.cells (k := 4) rfl
           have z5 := hs6.cells (k := 5) rfl
           have z6 := hs6.cells (k := 6) rfl
           have fz0 := hs6.free 0
           have fz1 := hs6.free 1
           have fz2 := hs6.free 2
           have fz3 := hs6.free 3
           have fz4 := hs6.free 4
           have fz5 := hs6.free 5
           have fz6 := hs6.free 6
           clear hs6)
        | (go_at_call 29
           with_reducible refine (HWX.out #[.int .i64 0, .int .i64 0, .int .i64 0, .int .i64 0, .int .u32 0, .int .i64 0, .slice none 0 0] _ ?hs).mono ?_
           case hs => (repeat (first | with_reducible exact HS.out | with_reducible refine St7.drew ?_))
           rintro e w6 ⟨g6, c6, rfl, ho6, hs6⟩
           have HS := Lib.hid hs6
           have hrbl := hs6.lt
           obtain ⟨y0, y1, y2, y3, y4, y5, y6⟩ := HY.out _ _ hs6
           have z0 := hs6.cells (k := 0) rfl
           have z1 := hs6.cells (k := 1) rfl
           have z2 := hs6.cells (k := 2) rfl
           have z3 := hs6.cells (k := 3) rfl
           have z4 := hs6.cells (k := 4) rfl
           have z5 := hs6.cells (k := 5) rfl
           have z6 := hs6.cells (k := 6) rfl
           have fz0 := hs6.free 0
           have fz1 := hs6.free 1
           have fz2 := hs6.free 2
           have fz3 := hs6.free 3
           have fz4 := hs6.free 4
           have fz5 := hs6.free 5
           have fz6 := hs6.free 6
           have HO6 := Lib.hid ho6
           clear ho6
           clear hs6)
        | (go_at_call 29
           with_reducible refine (HWX.out #[.int .i64 x.op, .int .i64 x.a, .int .i64 x.b, .int .i64 x.imm, .int .u32 x.n, .int .i64 x.label, .slice lp m lc] _ ?hs).mono ?_
           case hs => (first | with_reducible exact HT.out | (with_reducible refine St7.drew ?_; with_reducible exact HT.out) | (with_reducible refine St7.store7 ?_ _ _ _ _ _ _ _; repeat (first | with_reducible exact HS.out | with_reducible refine St7.drew ?_)))
           rintro e w6 ⟨g6, c6, rfl, ho6, hs6⟩
           have HT := Lib.hid hs6
           have hrbl := hs6.lt
           obtain ⟨y0, y1, y2, y3, y4, y5, y6⟩ := HY.out _ _ hs6
           have z0 := hs6.cells (k := 0) rfl
           have z1 := hs6.cells (k := 1) rfl
           have z2 := hs6.cells (k := 2) rfl
           have z3 := hs6.cells (k := 3) rfl
           have z4 := hs6.cells (k := 4) rfl
           have z5 := hs6.cells (k := 5) rfl
           have z6 := hs6.cells (k := 6) rfl
           have fz0 := hs6.free 0
           have fz1 := hs6.free 1
           have fz2 := hs6.free 2
           have fz3 := hs6.free 3
           have fz4 := hs6.free 4
           have fz5 := hs6.free 5
           have fz6 := hs6.free 6
           have HO6 := Lib.hid ho6
           clear ho6
           clear hs6)
        | (go_at_call 139
           with_reducible refine (HEX.out #[.int .i64 0, .int .i64 0, .int .i64 0, .int .i64 0, .int .u32 0, .int .i64 0, .slice none 0 0] _ ?hs _ _ ?ow).mono ?_
           case hs => (repeat (first | with_reducible exact HS.out | with_reducible refine St7.drew ?_))
           case ow => (repeat (first | with_reducible exact HO6.out | with_reducible refine own_set ?_ (Nat.lt_succ_self _)))
           rintro e w6 ⟨rfl, hs6⟩
           have HS := Lib.hid hs6
           have hrbl := hs6.lt
           obtain ⟨y0, y1, y2, y3, y4, y5, y6⟩ := HY.out _ _ hs6
           have z0 := hs6.cells (k := 0) rfl
           have z1 := hs6.cells (k := 1) rfl
           have z2 := hs6.cells (k := 2) rfl
           have z3 := hs6.cells (k := 3) rfl
           have z4 := hs6.cells (k := 4) rfl
           have z5 := hs6.cells (k := 5) rfl
           have z6 := hs6.cells (k := 6) rfl
           have fz0 := hs6.free 0
           have fz1 := hs6.free 1
           have fz2 := hs6.free 2
           have fz3 := hs6.free 3
           have fz4 := hs6.free 4
           have fz5 := hs6.free 5
           have fz6 := hs6.free 6
           clear hs6)
        | (go_at_call 139
           with_reducible refine (HEX.out #[.int .i64 x.op, .int .i64 x.a, .int .i64 x.b, .int .i64 x.imm, .int .u32 x.n, .int .i64 x.label, .slice lp m lc] _ ?hs _ _ ?ow).mono ?_
           case hs => (first | with_reducible exact HT.out | (with_reducible refine St7.drew ?_; with_reducible exact HT.out) | (with_reducible refine St7.store7 ?_ _ _ _ _ _ _ _; repeat (first | with_reducible exact HS.out | with_reducible refine St7.drew ?_)))
           case ow => (repeat (first | with_reducible exact HO6.out | with_reducible refine own_set ?_ (Nat.lt_succ_self _)))
           rintro e w6 ⟨rfl, hs6⟩
           have HT := Lib.hid hs6
           have hrbl := hs6.lt
           obtain ⟨y0, y1, y2, y3, y4, y5, y6⟩ := HY.out _ _ hs6
           have z0 := hs6.cells (k := 0) rfl
           have z1 := hs6.cells (k := 1) rfl
           have z2 := hs6.cells (k := 2) rfl
           have z3 := hs6.cells (k := 3) rfl
           have z4 := hs6.cells (k := 4) rfl
           have z5 := hs6.cells (k := 5) rfl
           have z6 := hs6.cells (k := 6) rfl
           have fz0 := hs6.free 0
           have fz1 := hs6.free 1
           have fz2 := hs6.free 2
           have fz3 := hs6.free 3
           have fz4 := hs6.free 4
           have fz5 := hs6.free 5
           have fz6 := hs6.free 6
           clear hs6))
        all_goals
          go_wp2
          first
            | (have hT := HT.out
               have p0 := hT.cells (k := 0) rfl
               have p1 := hT.cells (k := 1) rfl
               have p2 := hT.cells (k := 2) rfl
               have p3 := hT.cells (k := 3) rfl
               have p4 := hT.cells (k := 4) rfl
               have p5 := hT.cells (k := 5) rfl
               have p6 := hT.cells (k := 6) rfl
               refine bodyPost_ret (v := .tuple #[.agg #[.int .i64 x.op, .int .i64 x.a, .int .i64 x.b, .int .i64 x.imm, .int .u32 x.n, .int .i64 x.label, .slice lp m lc], .bool q]) ?_ rfl ?_
               · simp [results, Tryz.results122, go_sem, p0, p1, p2, p3, p4, p5, p6]
               · unfold LineOfPost lineV
                 rw [HFX.out, HLP.out, ← HM.out]
                 exact ⟨lp, lc, rfl, (HPO.out _ _ hT).1, (HPO.out _ _ hT).2⟩)
            | (have hT := HS.out.store7 (.int .i64 x.op) (.int .i64 x.a) (.int .i64 x.b) (.int .i64 x.imm) (.int .u32 x.n) (.int .i64 x.label) (.slice lp m lc)
               have p0 := hT.cells (k := 0) rfl
               have p1 := hT.cells (k := 1) rfl
               have p2 := hT.cells (k := 2) rfl
               have p3 := hT.cells (k := 3) rfl
               have p4 := hT.cells (k := 4) rfl
               have p5 := hT.cells (k := 5) rfl
               have p6 := hT.cells (k := 6) rfl
               refine bodyPost_ret (v := .tuple #[.agg #[.int .i64 x.op, .int .i64 x.a, .int .i64 x.b, .int .i64 x.imm, .int .u32 x.n, .int .i64 x.label, .slice lp m lc], .bool q]) ?_ rfl ?_
               · simp [results, Tryz.results122, go_sem, p0, p1, p2, p3, p4, p5, p6]
               · unfold LineOfPost lineV
                 rw [HFX.out, HLP.out, ← HM.out]
                 exact ⟨lp, lc, rfl, (HPO.out _ _ hT).1, (HPO.out _ _ hT).2⟩)
end Go.Proofs.YthojmbljlehpbaaGreatDoor.Lists
