/- The temps of a set as a list: live's list. No condition but that the library's table lies. -/
import Derived.Test.YtcijaaiopfbffaaDoorZv
import Derived.Test.YtcijaaiopfbffaaDoorZl
import Derived.RangeFuncBox
import Derived.Laws.OwnMore
namespace Go.Proofs.YtcijaaiopfbffaaDoor.Live
open Go.RowKit Go.Proofs.YtcijaaiopfbffaaDoor.Graph Go.Shelf Go.Maps

attribute [local go_sem] Oper.semAt_some
theorem make0_int (A : Nat) (hA : A ≤ 65536) (w : World) : (Instr.makeSlice 22 (.int .i64 0) (.int .i64 (A : Int))).run Tryd.prog w = .ok (.slice (some ⟨w.heap.size, 0, none⟩) 0 A) (w.alloc (.cells (madeCells #[.int .i64 0] A) 3)) := by
  obtain ⟨i0, HI, hz0, hz1, hz2⟩ := info_parts info_int
  have := run_make (P := Tryd.prog) w 22 3 i0 _ Tryd.underlying22 HI hz0 .i64 .i64 0 (A : Int) (by omega) (by omega) (by rw [hz2]; omega) (by omega)
  simpa [hz1, Value.cells] using this
theorem all_len (U : Nat → Nat) : (allOf U 125).length ≤ 8000 := by
  rw [allOf_filter]
  have := List.length_filter_le (fun t => hasW U t) (List.range (64 * 125))
  rw [List.length_range] at this
  omega
set_option maxHeartbeats 1000000 in
theorem all_in (n : Nat) (p : Addr) (w : World) :
    CallsIn Fence.wide n Tryd.prog 57 #[.pointer (some p)] w fun e w' => e = .returned (.func (.func 77) #[] #[.pointer (some ⟨w.heap.size, 0, none⟩)]) ∧ w' = w.alloc (.cells #[.pointer (some p)] 70) := by
  refine callsIn_of_wp Tryd.func57 rfl trivial ?_ rfl
  simp only [Tryd.ntmps57, List.size_toArray, List.length_cons, List.length_nil, Nat.reduceAdd, Nat.reduceSub, Array.replicate_succ, Array.replicate_zero, List.push_toArray, List.append_toArray, List.nil_append, List.cons_append]
  gi_wp2
  go_ret
  exact ⟨rfl, rfl⟩
def ListPost (L : List Nat) (w : World) (e : Ending) (w' : World) : Prop := ∃ v, e = .returned v ∧ w'.ownsRow w.heap.size 3 1 v L.length (L.map iN) ∧ Below w.heap.size w w'
/-- In the middle of list. -/
def LJ (w : World) (bl bx : Nat) (p : Value) (pre : List Nat) (W : World) : Prop :=
  (∃ v, Boxed W bl 22 v ∧ W.ownsRow w.heap.size 3 1 v pre.length (pre.map iN) ∧ True) ∧ Below w.heap.size w W ∧ Boxed W bx 70 p
set_option maxHeartbeats 8000000 in
set_option maxRecDepth 100000 in
theorem list_any {w : World} {g n b : Nat} {U : Nat → Nat → Nat} (h : SetsAt w g n U) (hb : b < n) (hn : n ≤ 20000) (hU : ∀ k, U b k < w64) (hT : TabAt 0 Lib.deBruijn64tab w) (h0 : 0 < w.heap.size) :
    Calls Tryd.prog 33 #[.pointer (some ⟨g, b * 125, none⟩)] w (ListPost (allOf (U b) 125) w) := by
  have HCO := Lib.hid (count_any h hb hn)
  have HS := Lib.hid h
  have HU := Lib.hid hU
  have HTB := Lib.hid hT
  have H0 := Lib.hid h0
  have HMK := Lib.hid (fun (c : Nat) (hc : c ≤ 15875) (w : World) => make0_int c (by omega) w)
  clear h hU hT h0
  refine callsIn_wide.1 (callsIn_of_wp_marks (n := 9) Tryd.func33 rfl trivial ?_ rfl)
  refine wpIn_wide.2 ?_
  simp only [Tryd.ntmps33, List.size_toArray, List.length_cons, List.length_nil, Nat.reduceAdd, Nat.reduceSub, Array.replicate_succ, Array.replicate_zero, List.push_toArray, List.append_toArray, List.nil_append, List.cons_append]
  go_wp2_with (first
    | (go_at_call 56
       refine HCO.out.mono ?_
       rintro e w1 ⟨h1, c, hc, rfl⟩
       subst h1
       have hmk := HMK.out c hc
       have HC := Lib.hid hc
       clear hc)
    | (go_at_call 57; refine (callsIn_wide.1 (all_in 0 _ _)).mono ?_; rintro e w2 ⟨rfl, rfl⟩))
  clear hmk
  obtain ⟨W0, hW0⟩ : ∃ W0, W0 = ((w1.alloc (.cells (madeCells #[.int .i64 0] c) 3)).alloc (.cells #[.slice (some ⟨w1.heap.size, 0, none⟩) 0 c] 22)).alloc (.cells #[.pointer (some ⟨g, b * 125, none⟩)] 70) := ⟨_, rfl⟩
  have hb0 : Below w1.heap.size w1 W0 := by rw [hW0]; exact ((below_alloc w1 _).alloc (by simp) _).alloc (by simp; omega) _
  have hbx : W0.heap[w1.heap.size + 2]? = some (.cells #[.pointer (some ⟨g, b * 125, none⟩)] 70 (0, 0)) := by rw [hW0]; have := heap_new ((w1.alloc (.cells (madeCells #[.int .i64 0] c) 3)).alloc (.cells #[.slice (some ⟨w1.heap.size, 0, none⟩) 0 c] 22)) (.cells #[.pointer (some ⟨g, b * 125, none⟩)] 70); simpa using this
  have hbl : Boxed W0 (w1.heap.size + 1) 22 (.slice (some ⟨w1.heap.size, 0, none⟩) 0 c) := by rw [hW0]; have := (Boxed.new (w1.alloc (.cells (madeCells #[.int .i64 0] c) 3)) 22 (.slice (some ⟨w1.heap.size, 0, none⟩) 0 c)).alloc (.cells #[.pointer (some ⟨g, b * 125, none⟩)] 70); simpa using this
  have hrow : W0.ownsRow w1.heap.size 3 1 (.slice (some ⟨w1.heap.size, 0, none⟩) 0 c) 0 [] := by
    rw [hW0]
    exact own_below (own_below (World.ownsRow_made w1 _ c (Nat.le_refl _) (by unfold maxLen; have := HC.out; omega) (by rw [Nat.mul_one]; exact size_madeCells _ _)) (Graph.below_alloc _ _)) (Graph.below_alloc _ _)
  have hsz : W0.heap.size = w1.heap.size + 3 := by rw [hW0]; simp
  have e0 : ((w1.alloc (.cells (madeCells #[.int .i64 0] c) 3)).alloc (.cells #[.slice (some ⟨w1.heap.size, 0, none⟩) 0 c] 22)).heap.size = w1.heap.size + 2 := by simp
  rw [← hW0]
  have HLEN := Lib.hid (all_len (U b))
  have HBZ := Lib.hid hb0
  have hgl : g < w1.heap.size := HS.out.lt
  obtain ⟨i0, hi, hz0, hz1, hz2⟩ := info_parts info_int
  refine (wpIn_wide (n := 9)).1 ?_
  refine wpIn_rangeFunc_ownH (F := Fence.wide) rfl (by decide) (gf := 77) (lb := #[.pointer (some ⟨w1.heap.size + 1 + 1, 0, none⟩)]) rfl trivial (enters_of Tryd.func77 (by kernel_rfl) rfl)
    (all_iter (n := 8) (n₀ := w1.heap.size) (g := g) (o := b * 125) (U := U b) (w := W0) (by decide) hbx (fun k hk => (hb0.cell (p := ⟨g, b * 125 + k, none⟩) hgl).trans (HS.out.cell hb hk)) hgl hb0.size HU.out (fun j hj => (hb0.cell (p := ⟨0, j, none⟩) H0.out).trans (HTB.out j hj)) H0.out)
    KeepB.trans (keepB_b hb0.size (by omega)) (Below.refl _ _) (fun _ => rfl)
    (fun pre W => LJ w1 (w1.heap.size + 1) (w1.heap.size + 1 + 1) (.pointer (some ⟨g, b * 125, none⟩)) pre W)
    (fun _ _ _ => False)
    (OwnFrom.and (Own.from (holdsRow_own w1.heap.size (w1.heap.size + 1) 22 3 1 (fun pre : List Nat => pre.length) (fun pre => pre.map iN) (fun _ _ => True)) _) (OwnFrom.and (ownFrom_below (Nat.le_refl _) hb0.size) (Own.from (boxed_own _ _ _) _)))
    (fun cd => ownFrom_pure _ _)
    ⟨⟨_, hbl, hrow, trivial⟩, hb0, hbx⟩
    (fun t a' _ => a' = ({ tmps := #[.pointer (some ⟨g, b * 125, none⟩), undef, .slice none 0 0, .pointer (some ⟨w1.heap.size + 1, 0, none⟩), .int .i64 (t : Nat), .pointer (some ⟨g, b * 125, none⟩), .int .i64 (c : Nat), .slice (some ⟨w1.heap.size, 0, none⟩) 0 c, .pointer (some ⟨g, b * 125, none⟩), .func (.func 77) #[] #[.pointer (some ⟨w1.heap.size + 1 + 1, 0, none⟩)], .int .i64 (t : Nat), undef, undef, undef, undef, undef], defers := [] } : Act))
    (fun _ _ _ _ _ _ hs _ _ => hs)
    ?assign ?body ?done ?stop
  case assign =>
    rintro l pre z W K hi hK
    gi_wp2
    exact hK _ _ (KeepsFrom.refl _ _) (KeepB.refl _ _ _) hi rfl
  case body =>
    rintro l pre t a' W hl ⟨r, hr⟩ ⟨⟨v, hv, hrow2, _⟩, hB, hbx2⟩ rfl hlen
    have hc := hv.cell
    have hw : ∀ f : FuncId, (Fence.wide.inRound l).fn f := fun _ => trivial
    have hpl : pre.length < 8000 := Nat.lt_of_lt_of_le hlen HLEN.out
    clear hr
    gi_wp2_with (gi_at_builtin; refine wpListIn_append_own _ rfl _ _ 22 rfl w1.heap.size 3 i0 (.int .i64 0) 1 8 Tryd.underlying22 hi hz0 hz1 hz2 rfl (by decide) _ _ _ rfl (hrow2.alloc _) ⟨W.heap.size, 0, none⟩ 1 1 [.int .i64 (t : Nat)] rfl rfl (news_one rfl) (by simp [Value.oneCell']) (by unfold maxLen; omega) (by omega) (by have := hB.size; simp; omega) ?_; intro v' w3 hown' hgrow _; obtain ⟨g', cap', rfl⟩ := ownsRow_succ hown'; obtain ⟨hv1, hv2, hr2, hk2, hb2⟩ := hv.appended (by decide) hrow2 hB.size (by omega) hown' hgrow; have hbx3 := (Boxed.alloc hbx2 _).kept hgrow (Boxed.not_row hbx2 (by decide) hrow2); have hc1 := hv1.cell; have hf1 := hv1.frozen)
    have hbx4 := Boxed.other hbx3 (show w1.heap.size + 1 + 1 ≠ w1.heap.size + 1 by omega) (.slice (some ⟨g', 0, none⟩) (pre.length + 1) cap')
    exact ⟨hk2.from _, ⟨hb2, hbx4.trans hbx2.symm⟩, ⟨_, hv2, by rw [List.length_append, List.map_append]; exact hr2, trivial⟩, hB.trans hb2, hbx4⟩
  case done =>
    rintro D ys W hD hS ⟨⟨v, hv, hrow2, _⟩, hB, hbx2⟩ hDe
    have hc := hv.cell
    go_wp2
    refine ⟨by simp, .inl ⟨_, _, rfl, run_takeDeferred hDe, ?_⟩⟩
    exact ⟨_, results_tmp rfl _ _ _, v, rfl, by rw [← hS]; exact ownsRow_putObj hrow2 _ hDe rfl, hB.trans (keepB_b (w := W0) (bx := 0) HBZ.out.size (by omega) W D _ _ hD hDe rfl rfl).below⟩
  case stop =>
    rintro D c pre W hD hSp h hDe
    exact h.elim
end Go.Proofs.YtcijaaiopfbffaaDoor.Live
