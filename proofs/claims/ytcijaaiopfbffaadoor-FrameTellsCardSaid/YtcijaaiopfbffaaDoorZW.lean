/- The temps of a set, rising: what temps.Set.All gives a loop. No condition. -/
import Derived.Test.YtcijaaiopfbffaaDoorZT
import Derived.Test.YtcijaaiopfbffaaDoorZi
import Derived.Sort.QuietIn
import Derived.Test.YtcijaaiopfbffaaDoorZl
import Derived.RangeFuncBox
import Derived.Laws.OwnMore
namespace Go.Proofs.YtcijaaiopfbffaaDoor.Live
open Go.RowKit Go.Proofs.YtcijaaiopfbffaaDoor.Graph Go.Shelf

theorem all_step (U : Nat → Nat) (n k : Nat) (h : k < n) : ∃ r, allOf U n = allOf U k ++ r := by
  induction n with
  | zero => omega
  | succ m ih =>
    rw [allOf_succ]
    by_cases e : k = m
    · subst e; exact ⟨_, rfl⟩
    · obtain ⟨r, hr⟩ := ih (by omega)
      exact ⟨r ++ (bitsOf (U m)).map (64 * m + ·), by rw [hr, List.append_assoc]⟩
theorem all_pre (U : Nat → Nat) {n k : Nat} (h : k ≤ n) : allOf U k <+: allOf U n := by
  rcases Nat.lt_or_eq_of_le h with h | rfl
  · obtain ⟨r, hr⟩ := all_step U n k h
    exact ⟨r, hr.symm⟩
  · exact List.prefix_refl _
theorem and_pred_num (v : Nat) (hv : v < w64) (h0 : v ≠ 0) : bits .and .u64 (v : Int) (IntKind.u64.wrap ((v : Int) - 1)) = ((v &&& (v - 1) : Nat) : Int) := by
  unfold w64 at hv
  have e1 : IntKind.u64.wrap ((v : Int) - 1) = ((v - 1 : Nat) : Int) := by rw [IntKind.wrap_u64]; omega
  rw [e1, bits_and_u64_nat v (v - 1) hv (by omega)]
set_option maxRecDepth 100000 in
set_option maxHeartbeats 4000000 in
theorem all_iter {bx n₀ n g o : Nat} {U : Nat → Nat} {w : World} (hn : 1 ≤ n) (hbx : w.heap[bx]? = some (.cells #[.pointer (some ⟨g, o, none⟩)] 70 (0, 0))) (hc : ∀ k, k < 125 → w.cell? ⟨g, o + k, none⟩ = some (.int .u64 (U k : Nat))) (hg : g < n₀) (hn0 : n₀ ≤ w.heap.size) (hU : ∀ k, U k < w64) (hT : TabAt 0 Lib.deBruijn64tab w) (h00 : 0 < n₀) :
    SeqStopsK Fence.wide n Tryd.prog 77 #[.pointer (some ⟨bx, 0, none⟩)] (fun t : Nat => #[Value.int .i64 (t : Nat)]) (KeepB n₀ bx) (fun ys => ys = allOf U 125) (fun pre => pre <+: allOf U 125) (allOf U 125).length w := by
  intro l J Jx W hb2 hJa _ hY h0
  have HJA := Lib.hid (fun (s : List Nat) (A B : World) (hs : J s A) (h : A.heap.size = B.heap.size ∧ Below A.heap.size A B) => hJa s A B none hs ⟨h.2.os, h.2.tape, h.2.output, h.2.size, fun k hk _ => h.2.block k hk⟩ (fun r e => by cases e))
  clear hJa
  have hbl := (Array.getElem?_eq_some_iff.1 hbx).1
  have HC := Lib.hid (fun (W1 : World) (hk : KeepB n₀ bx W W1) => (show W1.cell? ⟨bx, 0, none⟩ = some (.pointer (some ⟨g, o, none⟩)) from by simp [World.cell?, hk.box, hb2.block bx hbl, hbx]))
  have HW := Lib.hid (fun (W1 : World) (hk : KeepB n₀ bx W W1) (k : Nat) (h : k < 125) => (show W1.cell? ⟨g, o + k, none⟩ = some (.int .u64 (U k : Nat)) from (hk.below.cell (p := ⟨g, o + k, none⟩) hg).trans ((hb2.cell (p := ⟨g, o + k, none⟩) (by simp only; omega)).trans (hc k h))))
  have HTB := Lib.hid (fun (W1 : World) (hk : KeepB n₀ bx W W1) => (show TabAt 0 Lib.deBruijn64tab W1 from fun j hj => (hk.below.cell (p := ⟨0, j, none⟩) h00).trans ((hb2.cell (p := ⟨0, j, none⟩) (by simp only; omega)).trans (hT j hj))))
  have cb := HC.out W (KeepB.refl _ _ _)
  have hw : ∀ f : FuncId, Fence.wide.fn f := fun _ => trivial
  have HY := Lib.hid hY
  have HJ0 := Lib.hid h0
  have HU := Lib.hid hU
  clear hbx hc hg hT hb2 hY h0 hU hbl hn0
  refine callsIn_of_wp Tryd.func77 rfl trivial ?_ rfl
  simp only [Tryd.ntmps77, List.size_toArray, List.length_cons, List.length_nil, Nat.reduceAdd, Nat.reduceSub, Array.replicate_succ, Array.replicate_zero, List.push_toArray, List.append_toArray, List.nil_append, List.cons_append]
  gi_wp2
  clear cb
  gi_loopw [6] (fun i wr => ∃ k : Nat, i = .int .i64 k ∧ k ≤ 125 ∧ Hid (J (allOf U k) wr) ∧ Hid (KeepB n₀ bx W wr)) (fun i _ => 125 - (intOf i).toNat)
  case atStart => exact ⟨0, rfl, by omega, HJ0, Lib.hid (KeepB.refl _ _ _)⟩
  case round =>
    obtain ⟨k, rfl, hk, HJ, HK⟩ := hrel
    by_cases hkm : k < 125
    · have hki : (k : Int) < 125 := by omega
      have hk0 : (0 : Int) ≤ k := by omega
      have cw := HW.out wr HK.out k hkm
      gi_wp2
      gi_quiet (fail)
      have HJW : Hid (∀ q : Nat, J (allOf U k) (wr.drewN q)) := Lib.hid (fun q => HJA.out _ _ _ HJ.out ⟨rfl, Graph.below_drewN wr q⟩)
      have HKW : Hid (∀ q : Nat, KeepB n₀ bx W (wr.drewN q)) := Lib.hid (fun q => HK.out.trans ⟨⟨rfl, rfl, rfl, Nat.le_refl _, fun _ _ => rfl⟩, rfl⟩)
      clear cw
      gi_wp2
      gi_loopw [4] (fun t wr2 => ∃ (v : Nat) (pre : List Nat), t = .int .u64 (v : Nat) ∧ Hid (v < 18446744073709551616) ∧ Hid (pre ++ (bitsOf v).map (64 * k + ·) = allOf U (k + 1)) ∧ Hid (J pre wr2) ∧ Hid (KeepB n₀ bx W wr2)) (fun t _ => (intOf t).toNat)
      case atStart => exact ⟨U k, allOf U k, rfl, Lib.hid (HU.out k), Lib.hid (allOf_succ U k).symm, Lib.hid (HJW.out _), Lib.hid (HKW.out _)⟩
      case round =>
        obtain ⟨v, pre, rfl, HV, HP, HJ2, HK2⟩ := hrel
        by_cases hv0 : v = 0
        · subst hv0
          have HPE : Hid (pre = allOf U (k + 1)) := Lib.hid (by have h := HP.out; rwa [bits_zero, List.map_nil, List.append_nil] at h)
          have HJ3 : Hid (J (allOf U (k + 1)) wr) := Lib.hid (by rw [← HPE.out]; exact HJ2.out)
          gi_wp2
          exact ⟨⟨k + 1, by go_num, by omega, HJ3, HK2⟩, by simp [intOf]; omega⟩
        · obtain ⟨hb, hcl⟩ := bits_next (show v < w64 from HV.out) hv0
          have htz := tz_any v HV.out hv0 wr (HTB.out wr HK2.out)
          have hbp := and_pred_num v HV.out hv0
          have hlt := and_pred_lt hv0
          generalize Lib.ctz 64 v = c at hb hcl htz
          have hP := HP.out
          rw [hb, List.map_cons] at hP
          have HP2 : Hid ((pre ++ [64 * k + c]) ++ (bitsOf (v &&& (v - 1))).map (64 * k + ·) = allOf U (k + 1)) := Lib.hid (by rw [← hP, List.append_assoc]; rfl)
          have HPR : Hid ((pre ++ [64 * k + c]) <+: allOf U 125) := Lib.hid (List.IsPrefix.trans ⟨_, HP2.out⟩ (all_pre U (by omega)))
          have hyy := HY.out pre (64 * k + c) wr HJ2.out (by have := HPR.out.length_le; rw [List.length_append] at this; simp at this; omega)
          rw [show ((64 * k + c : Nat) : Int) = (k : Int) * 64 + c by omega] at hyy
          obtain ⟨fn, tmps, assign, body, hy, hR⟩ := hyy
          have HR := Lib.hid hR
          have HTZ := Lib.hid (callsIn_wide (n := n - 1) |>.2 htz)
          have HLT := Lib.hid hlt
          have c0 : (0 : Int) ≤ c := by omega
          have c1 : (c : Int) < 64 := by omega
          have v0 : ((v : Int) == 0) = false := by simp; omega
          clear hR htz hP hb hcl hlt
          gi_wp2_with (gi_at_call 78; refine HTZ.out.mono ?_; rintro e w1 ⟨rfl, rfl⟩)
          refine HR.out.mono ?_
          rintro e W3 (⟨rfl, hJ3, hk3⟩ | ⟨rfl, hJx3⟩)
          · have HJ3 := Lib.hid hJ3
            have HK3 := Lib.hid (HK2.out.trans hk3)
            clear hJ3 hk3 hy
            have HVL : Hid (v &&& (v - 1) < 18446744073709551616) := Lib.hid (by have := HLT.out; have := HV.out; omega)
            gi_wp2
            go_roundw
            case rel => exact ⟨v &&& (v - 1), pre ++ [64 * k + c], by first | rfl | rw [hbp], HVL, HP2, HJ3, HK3⟩
            case measure => (have := HLT.out; simp [intOf]; omega)
          · have HJ3 := Lib.hid hJx3
            clear hJx3 hy
            gi_wp2
            refine bodyPost_ret (results_none rfl _ _ _) rfl ?_
            exact ⟨⟨_, rfl⟩, .inr ⟨_, HPR.out, HJ3.out⟩⟩
    · have hkk : k = 125 := by omega
      subst hkk
      gi_wp2
      first
        | (go_end0; exact ⟨⟨_, rfl⟩, .inl ⟨_, rfl, HJ.out⟩⟩)
        | (refine bodyPost_ret (results_none rfl _ _ _) rfl ?_; exact ⟨⟨_, rfl⟩, .inl ⟨_, rfl, HJ.out⟩⟩)
end Go.Proofs.YtcijaaiopfbffaaDoor.Live
namespace Go.Proofs.YtcijaaiopfbffaaDoor.Live
open Go.RowKit Go.Proofs.YtcijaaiopfbffaaDoor.Graph Go.Shelf Go.Maps

attribute [local go_sem] Oper.semAt_some
theorem make0_int (A : Nat) (hA : A ≤ 65536) (w : World) : (Instr.makeSlice 22 (.int .i64 0) (.int .i64 (A : Int))).run Tryd.prog w = .ok (.slice (some ⟨w.heap.size, 0, none⟩) 0 A) (w.alloc (.cells (madeCells #[.int .i64 0] A) 3)) := by
  obtain ⟨i0, HI, hz0, hz1, hz2⟩ := info_parts info_int
  have := run_make (P := Tryd.prog) w 22 3 i0 _ Tryd.underlying22 HI hz0 .i64 .i64 0 (A : Int) (by omega) (by omega) (by rw [hz2]; omega) (by omega)
  simpa [hz1, Value.cells] using this
theorem all_len (U : Nat → Nat) : (allOf U 125).length ≤ 8000 := by
  rw [allOf_filter]
  have := List.length_filter_le (fun t => hasW U t) (List.range (64 * 125))
  rw [List.length_range] at this
  omega
set_option maxHeartbeats 1000000 in
theorem all_in (n : Nat) (p : Addr) (w : World) :
    CallsIn Fence.wide n Tryd.prog 57 #[.pointer (some p)] w fun e w' => e = .returned (.func (.func 77) #[] #[.pointer (some ⟨w.heap.size, 0, none⟩)]) ∧ w' = w.alloc (.cells #[.pointer (some p)] 70) := by
  refine callsIn_of_wp Tryd.func57 rfl trivial ?_ rfl
  simp only [Tryd.ntmps57, List.size_toArray, List.length_cons, List.length_nil, Nat.reduceAdd, Nat.reduceSub, Array.replicate_succ, Array.replicate_zero, List.push_toArray, List.append_toArray, List.nil_append, List.cons_append]
  gi_wp2
  go_ret
  exact ⟨rfl, rfl⟩
def ListPost (L : List Nat) (w : World) (e : Ending) (w' : World) : Prop := ∃ v, e = .returned v ∧ w'.ownsRow w.heap.size 3 1 v L.length (L.map iN) ∧ Below w.heap.size w w'
/-- In the middle of list. -/
def LJ (w : World) (bl bx : Nat) (p : Value) (pre : List Nat) (W : World) : Prop :=
  (∃ v, Boxed W bl 22 v ∧ W.ownsRow w.heap.size 3 1 v pre.length (pre.map iN) ∧ True) ∧ Below w.heap.size w W ∧ Boxed W bx 70 p
set_option maxHeartbeats 8000000 in
set_option maxRecDepth 100000 in
theorem list_any {w : World} {g n b : Nat} {U : Nat → Nat → Nat} (h : SetsAt w g n U) (hb : b < n) (hn : n ≤ 20000) (hU : ∀ k, U b k < w64) (hT : TabAt 0 Lib.deBruijn64tab w) (h0 : 0 < w.heap.size) :
    Calls Tryd.prog 33 #[.pointer (some ⟨g, b * 125, none⟩)] w (ListPost (allOf (U b) 125) w) := by
  have HCO := Lib.hid (count_any h hb hn)
  have HS := Lib.hid h
  have HU := Lib.hid hU
  have HTB := Lib.hid hT
  have H0 := Lib.hid h0
  have HMK := Lib.hid (fun (c : Nat) (hc : c ≤ 15875) (w : World) => make0_int c (by omega) w)
  clear h hU hT h0
  refine callsIn_wide.1 (callsIn_of_wp_marks (n := 9) Tryd.func33 rfl trivial ?_ rfl)
  refine wpIn_wide.2 ?_
  simp only [Tryd.ntmps33, List.size_toArray, List.length_cons, List.length_nil, Nat.reduceAdd, Nat.reduceSub, Array.replicate_succ, Array.replicate_zero, List.push_toArray, List.append_toArray, List.nil_append, List.cons_append]
  go_wp2_with (first
    | (go_at_call 56
       refine HCO.out.mono ?_
       rintro e w1 ⟨h1, c, hc, rfl⟩
       subst h1
       have hmk := HMK.out c hc
       have HC := Lib.hid hc
       clear hc)
    | (go_at_call 57; refine (callsIn_wide.1 (all_in 0 _ _)).mono ?_; rintro e w2 ⟨rfl, rfl⟩))
  clear hmk
  obtain ⟨W0, hW0⟩ : ∃ W0, W0 = ((w1.alloc (.cells (madeCells #[.int .i64 0] c) 3)).alloc (.cells #[.slice (some ⟨w1.heap.size, 0, none⟩) 0 c] 22)).alloc (.cells #[.pointer (some ⟨g, b * 125, none⟩)] 70) := ⟨_, rfl⟩
  have hb0 : Below w1.heap.size w1 W0 := by rw [hW0]; exact ((below_alloc w1 _).alloc (by simp) _).alloc (by simp; omega) _
  have hbx : W0.heap[w1.heap.size + 2]? = some (.cells #[.pointer (some ⟨g, b * 125, none⟩)] 70 (0, 0)) := by rw [hW0]; have := heap_new ((w1.alloc (.cells (madeCells #[.int .i64 0] c) 3)).alloc (.cells #[.slice (some ⟨w1.heap.size, 0, none⟩) 0 c] 22)) (.cells #[.pointer (some ⟨g, b * 125, none⟩)] 70); simpa using this
  have hbl : Boxed W0 (w1.heap.size + 1) 22 (.slice (some ⟨w1.heap.size, 0, none⟩) 0 c) := by rw [hW0]; have := (Boxed.new (w1.alloc (.cells (madeCells #[.int .i64 0] c) 3)) 22 (.slice (some ⟨w1.heap.size, 0, none⟩) 0 c)).alloc (.cells #[.pointer (some ⟨g, b * 125, none⟩)] 70); simpa using this
  have hrow : W0.ownsRow w1.heap.size 3 1 (.slice (some ⟨w1.heap.size, 0, none⟩) 0 c) 0 [] := by
    rw [hW0]
    exact own_below (own_below (World.ownsRow_made w1 _ c (Nat.le_refl _) (by unfold maxLen; have := HC.out; omega) (by rw [Nat.mul_one]; exact size_madeCells _ _)) (Graph.below_alloc _ _)) (Graph.below_alloc _ _)
  have hsz : W0.heap.size = w1.heap.size + 3 := by rw [hW0]; simp
  have e0 : ((w1.alloc (.cells (madeCells #[.int .i64 0] c) 3)).alloc (.cells #[.slice (some ⟨w1.heap.size, 0, none⟩) 0 c] 22)).heap.size = w1.heap.size + 2 := by simp
  rw [← hW0]
  have HLEN := Lib.hid (all_len (U b))
  have HBZ := Lib.hid hb0
  have hgl : g < w1.heap.size := HS.out.lt
  obtain ⟨i0, hi, hz0, hz1, hz2⟩ := info_parts info_int
  refine (wpIn_wide (n := 9)).1 ?_
  refine wpIn_rangeFunc_ownH (F := Fence.wide) rfl (by decide) (gf := 77) (lb := #[.pointer (some ⟨w1.heap.size + 1 + 1, 0, none⟩)]) rfl trivial (enters_of Tryd.func77 (by kernel_rfl) rfl)
    (all_iter (n := 8) (n₀ := w1.heap.size) (g := g) (o := b * 125) (U := U b) (w := W0) (by decide) hbx (fun k hk => (hb0.cell (p := ⟨g, b * 125 + k, none⟩) hgl).trans (HS.out.cell hb hk)) hgl hb0.size HU.out (fun j hj => (hb0.cell (p := ⟨0, j, none⟩) H0.out).trans (HTB.out j hj)) H0.out)
    KeepB.trans (keepB_b hb0.size (by omega)) (Below.refl _ _) (fun _ => rfl)
    (fun pre W => LJ w1 (w1.heap.size + 1) (w1.heap.size + 1 + 1) (.pointer (some ⟨g, b * 125, none⟩)) pre W)
    (fun _ _ _ => False)
    (OwnFrom.and (Own.from (holdsRow_own w1.heap.size (w1.heap.size + 1) 22 3 1 (fun pre : List Nat => pre.length) (fun pre => pre.map iN) (fun _ _ => True)) _) (OwnFrom.and (ownFrom_below (Nat.le_refl _) hb0.size) (Own.from (boxed_own _ _ _) _)))
    (fun cd => ownFrom_pure _ _)
    ⟨⟨_, hbl, hrow, trivial⟩, hb0, hbx⟩
    (fun t a' _ => a' = ({ tmps := #[.pointer (some ⟨g, b * 125, none⟩), undef, .slice none 0 0, .pointer (some ⟨w1.heap.size + 1, 0, none⟩), .int .i64 (t : Nat), .pointer (some ⟨g, b * 125, none⟩), .int .i64 (c : Nat), .slice (some ⟨w1.heap.size, 0, none⟩) 0 c, .pointer (some ⟨g, b * 125, none⟩), .func (.func 77) #[] #[.pointer (some ⟨w1.heap.size + 1 + 1, 0, none⟩)], .int .i64 (t : Nat), undef, undef, undef, undef, undef], defers := [] } : Act))
    (fun _ _ _ _ _ _ hs _ _ => hs)
    ?assign ?body ?done ?stop
  case assign =>
    rintro l pre z W K hi hK
    gi_wp2
    exact hK _ _ (KeepsFrom.refl _ _) (KeepB.refl _ _ _) hi rfl
  case body =>
    rintro l pre t a' W hl ⟨r, hr⟩ ⟨⟨v, hv, hrow2, _⟩, hB, hbx2⟩ rfl hlen
    have hc := hv.cell
    have hw : ∀ f : FuncId, (Fence.wide.inRound l).fn f := fun _ => trivial
    have hpl : pre.length < 8000 := Nat.lt_of_lt_of_le hlen HLEN.out
    clear hr
    gi_wp2_with (gi_at_builtin; refine wpListIn_append_own _ rfl _ _ 22 rfl w1.heap.size 3 i0 (.int .i64 0) 1 8 Tryd.underlying22 hi hz0 hz1 hz2 rfl (by decide) _ _ _ rfl (hrow2.alloc _) ⟨W.heap.size, 0, none⟩ 1 1 [.int .i64 (t : Nat)] rfl rfl (news_one rfl) (by simp [Value.oneCell']) (by unfold maxLen; omega) (by omega) (by have := hB.size; simp; omega) ?_; intro v' w3 hown' hgrow _; obtain ⟨g', cap', rfl⟩ := ownsRow_succ hown'; obtain ⟨hv1, hv2, hr2, hk2, hb2⟩ := hv.appended (by decide) hrow2 hB.size (by omega) hown' hgrow; have hbx3 := (Boxed.alloc hbx2 _).kept hgrow (Boxed.not_row hbx2 (by decide) hrow2); have hc1 := hv1.cell; have hf1 := hv1.frozen)
    have hbx4 := Boxed.other hbx3 (show w1.heap.size + 1 + 1 ≠ w1.heap.size + 1 by omega) (.slice (some ⟨g', 0, none⟩) (pre.length + 1) cap')
    exact ⟨hk2.from _, ⟨hb2, hbx4.trans hbx2.symm⟩, ⟨_, hv2, by rw [List.length_append, List.map_append]; exact hr2, trivial⟩, hB.trans hb2, hbx4⟩
  case done =>
    rintro D ys W hD hS ⟨⟨v, hv, hrow2, _⟩, hB, hbx2⟩ hDe
    have hc := hv.cell
    go_wp2
    refine ⟨by simp, .inl ⟨_, _, rfl, run_takeDeferred hDe, ?_⟩⟩
    exact ⟨_, results_tmp rfl _ _ _, v, rfl, by rw [← hS]; exact ownsRow_putObj hrow2 _ hDe rfl, hB.trans (keepB_b (w := W0) (bx := 0) HBZ.out.size (by omega) W D _ _ hD hDe rfl rfl).below⟩
  case stop =>
    rintro D c pre W hD hSp h hDe
    exact h.elim
end Go.Proofs.YtcijaaiopfbffaaDoor.Live
