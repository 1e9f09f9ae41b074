/- The temps of a set, rising: what temps.Set.All gives a loop. No condition. -/
import Derived.Test.YtcijaaiopfbffaaDoorZu
import Derived.Test.YtcijaaiopfbffaaDoorZi
import Derived.Sort.QuietIn
namespace Go.Proofs.YtcijaaiopfbffaaDoor.Live
open Go.RowKit Go.Proofs.YtcijaaiopfbffaaDoor.Graph Go.Shelf

theorem all_step (U : Nat → Nat) (n k : Nat) (h : k < n) : ∃ r, allOf U n = allOf U k ++ r := by
  induction n with
  | zero => omega
  | succ m ih =>
    rw [allOf_succ]
    by_cases e : k = m
    · subst e; exact ⟨_, rfl⟩
    · obtain ⟨r, hr⟩ := ih (by omega)
      exact ⟨r ++ (bitsOf (U m)).map (64 * m + ·), by rw [hr, List.append_assoc]⟩
theorem all_pre (U : Nat → Nat) {n k : Nat} (h : k ≤ n) : allOf U k <+: allOf U n := by
  rcases Nat.lt_or_eq_of_le h with h | rfl
  · obtain ⟨r, hr⟩ := all_step U n k h
    exact ⟨r, hr.symm⟩
  · exact List.prefix_refl _
theorem and_pred_num (v : Nat) (hv : v < w64) (h0 : v ≠ 0) : bits .and .u64 (v : Int) (IntKind.u64.wrap ((v : Int) - 1)) = ((v &&& (v - 1) : Nat) : Int) := by
  unfold w64 at hv
  have e1 : IntKind.u64.wrap ((v : Int) - 1) = ((v - 1 : Nat) : Int) := by rw [IntKind.wrap_u64]; omega
  rw [e1, bits_and_u64_nat v (v - 1) hv (by omega)]
set_option maxRecDepth 100000 in
set_option maxHeartbeats 4000000 in
theorem all_iter {bx n₀ n g o : Nat} {U : Nat → Nat} {w : World} (hn : 1 ≤ n) (hbx : w.heap[bx]? = some (.cells #[.pointer (some ⟨g, o, none⟩)] 70 (0, 0))) (hc : ∀ k, k < 125 → w.cell? ⟨g, o + k, none⟩ = some (.int .u64 (U k : Nat))) (hg : g < n₀) (hn0 : n₀ ≤ w.heap.size) (hU : ∀ k, U k < w64) (hT : TabAt 0 Lib.deBruijn64tab w) (h00 : 0 < n₀) :
    SeqStopsK Fence.wide n Tryd.prog 77 #[.pointer (some ⟨bx, 0, none⟩)] (fun t : Nat => #[Value.int .i64 (t : Nat)]) (KeepB n₀ bx) (fun ys => ys = allOf U 125) (fun pre => pre <+: allOf U 125) (allOf U 125).length w := by
  intro l J Jx W hb2 hJa _ hY h0
  have HJA := Lib.hid (fun (s : List Nat) (A B : World) (hs : J s A) (h : A.heap.size = B.heap.size ∧ Below A.heap.size A B) => hJa s A B none hs ⟨h.2.os, h.2.tape, h.2.output, h.2.size, fun k hk _ => h.2.block k hk⟩ (fun r e => by cases e))
  clear hJa
  have hbl := (Array.getElem?_eq_some_iff.1 hbx).1
  have HC := Lib.hid (fun (W1 : World) (hk : KeepB n₀ bx W W1) => (show W1.cell? ⟨bx, 0, none⟩ = some (.pointer (some ⟨g, o, none⟩)) from by simp [World.cell?, hk.box, hb2.block bx hbl, hbx]))
  have HW := Lib.hid (fun (W1 : World) (hk : KeepB n₀ bx W W1) (k : Nat) (h : k < 125) => (show W1.cell? ⟨g, o + k, none⟩ = some (.int .u64 (U k : Nat)) from (hk.below.cell (p := ⟨g, o + k, none⟩) hg).trans ((hb2.cell (p := ⟨g, o + k, none⟩) (by simp only; omega)).trans (hc k h))))
  have HTB := Lib.hid (fun (W1 : World) (hk : KeepB n₀ bx W W1) => (show TabAt 0 Lib.deBruijn64tab W1 from fun j hj => (hk.below.cell (p := ⟨0, j, none⟩) h00).trans ((hb2.cell (p := ⟨0, j, none⟩) (by simp only; omega)).trans (hT j hj))))
  have cb := HC.out W (KeepB.refl _ _ _)
  have hw : ∀ f : FuncId, Fence.wide.fn f := fun _ => trivial
  have HY := Lib.hid hY
  have HJ0 := Lib.hid h0
  have HU := Lib.hid hU
  clear hbx hc hg hT hb2 hY h0 hU hbl hn0
  refine callsIn_of_wp Tryd.func77 rfl trivial ?_ rfl
  simp only [Tryd.ntmps77, List.size_toArray, List.length_cons, List.length_nil, Nat.reduceAdd, Nat.reduceSub, Array.replicate_succ, Array.replicate_zero, List.push_toArray, List.append_toArray, List.nil_append, List.cons_append]
  gi_wp2
  clear cb
  gi_loopw [6] (fun i wr => ∃ k : Nat, i = .int .i64 k ∧ k ≤ 125 ∧ Hid (J (allOf U k) wr) ∧ Hid (KeepB n₀ bx W wr)) (fun i _ => 125 - (intOf i).toNat)
  case atStart => exact ⟨0, rfl, by omega, HJ0, Lib.hid (KeepB.refl _ _ _)⟩
  case round =>
    obtain ⟨k, rfl, hk, HJ, HK⟩ := hrel
    by_cases hkm : k < 125
    · have hki : (k : Int) < 125 := by omega
      have hk0 : (0 : Int) ≤ k := by omega
      have cw := HW.out wr HK.out k hkm
      gi_wp2
      gi_quiet (fail)
      have HJW : Hid (∀ q : Nat, J (allOf U k) (wr.drewN q)) := Lib.hid (fun q => HJA.out _ _ _ HJ.out ⟨rfl, Graph.below_drewN wr q⟩)
      have HKW : Hid (∀ q : Nat, KeepB n₀ bx W (wr.drewN q)) := Lib.hid (fun q => HK.out.trans ⟨⟨rfl, rfl, rfl, Nat.le_refl _, fun _ _ => rfl⟩, rfl⟩)
      clear cw
      gi_wp2
      gi_loopw [4] (fun t wr2 => ∃ (v : Nat) (pre : List Nat), t = .int .u64 (v : Nat) ∧ Hid (v < 18446744073709551616) ∧ Hid (pre ++ (bitsOf v).map (64 * k + ·) = allOf U (k + 1)) ∧ Hid (J pre wr2) ∧ Hid (KeepB n₀ bx W wr2)) (fun t _ => (intOf t).toNat)
      case atStart => exact ⟨U k, allOf U k, rfl, Lib.hid (HU.out k), Lib.hid (allOf_succ U k).symm, Lib.hid (HJW.out _), Lib.hid (HKW.out _)⟩
      case round =>
        obtain ⟨v, pre, rfl, HV, HP, HJ2, HK2⟩ := hrel
        by_cases hv0 : v = 0
        · subst hv0
          have HPE : Hid (pre = allOf U (k + 1)) := Lib.hid (by have h := HP.out; rwa [bits_zero, List.map_nil, List.append_nil] at h)
          have HJ3 : Hid (J (allOf U (k + 1)) wr) := Lib.hid (by rw [← HPE.out]; exact HJ2.out)
          gi_wp2
          exact ⟨⟨k + 1, by go_num, by omega, HJ3, HK2⟩, by simp [intOf]; omega⟩
        · obtain ⟨hb, hcl⟩ := bits_next (show v < w64 from HV.out) hv0
          have htz := tz_any v HV.out hv0 wr (HTB.out wr HK2.out)
          have hbp := and_pred_num v HV.out hv0
          have hlt := and_pred_lt hv0
          generalize Lib.ctz 64 v = c at hb hcl htz
          have hP := HP.out
          rw [hb, List.map_cons] at hP
          have HP2 : Hid ((pre ++ [64 * k + c]) ++ (bitsOf (v &&& (v - 1))).map (64 * k + ·) = allOf U (k + 1)) := Lib.hid (by rw [← hP, List.append_assoc]; rfl)
          have HPR : Hid ((pre ++ [64 * k + c]) <+: allOf U 125) := Lib.hid (List.IsPrefix.trans ⟨_, HP2.out⟩ (all_pre U (by omega)))
          have hyy := HY.out pre (64 * k + c) wr HJ2.out (by have := HPR.out.length_le; rw [List.length_append] at this; simp at this; omega)
          rw [show ((64 * k + c : Nat) : Int) = (k : Int) * 64 + c by omega] at hyy
          obtain ⟨fn, tmps, assign, body, hy, hR⟩ := hyy
          have HR := Lib.hid hR
          have HTZ := Lib.hid (callsIn_wide (n := n - 1) |>.2 htz)
          have HLT := Lib.hid hlt
          have c0 : (0 : Int) ≤ c := by omega
          have c1 : (c : Int) < 64 := by omega
          have v0 : ((v : Int) == 0) = false := by simp; omega
          clear hR htz hP hb hcl hlt
          gi_wp2_with (gi_at_call 78; refine HTZ.out.mono ?_; rintro e w1 ⟨rfl, rfl⟩)
          refine HR.out.mono ?_
          rintro e W3 (⟨rfl, hJ3, hk3⟩ | ⟨rfl, hJx3⟩)
          · have HJ3 := Lib.hid hJ3
            have HK3 := Lib.hid (HK2.out.trans hk3)
            clear hJ3 hk3 hy
            have HVL : Hid (v &&& (v - 1) < 18446744073709551616) := Lib.hid (by have := HLT.out; have := HV.out; omega)
            gi_wp2
            go_roundw
            case rel => exact ⟨v &&& (v - 1), pre ++ [64 * k + c], by first | rfl | rw [hbp], HVL, HP2, HJ3, HK3⟩
            case measure => (have := HLT.out; simp [intOf]; omega)
          · have HJ3 := Lib.hid hJx3
            clear hJx3 hy
            gi_wp2
            refine bodyPost_ret (results_none rfl _ _ _) rfl ?_
            exact ⟨⟨_, rfl⟩, .inr ⟨_, HPR.out, HJ3.out⟩⟩
    · have hkk : k = 125 := by omega
      subst hkk
      gi_wp2
      first
        | (go_end0; exact ⟨⟨_, rfl⟩, .inl ⟨_, rfl, HJ.out⟩⟩)
        | (refine bodyPost_ret (results_none rfl _ _ _) rfl ?_; exact ⟨⟨_, rfl⟩, .inl ⟨_, rfl, HJ.out⟩⟩)
end Go.Proofs.YtcijaaiopfbffaaDoor.Live
