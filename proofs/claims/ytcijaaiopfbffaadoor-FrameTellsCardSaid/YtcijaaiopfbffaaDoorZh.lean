/- The temps that an instruction uses, one after the other: what temps.Used gives a loop. No condition. -/
import Derived.Test.YtcijaaiopfbffaaDoorZg
import Derived.Shelf.Abstract
import Derived.OwnWalkIn
import Derived.TacticsInMore
import Derived.LoopNIn
import Derived.LoopIn
namespace Go.Proofs.YtcijaaiopfbffaaDoor.Live
open Go.RowKit Go.Proofs.YtcijaaiopfbffaaDoor.Graph Go.Shelf

def argAt (g o : Nat) (l : List Int) : List (Addr × Int) := (List.range l.length).map fun k => (⟨g, o + k, none⟩, l.getD k 0)
/-- Where an instruction's temps stand, and which they are. -/
def usedAt (b o ga oa : Nat) (x : PIns) : List (Addr × Int) :=
  if x.op = 29 then argAt ga oa x.args else if usesAB x.op = true then (⟨b, o + 2, none⟩, x.a) :: (if usesBB x.op = true then [(⟨b, o + 3, none⟩, x.b)] else []) else []
theorem argAt_vals (g o : Nat) (l : List Int) : (argAt g o l).map (·.2) = l := by
  unfold argAt
  rw [List.map_map]
  refine List.ext_getElem (by simp) fun i h1 h2 => ?_
  simp only [List.getElem_map, List.getElem_range, Function.comp]
  rw [List.getD_eq_getElem?_getD, List.getElem?_eq_getElem h2]; rfl
theorem usedAt_vals (b o ga oa : Nat) (x : PIns) : (usedAt b o ga oa x).map (·.2) = usesI x := by
  unfold usedAt usesI
  by_cases h1 : x.op = 29
  · rw [if_pos h1, if_pos h1, argAt_vals]
  · rw [if_neg h1, if_neg h1]
    by_cases h2 : x.op = 1 ∨ x.op = 25 ∨ x.op = 30
    · have : usesAB x.op = false := by unfold usesAB; rcases h2 with h | h | h <;> rw [h] <;> decide
      rw [this, if_neg (by simp), if_pos h2]; rfl
    · have h3 : usesAB x.op = true := by unfold usesAB; simp; omega
      rw [h3, if_pos rfl, if_neg h2]
      by_cases h4 : (6 ≤ x.op ∧ x.op ≤ 24) ∨ x.op = 28
      · have h5 : usesBB x.op = true := by unfold usesBB; simp; omega
        rw [if_pos h5, if_pos h4]; rfl
      · have h5 : ¬ usesBB x.op = true := by unfold usesBB; simp; omega
        rw [if_neg h5, if_neg h4]; rfl
section
variable {V : Addr × Int → Prop} {l bx n₀ b o ga oa n : Nat} {x : PIns} {va vr : Value} {J Jx : List (Addr × Int) → World → Prop} {W w0 : World}
/-- What a round gives: it goes on, or has left. -/
def RoundY (V : Addr × Int → Prop) (n l bx n₀ : Nat) (J Jx : List (Addr × Int) → World → Prop) (N : Nat) : Prop :=
  ∀ pre y W1, V y → J pre W1 → pre.length < N → YieldAt Fence.wide (n - 1) Tryd.prog l #[.pointer (some y.1)] W1 fun e W' =>
    (e = .returned (.bool true) ∧ J (pre ++ [y]) W' ∧ KeepB n₀ bx W1 W') ∨ (e = .returned (.bool false) ∧ Jx (pre ++ [y]) W')
def IterPost (L : List (Addr × Int)) (J Jx : List (Addr × Int) → World → Prop) (e : Ending) (W' : World) : Prop := (∃ v, e = .returned v) ∧ ((∃ ys, ys = L ∧ J ys W') ∨ (∃ pre, pre <+: L ∧ Jx pre W'))
theorem IterPost.all {L : List (Addr × Int)} {v : Value} {W' : World} (h : J L W') : IterPost L J Jx (.returned v) W' := ⟨⟨_, rfl⟩, .inl ⟨_, rfl, h⟩⟩
theorem IterPost.part {L pre : List (Addr × Int)} {v : Value} {W' : World} (hp : pre <+: L) (h : Jx pre W') : IterPost L J Jx (.returned v) W' := ⟨⟨_, rfl⟩, .inr ⟨_, hp, h⟩⟩
set_option maxRecDepth 100000 in
set_option maxHeartbeats 4000000 in
theorem used_two (hn : 1 ≤ n) (hV : ∀ y ∈ usedAt b o ga oa x, V y) (hY : RoundY V n l bx n₀ J Jx (usedAt b o ga oa x).length) (hbx : W.heap[bx]? = some (.cells #[.pointer (some ⟨b, o, none⟩)] 114 (0, 0))) (hW : Below n₀ w0 W) (hR : InsR w0 b o x va vr) (hb : b < n₀)
    (h29 : x.op ≠ 29) (h0 : J [] W) :
    CallsIn Fence.wide n Tryd.prog 80 #[.func (.yield l) #[] #[], .pointer (some ⟨bx, 0, none⟩)] W (IterPost (usedAt b o ga oa x) J Jx) := by
  have HC := Lib.hid (fun (W1 : World) (hk : KeepB n₀ bx W W1) => (show W1.cell? ⟨bx, 0, none⟩ = some (.pointer (some ⟨b, o, none⟩)) ∧ W1.cell? ⟨b, o, none⟩ = some (.int .i64 x.op) from
    ⟨by simp [World.cell?, hk.box, hbx], ((hW.trans hk.below).cell (p := ⟨b, o, none⟩) hb).trans hR.op⟩))
  obtain ⟨cb, co⟩ := HC.out W (KeepB.refl _ _ _)
  have hw : ∀ f : FuncId, Fence.wide.fn f := fun _ => trivial
  have HUA := Lib.hid (fun w => callsIn_wide (n := n - 1) |>.2 (usesA_any x.op w))
  have HUB := Lib.hid (fun w => callsIn_wide (n := n - 1) |>.2 (usesB_any x.op w))
  have hne : (x.op != 29) = true := by simpa using h29
  have e0 : usedAt b o ga oa x = if usesAB x.op = true then (⟨b, o + 2, none⟩, x.a) :: (if usesBB x.op = true then [(⟨b, o + 3, none⟩, x.b)] else []) else [] := by unfold usedAt; rw [if_neg h29]
  obtain ⟨L, hL⟩ : ∃ L, L = usedAt b o ga oa x := ⟨_, rfl⟩
  rw [← hL] at hY hV ⊢
  rw [← hL] at e0
  have HV := Lib.hid hV
  clear hV
  clear hR hW hbx hL
  obtain ⟨op, d, fa, fb, f, nn, args, arrs⟩ := x
  simp only at HUA HUB HC hne co e0
  cases hA : usesAB op with
  | false =>
    rw [hA] at HUA e0
    have hB : usesBB op = false := by
      unfold usesAB at hA; unfold usesBB
      simp at hA ⊢; omega
    rw [hB] at HUB
    rw [if_neg (by simp)] at e0
    subst e0
    have HJ := Lib.hid h0
    clear h29 hA hB hY h0
    refine callsIn_of_wp Tryd.func80 rfl trivial ?_ rfl
    simp only [Tryd.ntmps80, List.size_toArray, List.length_cons, List.length_nil, Nat.reduceAdd, Nat.reduceSub, Array.replicate_succ, Array.replicate_zero, List.push_toArray, List.append_toArray, List.nil_append, List.cons_append]
    gi_wp2_with (first
      | (gi_at_call 81; refine (HUA.out _).mono ?_; rintro e w1 ⟨rfl, rfl⟩)
      | (gi_at_call 82; refine (HUB.out _).mono ?_; rintro e w1 ⟨rfl, rfl⟩))
    refine bodyPost_ret (results_none rfl _ _ _) rfl ?_
    exact IterPost.all HJ.out
  | true =>
    rw [hA] at HUA e0
    rw [if_pos rfl] at e0
    have HY := Lib.hid hY
    have HE := Lib.hid e0
    obtain ⟨fn, tmps, assign, body, hy, hR⟩ := hY [] (⟨b, o + 2, none⟩, fa) W (HV.out _ (by rw [e0]; simp)) h0 (by rw [e0]; simp)
    have HRD := Lib.hid hR
    simp only [List.nil_append] at HRD
    clear h29 hA hY h0 e0 hR
    cases hB : usesBB op with
    | false =>
      rw [hB] at HUB HE
      have e1 := HE.out
      rw [if_neg (by simp)] at e1
      subst e1
      refine callsIn_of_wp Tryd.func80 rfl trivial ?_ rfl
      simp only [Tryd.ntmps80, List.size_toArray, List.length_cons, List.length_nil, Nat.reduceAdd, Nat.reduceSub, Array.replicate_succ, Array.replicate_zero, List.push_toArray, List.append_toArray, List.nil_append, List.cons_append]
      gi_wp2_with (gi_at_call 81; refine (HUA.out _).mono ?_; rintro e w1 ⟨rfl, rfl⟩)
      refine HRD.out.mono ?_
      rintro e W3 (⟨rfl, hJ3, hk3⟩ | ⟨rfl, hJx3⟩)
      · obtain ⟨cb3, co3⟩ := HC.out W3 hk3
        have HJ := Lib.hid hJ3
        clear hJ3 hk3 cb co hy
        gi_wp2_with (gi_at_call 82; refine (HUB.out _).mono ?_; rintro e w1 ⟨rfl, rfl⟩)
        refine bodyPost_ret (results_none rfl _ _ _) rfl ?_
        exact IterPost.all HJ.out
      · have HJ := Lib.hid hJx3
        clear hJx3 cb co hy
        gi_wp2
        all_goals first
          | (refine bodyPost_ret (results_none rfl _ _ _) rfl ?_; exact IterPost.part (List.prefix_refl _) HJ.out)
          | (exfalso; rename_i hq; simp [undef] at hq; done)
          | (exfalso; rename_i hq _; simp [undef] at hq; done)
          | (exfalso; rename_i hq _ _; simp [undef] at hq; done)
          | (exfalso; rename_i hq _ _ _; simp [undef] at hq; done)
          | (exfalso; rename_i hq _ _ _ _; simp [undef] at hq; done)
          | (exfalso; rename_i hq _ _ _ _ _; simp [undef] at hq; done)
          | (exfalso; rename_i hq _ _ _ _ _ _; simp [undef] at hq; done)
          | (exfalso; rename_i hq _ _ _ _ _ _ _; simp [undef] at hq; done)
    | true =>
      rw [hB] at HUB HE
      have e1 := HE.out
      rw [if_pos rfl] at e1
      subst e1
      refine callsIn_of_wp Tryd.func80 rfl trivial ?_ rfl
      simp only [Tryd.ntmps80, List.size_toArray, List.length_cons, List.length_nil, Nat.reduceAdd, Nat.reduceSub, Array.replicate_succ, Array.replicate_zero, List.push_toArray, List.append_toArray, List.nil_append, List.cons_append]
      gi_wp2_with (gi_at_call 81; refine (HUA.out _).mono ?_; rintro e w1 ⟨rfl, rfl⟩)
      refine HRD.out.mono ?_
      rintro e W3 (⟨rfl, hJ3, hk3⟩ | ⟨rfl, hJx3⟩)
      · obtain ⟨cb3, co3⟩ := HC.out W3 hk3
        obtain ⟨fn4, tmps4, assign4, body4, hy4, hR4⟩ := HY.out [(⟨b, o + 2, none⟩, fa)] (⟨b, o + 3, none⟩, fb) W3 (HV.out _ (by simp)) hJ3 (by simp)
        have HR4 := Lib.hid hR4
        have HK3 := Lib.hid hk3
        clear hJ3 hk3 cb co hy hR4
        gi_wp2_with (gi_at_call 82; refine (HUB.out _).mono ?_; rintro e w1 ⟨rfl, rfl⟩)
        refine HR4.out.mono ?_
        rintro e W5 (⟨rfl, hJ5, hk5⟩ | ⟨rfl, hJx5⟩)
        · obtain ⟨cb5, co5⟩ := HC.out W5 (HK3.out.trans hk5)
          have HJ := Lib.hid hJ5
          clear hJ5 hk5 cb3 co3 hy4
          gi_wp2
          refine bodyPost_ret (results_none rfl _ _ _) rfl ?_
          exact IterPost.all HJ.out
        · have HJ := Lib.hid hJx5
          clear hJx5 cb3 co3 hy4
          gi_wp2
          refine bodyPost_ret (results_none rfl _ _ _) rfl ?_
          exact IterPost.part (List.prefix_refl _) HJ.out
      · have HJ := Lib.hid hJx3
        clear hJx3 cb co hy
        gi_wp2
        all_goals first
          | (refine bodyPost_ret (results_none rfl _ _ _) rfl ?_; exact IterPost.part (by simp) HJ.out)
          | (exfalso; rename_i hq; simp [undef] at hq; done)
          | (exfalso; rename_i hq _; simp [undef] at hq; done)
          | (exfalso; rename_i hq _ _; simp [undef] at hq; done)
          | (exfalso; rename_i hq _ _ _; simp [undef] at hq; done)
          | (exfalso; rename_i hq _ _ _ _; simp [undef] at hq; done)
          | (exfalso; rename_i hq _ _ _ _ _; simp [undef] at hq; done)
          | (exfalso; rename_i hq _ _ _ _ _ _; simp [undef] at hq; done)
          | (exfalso; rename_i hq _ _ _ _ _ _ _; simp [undef] at hq; done)
end
end Go.Proofs.YtcijaaiopfbffaaDoor.Live
