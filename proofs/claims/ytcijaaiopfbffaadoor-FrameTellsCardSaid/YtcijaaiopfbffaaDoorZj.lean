/- The temps that an end uses: what temps.UsedByEnd gives a loop. No condition. -/
import Derived.Test.YtcijaaiopfbffaaDoorZi
namespace Go.Proofs.YtcijaaiopfbffaaDoor.Live
open Go.RowKit Go.Proofs.YtcijaaiopfbffaaDoor.Graph Go.Shelf

def usedEAt (b o : Nat) (x : PEnd) : List (Addr × Int) := (if endAB x = true then [(⟨b, o + 2, none⟩, x.a)] else []) ++ (if x.kind = 2 then [(⟨b, o + 3, none⟩, x.b)] else [])
theorem usedEAt_vals (b o : Nat) (x : PEnd) : (usedEAt b o x).map (·.2) = usesE x := by
  unfold usedEAt usesE endAB
  rw [List.map_append]
  congr 1
  · by_cases h1 : x.kind = 1
    · rw [if_pos h1, if_neg (by simp), if_pos (.inl h1)]; rfl
    · rw [if_neg h1]
      by_cases h5 : x.kind = 5
      · rw [if_pos h5]
        by_cases ha : x.a = -1
        · rw [if_neg (by simp [ha]), if_pos (.inr ⟨h5, ha⟩)]; rfl
        · rw [if_pos (by simpa using ha), if_neg (by rintro (h | ⟨_, h⟩); exact h1 h; exact ha h)]; rfl
      · rw [if_neg h5, if_pos rfl, if_neg (by rintro (h | ⟨h, _⟩); exact h1 h; exact h5 h)]; rfl
  · split <;> rfl
section
variable {V : Addr × Int → Prop} {l bx n₀ b o n : Nat} {x : PEnd} {vc vt : Value} {J Jx : List (Addr × Int) → World → Prop} {W w0 : World}
set_option maxRecDepth 100000 in
set_option maxHeartbeats 4000000 in
theorem used_end (hn : 1 ≤ n) (hV : ∀ y ∈ usedEAt b o x, V y) (hY : RoundY V n l bx n₀ J Jx (usedEAt b o x).length) (hbx : W.heap[bx]? = some (.cells #[.pointer (some ⟨b, o, none⟩)] 123 (0, 0))) (hz : w0.heap.size = n₀) (hW : Below n₀ w0 W) (hR : EndR w0 b o x vc vt) (hb : b < n₀)
    (h0 : J [] W) :
    CallsIn Fence.wide n Tryd.prog 83 #[.func (.yield l) #[] #[], .pointer (some ⟨bx, 0, none⟩)] W (IterPost (usedEAt b o x) J Jx) := by
  have HC := Lib.hid (fun (W1 : World) (hk : KeepB n₀ bx W W1) => (show W1.cell? ⟨bx, 0, none⟩ = some (.pointer (some ⟨b, o, none⟩)) ∧ W1.cell? ⟨b, o, none⟩ = some (.int .i64 x.kind) from
    ⟨by simp [World.cell?, hk.box, hbx], ((hW.trans hk.below).cell (p := ⟨b, o, none⟩) hb).trans hR.kind⟩))
  obtain ⟨cb, co⟩ := HC.out W (KeepB.refl _ _ _)
  have hw : ∀ f : FuncId, Fence.wide.fn f := fun _ => trivial
  have HUA := Lib.hid (callsIn_wide (n := n - 1) |>.2 (endA_any x b o vc vt W (hR.below (by omega) (by rw [hz]; exact hW))))
  have e0 : usedEAt b o x = (if endAB x = true then [(⟨b, o + 2, none⟩, x.a)] else []) ++ (if x.kind = 2 then [(⟨b, o + 3, none⟩, x.b)] else []) := rfl
  have hk12 : endAB x = false → x.kind ≠ 2 := fun h e => by unfold endAB at h; rw [e] at h; simp at h
  obtain ⟨L, hL⟩ : ∃ L, L = usedEAt b o x := ⟨_, rfl⟩
  rw [← hL] at hY hV ⊢
  rw [← hL] at e0
  have HV := Lib.hid hV
  clear hV
  clear hR hW hbx hL
  generalize endAB x = q at *
  obtain ⟨kind, op, fa, fb, nn, t, els, cs, ts⟩ := x
  simp only at HC co e0 hk12
  cases q with
  | false =>
    have hk2 := hk12 rfl
    have hk3 : (kind == 2) = false := by simpa using hk2
    rw [if_neg (by simp), if_neg hk2] at e0
    rw [List.nil_append] at e0
    subst e0
    have HJ := Lib.hid h0
    clear hY h0 hk12 hk2
    refine callsIn_of_wp Tryd.func83 rfl trivial ?_ rfl
    simp only [Tryd.ntmps83, List.size_toArray, List.length_cons, List.length_nil, Nat.reduceAdd, Nat.reduceSub, Array.replicate_succ, Array.replicate_zero, List.push_toArray, List.append_toArray, List.nil_append, List.cons_append]
    gi_wp2_with (gi_at_call 84; refine HUA.out.mono ?_; rintro e w1 ⟨rfl, rfl⟩)
    first
      | (go_end0; exact IterPost.all HJ.out)
      | (refine bodyPost_ret (results_none rfl _ _ _) rfl ?_; exact IterPost.all HJ.out)
  | true =>
    rw [if_pos rfl] at e0
    have HY := Lib.hid hY
    have HE := Lib.hid e0
    obtain ⟨fn, tmps, assign, body, hy, hR⟩ := hY [] (⟨b, o + 2, none⟩, fa) W (HV.out _ (by rw [e0]; simp)) h0 (by rw [e0]; simp)
    have HRD := Lib.hid hR
    simp only [List.nil_append] at HRD
    clear hY h0 e0 hR hk12
    by_cases hk2 : kind = 2
    · have hk3 : (kind == 2) = true := by simpa using hk2
      have e1 := HE.out
      rw [if_pos hk2] at e1
      subst e1
      clear hk2 HE
      refine callsIn_of_wp Tryd.func83 rfl trivial ?_ rfl
      simp only [Tryd.ntmps83, List.size_toArray, List.length_cons, List.length_nil, Nat.reduceAdd, Nat.reduceSub, Array.replicate_succ, Array.replicate_zero, List.push_toArray, List.append_toArray, List.nil_append, List.cons_append]
      gi_wp2_with (gi_at_call 84; refine HUA.out.mono ?_; rintro e w1 ⟨rfl, rfl⟩)
      refine HRD.out.mono ?_
      rintro e W3 (⟨rfl, hJ3, hk3'⟩ | ⟨rfl, hJx3⟩)
      · obtain ⟨cb3, co3⟩ := HC.out W3 hk3'
        obtain ⟨fn4, tmps4, assign4, body4, hy4, hR4⟩ := HY.out [(⟨b, o + 2, none⟩, fa)] (⟨b, o + 3, none⟩, fb) W3 (HV.out _ (by simp)) hJ3 (by simp)
        have HR4 := Lib.hid hR4
        clear hJ3 hk3' cb co hy hR4
        gi_wp2
        refine HR4.out.mono ?_
        rintro e W5 (⟨rfl, hJ5, hk5⟩ | ⟨rfl, hJx5⟩)
        · have HJ := Lib.hid hJ5
          clear hJ5 hk5 cb3 co3 hy4
          gi_wp2
          first
            | (go_end0; exact IterPost.all HJ.out)
            | (refine bodyPost_ret (results_none rfl _ _ _) rfl ?_; exact IterPost.all HJ.out)
        · have HJ := Lib.hid hJx5
          clear hJx5 cb3 co3 hy4
          gi_wp2
          first
            | (go_end0; exact IterPost.part (List.prefix_refl _) HJ.out)
            | (refine bodyPost_ret (results_none rfl _ _ _) rfl ?_; exact IterPost.part (List.prefix_refl _) HJ.out)
      · have HJ := Lib.hid hJx3
        clear hJx3 cb co hy
        gi_wp2
        refine bodyPost_ret (results_none rfl _ _ _) rfl ?_
        exact IterPost.part (by simp) HJ.out
    · have hk3 : (kind == 2) = false := by simpa using hk2
      have e1 := HE.out
      rw [if_neg hk2, List.append_nil] at e1
      subst e1
      clear hk2 HE
      refine callsIn_of_wp Tryd.func83 rfl trivial ?_ rfl
      simp only [Tryd.ntmps83, List.size_toArray, List.length_cons, List.length_nil, Nat.reduceAdd, Nat.reduceSub, Array.replicate_succ, Array.replicate_zero, List.push_toArray, List.append_toArray, List.nil_append, List.cons_append]
      gi_wp2_with (gi_at_call 84; refine HUA.out.mono ?_; rintro e w1 ⟨rfl, rfl⟩)
      refine HRD.out.mono ?_
      rintro e W3 (⟨rfl, hJ3, hk3'⟩ | ⟨rfl, hJx3⟩)
      · obtain ⟨cb3, co3⟩ := HC.out W3 hk3'
        have HJ := Lib.hid hJ3
        clear hJ3 hk3' cb co hy
        gi_wp2
        first
          | (go_end0; exact IterPost.all HJ.out)
          | (refine bodyPost_ret (results_none rfl _ _ _) rfl ?_; exact IterPost.all HJ.out)
      · have HJ := Lib.hid hJx3
        clear hJx3 cb co hy
        gi_wp2
        refine bodyPost_ret (results_none rfl _ _ _) rfl ?_
        exact IterPost.part (by simp) HJ.out
end
/-- Lists of those that hold. -/
def onS {V : Addr × Int → Prop} (J : List {y // V y} → World → Prop) (pre : List (Addr × Int)) (W : World) : Prop := ∃ p : List {y // V y}, p.map (·.val) = pre ∧ J p W
theorem round_on {V : Addr × Int → Prop} {n l bx n₀ N : Nat} {J Jx : List {y // V y} → World → Prop}
    (hY : ∀ pre x W1, J pre W1 → pre.length < N → YieldAt Fence.wide (n - 1) Tryd.prog l #[.pointer (some x.val.1)] W1 fun e W' => (e = .returned (.bool true) ∧ J (pre ++ [x]) W' ∧ KeepB n₀ bx W1 W') ∨ (e = .returned (.bool false) ∧ Jx (pre ++ [x]) W')) :
    RoundY V n l bx n₀ (onS J) (onS Jx) N := by
  rintro pre y W1 hv ⟨p, rfl, hJ⟩ hl
  obtain ⟨fn, tmps, assign, body, hy, hR⟩ := hY p ⟨y, hv⟩ W1 hJ (by rw [List.length_map] at hl; exact hl)
  refine ⟨fn, tmps, assign, body, hy, hR.mono fun e W' h => ?_⟩
  rcases h with ⟨h1, h2, h3⟩ | ⟨h1, h2⟩
  · exact .inl ⟨h1, ⟨_, by simp, h2⟩, h3⟩
  · exact .inr ⟨h1, _, by simp, h2⟩
theorem post_on {V : Addr × Int → Prop} {L : List (Addr × Int)} {J Jx : List {y // V y} → World → Prop} {e : Ending} {W' : World} (h : IterPost L (onS J) (onS Jx) e W') :
    (∃ v, e = .returned v) ∧ ((∃ xs : List {y // V y}, xs.map (·.val) = L ∧ J xs W') ∨ (∃ pre : List {y // V y}, pre.map (·.val) <+: L ∧ Jx pre W')) := by
  obtain ⟨h1, ⟨ys, rfl, p, h3, h4⟩ | ⟨pre, h2, p, rfl, h4⟩⟩ := h
  · exact ⟨h1, .inl ⟨p, h3, h4⟩⟩
  · exact ⟨h1, .inr ⟨p, h2, h4⟩⟩
/-- Both, as the loops want them. -/
theorem used_stops {V : Addr × Int → Prop} {n₀ b o ga oa n bx : Nat} {x : PIns} {va vr : Value} {w w0 : World} (hn : 1 ≤ n) (hbx : w.heap[bx]? = some (.cells #[.pointer (some ⟨b, o, none⟩)] 114 (0, 0))) (hW : Below n₀ w0 w) (hR : InsR w0 b o x va vr) (hb : b < n₀) (hz : n₀ ≤ w0.heap.size)
    (hV : ∀ y ∈ usedAt b o ga oa x, V y) (c : Nat) (p : Option Addr) (hva : va = .slice p x.args.length c) (hp : 0 < x.args.length → p = some ⟨ga, oa, none⟩ ∧ x.args.length ≤ c) (hc : x.args.length ≤ 9223372036854775807) :
    SeqStopsK Fence.wide n Tryd.prog 80 #[.pointer (some ⟨bx, 0, none⟩)] (fun y : {y // V y} => #[Value.pointer (some y.val.1)]) (KeepB n₀ bx) (fun ys => ys.map (·.val) = usedAt b o ga oa x) (fun pre => pre.map (·.val) <+: usedAt b o ga oa x) (usedAt b o ga oa x).length w := by
  intro l J Jx W hb2 _ _ hY h0
  have hbx2 := (hb2.block bx (Array.getElem?_eq_some_iff.1 hbx).1).trans hbx
  have hW2 : Below n₀ w0 W := hW.trans (hb2.mono (by have := hW.size; omega))
  have h0' : onS J [] W := ⟨[], rfl, h0⟩
  by_cases h29 : x.op = 29
  · have e : usedAt b o ga oa x = argAt ga oa x.args := by unfold usedAt; rw [if_pos h29]
    rw [e] at hY hV ⊢
    exact (used_args hn hV (round_on hY) hbx2 hW2 hR hb h29 c p hva hp hc h0').mono fun e W' h => post_on h
  · exact (used_two hn hV (round_on hY) hbx2 hW2 hR hb h29 h0').mono fun e W' h => post_on h
theorem end_stops {V : Addr × Int → Prop} {n₀ b o n bx : Nat} {x : PEnd} {vc vt : Value} {w w0 : World} (hn : 1 ≤ n) (hbx : w.heap[bx]? = some (.cells #[.pointer (some ⟨b, o, none⟩)] 123 (0, 0))) (hz : w0.heap.size = n₀) (hW : Below n₀ w0 w) (hR : EndR w0 b o x vc vt) (hb : b < n₀)
    (hV : ∀ y ∈ usedEAt b o x, V y) :
    SeqStopsK Fence.wide n Tryd.prog 83 #[.pointer (some ⟨bx, 0, none⟩)] (fun y : {y // V y} => #[Value.pointer (some y.val.1)]) (KeepB n₀ bx) (fun ys => ys.map (·.val) = usedEAt b o x) (fun pre => pre.map (·.val) <+: usedEAt b o x) (usedEAt b o x).length w := by
  intro l J Jx W hb2 _ _ hY h0
  have hbx2 := (hb2.block bx (Array.getElem?_eq_some_iff.1 hbx).1).trans hbx
  have hW2 : Below n₀ w0 W := hW.trans (hb2.mono (by have := hW.size; omega))
  exact (used_end hn hV (round_on hY) hbx2 hz hW2 hR hb ⟨[], rfl, h0⟩).mono fun e W' h => post_on h
set_option maxHeartbeats 1000000 in
theorem used_in (n : Nat) (p : Addr) (w : World) :
    CallsIn Fence.wide n Tryd.prog 67 #[.pointer (some p)] w fun e w' => e = .returned (.func (.func 80) #[] #[.pointer (some ⟨w.heap.size, 0, none⟩)]) ∧ w' = w.alloc (.cells #[.pointer (some p)] 114) := by
  refine callsIn_of_wp Tryd.func67 rfl trivial ?_ rfl
  simp only [Tryd.ntmps67, List.size_toArray, List.length_cons, List.length_nil, Nat.reduceAdd, Nat.reduceSub, Array.replicate_succ, Array.replicate_zero, List.push_toArray, List.append_toArray, List.nil_append, List.cons_append]
  gi_wp2
  go_ret
  exact ⟨rfl, rfl⟩
set_option maxHeartbeats 1000000 in
theorem usedE_in (n : Nat) (p : Addr) (w : World) :
    CallsIn Fence.wide n Tryd.prog 68 #[.pointer (some p)] w fun e w' => e = .returned (.func (.func 83) #[] #[.pointer (some ⟨w.heap.size, 0, none⟩)]) ∧ w' = w.alloc (.cells #[.pointer (some p)] 123) := by
  refine callsIn_of_wp Tryd.func68 rfl trivial ?_ rfl
  simp only [Tryd.ntmps68, List.size_toArray, List.length_cons, List.length_nil, Nat.reduceAdd, Nat.reduceSub, Array.replicate_succ, Array.replicate_zero, List.push_toArray, List.append_toArray, List.nil_append, List.cons_append]
  gi_wp2
  go_ret
  exact ⟨rfl, rfl⟩
end Go.Proofs.YtcijaaiopfbffaaDoor.Live
