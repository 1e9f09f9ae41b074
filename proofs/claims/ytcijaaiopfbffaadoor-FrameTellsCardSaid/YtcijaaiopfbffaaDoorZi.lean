/- The temps that a call uses; those of an end: what temps.Used and UsedByEnd give a loop. No condition. -/
import Derived.Test.YtcijaaiopfbffaaDoorZh
namespace Go.Proofs.YtcijaaiopfbffaaDoor.Live
open Go.RowKit Go.Proofs.YtcijaaiopfbffaaDoor.Graph Go.Shelf

theorem argAt_len (g o : Nat) (l : List Int) : (argAt g o l).length = l.length := by unfold argAt; simp
theorem argAt_at {g o : Nat} {l : List Int} {k : Nat} (hk : k < l.length) : (argAt g o l)[k]? = some (⟨g, o + k, none⟩, l.getD k 0) := by
  unfold argAt
  rw [List.getElem?_map, List.getElem?_range hk]; rfl
theorem take_next {α : Type} {l : List α} {k : Nat} {x : α} (h : l[k]? = some x) : l.take (k + 1) = l.take k ++ [x] := by
  rw [List.take_add_one, h]; rfl
section
variable {V : Addr × Int → Prop} {l bx n₀ b o ga oa n : Nat} {x : PIns} {va vr : Value} {J Jx : List (Addr × Int) → World → Prop} {W w0 : World}
set_option maxRecDepth 100000 in
set_option maxHeartbeats 4000000 in
theorem used_args (hn : 1 ≤ n) (hV : ∀ y ∈ argAt ga oa x.args, V y) (hY : RoundY V n l bx n₀ J Jx (argAt ga oa x.args).length) (hbx : W.heap[bx]? = some (.cells #[.pointer (some ⟨b, o, none⟩)] 114 (0, 0))) (hW : Below n₀ w0 W) (hR : InsR w0 b o x va vr) (hb : b < n₀)
    (h29 : x.op = 29) (c : Nat) (p : Option Addr) (hva : va = .slice p x.args.length c) (hp : 0 < x.args.length → p = some ⟨ga, oa, none⟩ ∧ x.args.length ≤ c) (hc : x.args.length ≤ 9223372036854775807) (h0 : J [] W) :
    CallsIn Fence.wide n Tryd.prog 80 #[.func (.yield l) #[] #[], .pointer (some ⟨bx, 0, none⟩)] W (IterPost (argAt ga oa x.args) J Jx) := by
  have HC := Lib.hid (fun (W1 : World) (hk : KeepB n₀ bx W W1) => (show W1.cell? ⟨bx, 0, none⟩ = some (.pointer (some ⟨b, o, none⟩)) ∧ W1.cell? ⟨b, o, none⟩ = some (.int .i64 29) ∧ W1.cell? ⟨b, o + 6, none⟩ = some (.slice p x.args.length c) from
    ⟨by simp [World.cell?, hk.box, hbx], ((hW.trans hk.below).cell (p := ⟨b, o, none⟩) hb).trans (hR.op.trans (by rw [h29])), ((hW.trans hk.below).cell (p := ⟨b, o + 6, none⟩) hb).trans (hR.ca.trans (by rw [hva]))⟩))
  obtain ⟨cb, co, ca⟩ := HC.out W (KeepB.refl _ _ _)
  have hw : ∀ f : FuncId, Fence.wide.fn f := fun _ => trivial
  have hA : usesAB 29 = false := by decide
  have hB : usesBB 29 = false := by decide
  have HUA := Lib.hid (fun w => callsIn_wide (n := n - 1) |>.2 (usesA_any 29 w))
  have HUB := Lib.hid (fun w => callsIn_wide (n := n - 1) |>.2 (usesB_any 29 w))
  rw [hA] at HUA
  rw [hB] at HUB
  have hlen := argAt_len ga oa x.args
  have HAT := Lib.hid (fun k (hk : k < x.args.length) => argAt_at (g := ga) (o := oa) hk)
  obtain ⟨L, hL⟩ : ∃ L, L = argAt ga oa x.args := ⟨_, rfl⟩
  rw [← hL] at hY hlen HAT hV ⊢
  have HV := Lib.hid hV
  clear hV
  clear hR hW hbx hL hA hB hva h29
  generalize x.args = args at *
  generalize hm : args.length = m at *
  have HY := Lib.hid hY
  have HP := Lib.hid hp
  have HJ0 := Lib.hid h0
  have HL := Lib.hid hlen
  clear hm hY hp h0 hlen
  refine callsIn_of_wp Tryd.func80 rfl trivial ?_ rfl
  simp only [Tryd.ntmps80, List.size_toArray, List.length_cons, List.length_nil, Nat.reduceAdd, Nat.reduceSub, Array.replicate_succ, Array.replicate_zero, List.push_toArray, List.append_toArray, List.nil_append, List.cons_append]
  gi_wp2_with (first
    | (gi_at_call 81; refine (HUA.out _).mono ?_; rintro e w1 ⟨rfl, rfl⟩)
    | (gi_at_call 82; refine (HUB.out _).mono ?_; rintro e w1 ⟨rfl, rfl⟩))
  clear cb co ca
  gi_loopw [44] (fun i wr => ∃ k : Nat, i = .int .i64 k ∧ k ≤ m ∧ Hid (J (L.take k) wr) ∧ Hid (KeepB n₀ bx w1 wr)) (fun i _ => m - (intOf i).toNat)
  case atStart => exact ⟨0, rfl, Nat.zero_le _, HJ0, Lib.hid (KeepB.refl _ _ _)⟩
  case round =>
    obtain ⟨k, rfl, hk, HJ, HK⟩ := hrel
    by_cases hkm : k < m
    · have hki : (k : Int) < m := by omega
      have hk0 : (0 : Int) ≤ k := by omega
      obtain ⟨cb, co, ca⟩ := HC.out _ HK.out
      obtain ⟨rfl, hmc⟩ := HP.out (by omega)
      have hat := HAT.out k hkm
      have HN := Lib.hid (take_next hat)
      obtain ⟨fn, tmps, assign, body, hy, hR⟩ := HY.out (L.take k) _ wr (HV.out _ (List.mem_of_getElem? hat)) HJ.out (by rw [List.length_take]; have := HL.out; omega)
      have HR := Lib.hid hR
      rw [← HN.out] at HR
      have HLE : Hid (L.take (k + 1) <+: L) := Lib.hid (List.take_prefix _ _)
      clear hat hR
      gi_wp2
      refine HR.out.mono ?_
      rintro e W3 (⟨rfl, hJ3, hk3⟩ | ⟨rfl, hJx3⟩)
      · have HJ3 := Lib.hid hJ3
        have HK3 := Lib.hid (HK.out.trans hk3)
        clear hJ3 hk3 hy cb co ca
        gi_wp2
        go_roundw
        case rel => exact ⟨k + 1, by rw [show ((k + 1 : Nat) : Int) = (k : Int) + 1 by omega], by omega, HJ3, HK3⟩
        case measure => simp [intOf]; omega
      · have HJ3 := Lib.hid hJx3
        clear hJx3 hy cb co ca
        gi_wp2
        refine bodyPost_ret (results_none rfl _ _ _) rfl ?_
        exact IterPost.part HLE.out HJ3.out
    · have hkk : k = m := by omega
      subst hkk
      have hki : ¬ ((k : Int) < k) := by omega
      have HJ3 : Hid (J L wr) := Lib.hid (by have := HJ.out; rwa [List.take_of_length_le (by have := HL.out; omega)] at this)
      gi_wp2
      first
        | (go_end0; exact IterPost.all HJ3.out)
        | (refine bodyPost_ret (results_none rfl _ _ _) rfl ?_; exact IterPost.all HJ3.out)
end
end Go.Proofs.YtcijaaiopfbffaaDoor.Live
