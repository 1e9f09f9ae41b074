/- The program's small functions on lines: what each returns. No condition but that lists lie as they say. -/
import Derived.Test.YtmnhafncdblklaaDoorAd
import Derived.Test.YtmnhafncdblklaaDoorGE
import Derived.Deep.RegionHeld3
import Derived.Deep.DeepCutAuto
namespace Go.Proofs.YtmnhafncdblklaaDoor.Relax
open Go.RowKit Go.Proofs.YtmnhafncdblklaaDoor.Enc Go.Proofs.YtmnhafncdblklaaDoor.Graph Go.Maps

set_option maxHeartbeats 2000000 in
theorem branches_prog (n : Int) (w : World) : Calls Tryd.prog 47 #[.int .i64 n] w fun e w' => e = .returned (.bool (brB n)) ∧ w' = w := by
  go_enter Tryd.func47, Tryd.ntmps47
  go_wp2
  all_goals go_ret
  all_goals refine ⟨Relax.ret_bool ?_, rfl⟩
  all_goals (rw [Bool.eq_iff_iff]; simp_all [brB] <;> omega)
set_option maxHeartbeats 2000000 in
theorem isLabel_prog (n : Int) (w : World) : Calls Tryd.prog 71 #[.int .i64 n] w fun e w' => e = .returned (.bool (labelB n)) ∧ w' = w := by
  go_enter Tryd.func71, Tryd.ntmps71
  go_wp2
  all_goals go_ret
  all_goals refine ⟨Relax.ret_bool ?_, rfl⟩
  all_goals (rw [Bool.eq_iff_iff]; simp_all [labelB] <;> omega)
set_option maxHeartbeats 2000000 in
theorem near_prog (n : Int) (w : World) : Calls Tryd.prog 63 #[.int .i64 n] w fun e w' => e = .returned (.bool (nearB n)) ∧ w' = w := by
  go_enter Tryd.func63, Tryd.ntmps63
  go_wp2
  all_goals go_ret
  all_goals refine ⟨Relax.ret_bool ?_, rfl⟩
  all_goals (rw [Bool.eq_iff_iff]; simp_all [nearB] <;> omega)
set_option maxHeartbeats 2000000 in
theorem leads_prog (n : Int) (w : World) : Calls Tryd.prog 62 #[.int .i64 n] w fun e w' => e = .returned (.bool (leadB n)) ∧ w' = w := by
  obtain ⟨br, hbr⟩ : ∃ br, brB n = br := ⟨_, rfl⟩
  have HB := Lib.hid (fun w => hbr ▸ branches_prog n w)
  have HE := Lib.hid hbr
  clear hbr
  cases br
  all_goals
    go_enter Tryd.func62, Tryd.ntmps62
    go_wp2_with (go_at_call 47; refine (HB.out _).mono ?_; rintro e w2 ⟨rfl, rfl⟩)
    all_goals go_ret
    all_goals refine ⟨Relax.ret_bool ?_, rfl⟩
    all_goals (have hE := HE.out; clear HE HB; unfold leadB; simp_all)
set_option maxHeartbeats 2000000 in
theorem other_prog (n : Int) (h : 30 ≤ n ∧ n ≤ 39) (w : World) : Calls Tryd.prog 65 #[.int .i64 n] w fun e w' => e = .returned (.int .i64 (otherP n)) ∧ w' = w := by
  have h : n = 30 ∨ n = 31 ∨ n = 32 ∨ n = 33 ∨ n = 34 ∨ n = 35 ∨ n = 36 ∨ n = 37 ∨ n = 38 ∨ n = 39 := by omega
  rcases h with rfl | rfl | rfl | rfl | rfl | rfl | rfl | rfl | rfl | rfl
  all_goals
    go_enter Tryd.func65, Tryd.ntmps65
    go_wp2
    go_ret
    exact ⟨by kernel_rfl, rfl⟩
set_option maxHeartbeats 2000000 in
theorem codeOf_prog (x : PL) (p : Option Addr) (n c : Nat) (w : World) : Calls Tryd.prog 51 #[lineV x p n c] w fun e w' => e = .returned (cV (codeOf x)) ∧ Below w.heap.size w w' := by
  obtain ⟨op, a, b, imm, nn, label, list⟩ := x
  unfold lineV codeOf cV
  go_enter Tryd.func51, Tryd.ntmps51
  go_wp2
  refine bodyPost_ret (v := .agg #[.int .i64 op, .int .i64 a, .int .i64 b, .int .i64 imm]) ?_ rfl ⟨rfl, (below_one _ _).alloc (by simp) _⟩
  simp [results, Tryd.results51, go_sem]
set_option maxHeartbeats 2000000 in
theorem labelFits_prog (x : PL) (p : Option Addr) (n c : Nat) (w : World) : Calls Tryd.prog 60 #[lineV x p n c] w fun e w' => e = .returned (.bool (labelFitsB x)) ∧ Below w.heap.size w w' := by
  obtain ⟨op, a, b, imm, nn, label, list⟩ := x
  obtain ⟨br, hbr⟩ : ∃ br, leadB op = br := ⟨_, rfl⟩
  obtain ⟨lb, hlb⟩ : ∃ lb, labelB label = lb := ⟨_, rfl⟩
  have HB := Lib.hid (fun w => hbr ▸ leads_prog op w)
  have HL := Lib.hid (fun w => hlb ▸ isLabel_prog label w)
  have HE := Lib.hid hbr
  have HF := Lib.hid hlb
  clear hbr hlb
  unfold lineV
  by_cases h0 : op = 0
  · subst h0
    go_enter Tryd.func60, Tryd.ntmps60
    go_wp2_with (go_at_call 71; refine (HL.out _).mono ?_; rintro e w2 ⟨rfl, rfl⟩)
    go_ret
    exact ⟨Relax.ret_bool (by unfold labelFitsB; rw [if_pos (.inl rfl)]; exact HF.out.symm), below_one _ _⟩
  · have e1 : (op == 0) = false := by simpa using h0
    cases br
    · have HG := Lib.hid (show labelFitsB ⟨op, a, b, imm, nn, label, list⟩ = (label == 0) by
        unfold labelFitsB; rw [if_neg (by rw [HE.out]; simp [h0])])
      clear h0
      go_enter Tryd.func60, Tryd.ntmps60
      go_wp2_with (go_at_call 62; refine (HB.out _).mono ?_; rintro e w2 ⟨rfl, rfl⟩)
      go_ret
      exact ⟨Relax.ret_bool (by rw [HG.out]), below_one _ _⟩
    · have HG := Lib.hid (show labelFitsB ⟨op, a, b, imm, nn, label, list⟩ = lb by
        unfold labelFitsB; rw [if_pos (.inr HE.out)]; exact HF.out)
      clear h0
      go_enter Tryd.func60, Tryd.ntmps60
      go_wp2_with (first | (go_at_call 62; refine (HB.out _).mono ?_; rintro e w2 ⟨rfl, rfl⟩) | (go_at_call 71; refine (HL.out _).mono ?_; rintro e w2 ⟨rfl, rfl⟩))
      go_ret
      exact ⟨Relax.ret_bool (by rw [HG.out]), below_one _ _⟩
end Go.Proofs.YtmnhafncdblklaaDoor.Relax
