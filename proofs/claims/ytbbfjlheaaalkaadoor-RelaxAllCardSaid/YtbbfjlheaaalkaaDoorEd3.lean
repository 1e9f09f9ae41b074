/- The document's May, at some Ops. No condition. -/
import Derived.Test.YtbbfjlheaaalkaaDoorEd0
namespace Go.Proofs.YtbbfjlheaaalkaaDoor.Enc
open Go.RowKit
set_option maxHeartbeats 16000000 in
set_option maxRecDepth 100000 in
theorem rmay_3 (op a b i : Int) (w : World) (h : op = 29 ∨ op = 4 ∨ op = 27 ∨ op = 28 ∨ op = 40) : RMay op a b i w := by
  unfold RMay cV
  have HH := Lib.hid h
  clear h
  go_enter Tryd.func15, Tryd.ntmps15
  go_upto_region 3 with (go_at_call 29; refine (rreg_any _ _).mono ?_; rintro e w2 ⟨rfl, rfl⟩)
  go_cut [5] (fun v wc => v = .bool (wide i) ∧ wc = w.alloc (.cells #[.int .i64 op, .int .i64 a, .int .i64 b, .int .i64 i] 43))
  case first =>
    go_wp2_with fail
    all_goals go_meet
    all_goals refine ⟨val_bool ?_, rfl⟩
    all_goals first | rfl | (unfold wide; first | (simp; done) | (simp; omega) | (simp_all; done) | (simp_all; omega))
  case rest =>
  obtain ⟨rfl, rfl⟩ := hcut
  go_upto_region 4 with (go_at_call 29; refine (rreg_any _ _).mono ?_; rintro e w2 ⟨rfl, rfl⟩)
  go_cut [6] (fun v wc => v = .bool (near i) ∧ wc = w.alloc (.cells #[.int .i64 op, .int .i64 a, .int .i64 b, .int .i64 i] 43))
  case first =>
    go_wp2_with fail
    all_goals go_meet
    all_goals refine ⟨val_bool ?_, rfl⟩
    all_goals first | rfl | (unfold near; first | (simp; done) | (simp; omega) | (simp_all; done) | (simp_all; omega))
  case rest =>
  obtain ⟨rfl, rfl⟩ := hcut
  have h := HH.out
  clear HH
  go_upto_region 5 with (fail)
  rcases h with rfl | rfl | rfl | rfl | rfl
  · have HR := Lib.hid (fun w => (show branchOp 29 = false by decide) ▸ rbranch_any 29 w)
    go_wp2_with (first
      | (go_at_call 29; refine (rreg_any _ _).mono ?_; rintro e w2 ⟨rfl, rfl⟩)
      | (go_at_call 30; refine (HR.out _).mono ?_; rintro e w2 ⟨rfl, rfl⟩))
    all_goals go_ret
    all_goals refine ⟨ret_bool ?_, below_one _ _⟩
    all_goals (rw [may_29]; go_light; first | rfl | (simp_all [zero]; done) | (simp_all [zero] <;> first | rfl | omega | (rw [Bool.eq_iff_iff]; simp)))
  · have HR := Lib.hid (fun w => (show branchOp 4 = false by decide) ▸ rbranch_any 4 w)
    go_wp2_with (first
      | (go_at_call 29; refine (rreg_any _ _).mono ?_; rintro e w2 ⟨rfl, rfl⟩)
      | (go_at_call 30; refine (HR.out _).mono ?_; rintro e w2 ⟨rfl, rfl⟩))
    all_goals go_ret
    all_goals refine ⟨ret_bool ?_, below_one _ _⟩
    all_goals (rw [may_4]; go_light; first | rfl | (simp_all []; done) | (simp_all [zero, trapN] <;> first | rfl | omega | (rw [Bool.eq_iff_iff]; simp)))
  · have HR := Lib.hid (fun w => (show branchOp 27 = false by decide) ▸ rbranch_any 27 w)
    go_wp2_with (first
      | (go_at_call 29; refine (rreg_any _ _).mono ?_; rintro e w2 ⟨rfl, rfl⟩)
      | (go_at_call 30; refine (HR.out _).mono ?_; rintro e w2 ⟨rfl, rfl⟩))
    all_goals go_ret
    all_goals refine ⟨ret_bool ?_, below_one _ _⟩
    all_goals (rw [may_27]; go_light; first | rfl | (simp_all []; done) | (simp_all [zero, trapN] <;> first | rfl | omega | (rw [Bool.eq_iff_iff]; simp)))
  · have HR := Lib.hid (fun w => (show branchOp 28 = false by decide) ▸ rbranch_any 28 w)
    go_wp2_with (first
      | (go_at_call 29; refine (rreg_any _ _).mono ?_; rintro e w2 ⟨rfl, rfl⟩)
      | (go_at_call 30; refine (HR.out _).mono ?_; rintro e w2 ⟨rfl, rfl⟩))
    all_goals go_ret
    all_goals refine ⟨ret_bool ?_, below_one _ _⟩
    all_goals (rw [may_28]; go_light; first | rfl | (simp_all []; done) | (simp_all [zero, trapN] <;> first | rfl | omega | (rw [Bool.eq_iff_iff]; simp)))
  · have HR := Lib.hid (fun w => (show branchOp 40 = false by decide) ▸ rbranch_any 40 w)
    go_wp2_with (first
      | (go_at_call 29; refine (rreg_any _ _).mono ?_; rintro e w2 ⟨rfl, rfl⟩)
      | (go_at_call 30; refine (HR.out _).mono ?_; rintro e w2 ⟨rfl, rfl⟩))
    all_goals go_ret
    all_goals refine ⟨ret_bool ?_, below_one _ _⟩
    all_goals (rw [may_40]; go_light; first | rfl | (simp_all [zero]; done) | (simp_all [zero, trapN] <;> first | rfl | omega | (rw [Bool.eq_iff_iff]; simp)))
end Go.Proofs.YtbbfjlheaaalkaaDoor.Enc
