/- The document's May, at what is no Op. No condition. -/
import Derived.Test.YtbbfjlheaaalkaaDoorEd0
namespace Go.Proofs.YtbbfjlheaaalkaaDoor.Enc
open Go.RowKit
set_option maxHeartbeats 16000000 in
set_option maxRecDepth 100000 in
theorem rmay_lo (op a b i : Int) (w : World) (h : op < 1) : RMay op a b i w := by
  unfold RMay cV
  have HH := Lib.hid h
  clear h
  go_enter Tryd.func15, Tryd.ntmps15
  go_upto_region 3 with (go_at_call 29; refine (rreg_any _ _).mono ?_; rintro e w2 ⟨rfl, rfl⟩)
  go_cut [5] (fun v wc => v = .bool (wide i) ∧ wc = w.alloc (.cells #[.int .i64 op, .int .i64 a, .int .i64 b, .int .i64 i] 43))
  case first =>
    go_wp2_with fail
    all_goals go_meet
    all_goals refine ⟨val_bool ?_, rfl⟩
    all_goals first | rfl | (unfold wide; first | (simp; done) | (simp; omega) | (simp_all; done) | (simp_all; omega))
  case rest =>
  obtain ⟨rfl, rfl⟩ := hcut
  go_upto_region 4 with (go_at_call 29; refine (rreg_any _ _).mono ?_; rintro e w2 ⟨rfl, rfl⟩)
  go_cut [6] (fun v wc => v = .bool (near i) ∧ wc = w.alloc (.cells #[.int .i64 op, .int .i64 a, .int .i64 b, .int .i64 i] 43))
  case first =>
    go_wp2_with fail
    all_goals go_meet
    all_goals refine ⟨val_bool ?_, rfl⟩
    all_goals first | rfl | (unfold near; first | (simp; done) | (simp; omega) | (simp_all; done) | (simp_all; omega))
  case rest =>
  obtain ⟨rfl, rfl⟩ := hcut
  have h := HH.out
  clear HH
  go_upto_region 5 with (fail)
  have h1 := h
  clear h
  have e1 : (op == 1) = false := by first | (simp; done) | (simp; omega)
  have e2 : (op == 2) = false := by first | (simp; done) | (simp; omega)
  have e42 : (op == 42) = false := by first | (simp; done) | (simp; omega)
  have e45 : (op == 45) = false := by first | (simp; done) | (simp; omega)
  have e46 : (op == 46) = false := by first | (simp; done) | (simp; omega)
  have e47 : (op == 47) = false := by first | (simp; done) | (simp; omega)
  have e3 : (op == 3) = false := by first | (simp; done) | (simp; omega)
  have e24 : (op == 24) = false := by first | (simp; done) | (simp; omega)
  have e25 : (op == 25) = false := by first | (simp; done) | (simp; omega)
  have e26 : (op == 26) = false := by first | (simp; done) | (simp; omega)
  have e29 : (op == 29) = false := by first | (simp; done) | (simp; omega)
  have e4 : (op == 4) = false := by first | (simp; done) | (simp; omega)
  have e27 : (op == 27) = false := by first | (simp; done) | (simp; omega)
  have e28 : (op == 28) = false := by first | (simp; done) | (simp; omega)
  have e40 : (op == 40) = false := by first | (simp; done) | (simp; omega)
  have e41 : (op == 41) = false := by first | (simp; done) | (simp; omega)
  have e43 : (op == 43) = false := by first | (simp; done) | (simp; omega)
  have e44 : (op == 44) = false := by first | (simp; done) | (simp; omega)
  have e48 : (op == 48) = false := by first | (simp; done) | (simp; omega)
  have g5 : decide (op < 5) = true := by first | (simp; done) | (simp; omega)
  have g5b : decide (5 ≤ op) = false := by first | (simp; done) | (simp; omega)
  have l23 : decide (op ≤ 23) = true := by first | (simp; done) | (simp; omega)
  have l23b : decide (23 < op) = false := by first | (simp; done) | (simp; omega)
  have hb : branchOp op = false := by unfold branchOp; first | (simp; done) | (simp; omega)
  have HR := Lib.hid (fun w => hb ▸ rbranch_any op w)
  have HL := Lib.hid (may_lo op a b i h1)
  clear hb
  go_wp2_with (first
    | (go_at_call 29; refine (rreg_any _ _).mono ?_; rintro e w2 ⟨rfl, rfl⟩)
    | (go_at_call 30; refine (HR.out _).mono ?_; rintro e w2 ⟨rfl, rfl⟩))
  all_goals go_ret
  all_goals refine ⟨ret_bool ?_, below_one _ _⟩
  all_goals first | (rw [HL.out]; done) | (rw [HL.out]; go_light; first | rfl | (simp_all; done))
set_option maxHeartbeats 16000000 in
set_option maxRecDepth 100000 in
theorem rmay_hi (op a b i : Int) (w : World) (h : 48 < op) : RMay op a b i w := by
  unfold RMay cV
  have HH := Lib.hid h
  clear h
  go_enter Tryd.func15, Tryd.ntmps15
  go_upto_region 3 with (go_at_call 29; refine (rreg_any _ _).mono ?_; rintro e w2 ⟨rfl, rfl⟩)
  go_cut [5] (fun v wc => v = .bool (wide i) ∧ wc = w.alloc (.cells #[.int .i64 op, .int .i64 a, .int .i64 b, .int .i64 i] 43))
  case first =>
    go_wp2_with fail
    all_goals go_meet
    all_goals refine ⟨val_bool ?_, rfl⟩
    all_goals first | rfl | (unfold wide; first | (simp; done) | (simp; omega) | (simp_all; done) | (simp_all; omega))
  case rest =>
  obtain ⟨rfl, rfl⟩ := hcut
  go_upto_region 4 with (go_at_call 29; refine (rreg_any _ _).mono ?_; rintro e w2 ⟨rfl, rfl⟩)
  go_cut [6] (fun v wc => v = .bool (near i) ∧ wc = w.alloc (.cells #[.int .i64 op, .int .i64 a, .int .i64 b, .int .i64 i] 43))
  case first =>
    go_wp2_with fail
    all_goals go_meet
    all_goals refine ⟨val_bool ?_, rfl⟩
    all_goals first | rfl | (unfold near; first | (simp; done) | (simp; omega) | (simp_all; done) | (simp_all; omega))
  case rest =>
  obtain ⟨rfl, rfl⟩ := hcut
  have h := HH.out
  clear HH
  go_upto_region 5 with (fail)
  have h1 := h
  clear h
  have e1 : (op == 1) = false := by first | (simp; done) | (simp; omega)
  have e2 : (op == 2) = false := by first | (simp; done) | (simp; omega)
  have e42 : (op == 42) = false := by first | (simp; done) | (simp; omega)
  have e45 : (op == 45) = false := by first | (simp; done) | (simp; omega)
  have e46 : (op == 46) = false := by first | (simp; done) | (simp; omega)
  have e47 : (op == 47) = false := by first | (simp; done) | (simp; omega)
  have e3 : (op == 3) = false := by first | (simp; done) | (simp; omega)
  have e24 : (op == 24) = false := by first | (simp; done) | (simp; omega)
  have e25 : (op == 25) = false := by first | (simp; done) | (simp; omega)
  have e26 : (op == 26) = false := by first | (simp; done) | (simp; omega)
  have e29 : (op == 29) = false := by first | (simp; done) | (simp; omega)
  have e4 : (op == 4) = false := by first | (simp; done) | (simp; omega)
  have e27 : (op == 27) = false := by first | (simp; done) | (simp; omega)
  have e28 : (op == 28) = false := by first | (simp; done) | (simp; omega)
  have e40 : (op == 40) = false := by first | (simp; done) | (simp; omega)
  have e41 : (op == 41) = false := by first | (simp; done) | (simp; omega)
  have e43 : (op == 43) = false := by first | (simp; done) | (simp; omega)
  have e44 : (op == 44) = false := by first | (simp; done) | (simp; omega)
  have e48 : (op == 48) = false := by first | (simp; done) | (simp; omega)
  have g5 : decide (op < 5) = false := by first | (simp; done) | (simp; omega)
  have g5b : decide (5 ≤ op) = true := by first | (simp; done) | (simp; omega)
  have l23 : decide (op ≤ 23) = false := by first | (simp; done) | (simp; omega)
  have l23b : decide (23 < op) = true := by first | (simp; done) | (simp; omega)
  have hb : branchOp op = false := by unfold branchOp; first | (simp; done) | (simp; omega)
  have HR := Lib.hid (fun w => hb ▸ rbranch_any op w)
  have HL := Lib.hid (may_hi op a b i h1)
  clear hb
  go_wp2_with (first
    | (go_at_call 29; refine (rreg_any _ _).mono ?_; rintro e w2 ⟨rfl, rfl⟩)
    | (go_at_call 30; refine (HR.out _).mono ?_; rintro e w2 ⟨rfl, rfl⟩))
  all_goals go_ret
  all_goals refine ⟨ret_bool ?_, below_one _ _⟩
  all_goals first | (rw [HL.out]; done) | (rw [HL.out]; go_light; first | rfl | (simp_all; done))
end Go.Proofs.YtbbfjlheaaalkaaDoor.Enc
