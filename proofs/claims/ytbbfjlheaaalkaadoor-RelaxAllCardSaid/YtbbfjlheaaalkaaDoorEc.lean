/- The document's functions on instructions and words: what each returns. No condition. -/
import Derived.Test.YtbbfjlheaaalkaaDoorEl
namespace Go.Proofs.YtbbfjlheaaalkaaDoor.Enc
open Go.RowKit

set_option maxHeartbeats 1000000 in
theorem rreg_any (n : Int) (w : World) : Calls Tryd.prog 29 #[.int .i64 n] w fun e w' => e = .returned (.bool (reg n)) ∧ w' = w := by
  go_enter Tryd.func29, Tryd.ntmps29
  go_wp2
  all_goals go_ret
  all_goals refine ⟨ret_bool ?_, rfl⟩
  all_goals (rw [Bool.eq_iff_iff]; simp_all [reg] <;> omega)
set_option maxHeartbeats 1000000 in
theorem rop_any (n : Int) (w : World) : Calls Tryd.prog 59 #[.int .i64 n] w fun e w' => e = .returned (.bool (isOp n)) ∧ w' = w := by
  go_enter Tryd.func59, Tryd.ntmps59
  go_wp2
  all_goals go_ret
  all_goals refine ⟨ret_bool ?_, rfl⟩
  all_goals (rw [Bool.eq_iff_iff]; simp_all [isOp] <;> omega)
set_option maxHeartbeats 1000000 in
theorem rbranch_any (n : Int) (w : World) : Calls Tryd.prog 30 #[.int .i64 n] w fun e w' => e = .returned (.bool (branchOp n)) ∧ w' = w := by
  go_enter Tryd.func30, Tryd.ntmps30
  go_wp2
  all_goals go_ret
  all_goals refine ⟨ret_bool ?_, rfl⟩
  all_goals (rw [Bool.eq_iff_iff]; simp_all [branchOp] <;> omega)
end Go.Proofs.YtbbfjlheaaalkaaDoor.Enc
