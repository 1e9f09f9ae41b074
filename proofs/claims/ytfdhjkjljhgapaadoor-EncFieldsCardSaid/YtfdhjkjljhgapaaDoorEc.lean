/- The document's functions on instructions and words: what each returns. No condition. -/
import Derived.Test.YtfdhjkjljhgapaaDoorEl
namespace Go.Proofs.YtfdhjkjljhgapaaDoor.Enc
open Go.RowKit

set_option maxHeartbeats 1000000 in
theorem rreg_any (n : Int) (w : World) : Calls Tryd.prog 21 #[.int .i64 n] w fun e w' => e = .returned (.bool (reg n)) ∧ w' = w := by
  go_enter Tryd.func21, Tryd.ntmps21
  go_wp2
  all_goals go_ret
  all_goals refine ⟨ret_bool ?_, rfl⟩
  all_goals (rw [Bool.eq_iff_iff]; simp_all [reg] <;> omega)
set_option maxHeartbeats 1000000 in
theorem rop_any (n : Int) (w : World) : Calls Tryd.prog 17 #[.int .i64 n] w fun e w' => e = .returned (.bool (isOp n)) ∧ w' = w := by
  go_enter Tryd.func17, Tryd.ntmps17
  go_wp2
  all_goals go_ret
  all_goals refine ⟨ret_bool ?_, rfl⟩
  all_goals (rw [Bool.eq_iff_iff]; simp_all [isOp] <;> omega)
set_option maxHeartbeats 1000000 in
theorem rbranch_any (n : Int) (w : World) : Calls Tryd.prog 22 #[.int .i64 n] w fun e w' => e = .returned (.bool (branchOp n)) ∧ w' = w := by
  go_enter Tryd.func22, Tryd.ntmps22
  go_wp2
  all_goals go_ret
  all_goals refine ⟨ret_bool ?_, rfl⟩
  all_goals (rw [Bool.eq_iff_iff]; simp_all [branchOp] <;> omega)
set_option maxHeartbeats 1000000 in
theorem rfollows_any (n : Int) (w : World) : Calls Tryd.prog 15 #[.int .i64 n] w fun e w' => e = .returned (.int .i64 (followsP n)) ∧ w' = w := by
  go_enter Tryd.func15, Tryd.ntmps15
  go_wp2
  all_goals go_ret
  all_goals refine ⟨?_, rfl⟩
  all_goals simp_all [followsP]
end Go.Proofs.YtfdhjkjljhgapaaDoor.Enc
