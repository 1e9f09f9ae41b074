/- The document's own answer for signs and characters: what each function returns. -/
import Derived.Test.YteggenldmkbhiaaDoorTA
namespace Go.Proofs.YteggenldmkbhiaaDoor
open Go.RowKit

set_option maxHeartbeats 4000000 in
set_option maxRecDepth 100000 in
theorem rSign_any (s : ByteArray) (w : World) :
    Calls Tryd.prog 33 #[.string s] w fun e w' => e = .returned (.bool (isSignL s.data.toList)) ∧ w = w' := by
  go_enter Tryd.func33, Tryd.ntmps33
  go_wp2
  all_goals go_ret
  all_goals refine ⟨ret_bool ?_, rfl⟩
  all_goals rw [← Lib.toList_data]
  all_goals simp_all [isSignL, signsL]
end Go.Proofs.YteggenldmkbhiaaDoor
