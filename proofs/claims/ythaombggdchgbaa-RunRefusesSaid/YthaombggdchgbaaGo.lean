/- fields.only: one field. -/
import Derived.Test.YthaombggdchgbaaGn
namespace Go.Proofs.Ythaombggdchgbaa.Graph
open Go.RowKit



/-- What is kept of a number. -/
def keepI (there field v : Int) : Int := if (bits BinOp.and IntKind.i64 there field == 0) = true then 0 else v
set_option maxHeartbeats 4000000 in
set_option maxRecDepth 100000 in
theorem keep_any (there field v : Int) (b o : Nat) (w : World) (hc : w.cell? ⟨b, o, none⟩ = some (.int .i64 there)) (_hb : b < w.heap.size) :
    Calls Try.prog 84 #[.int .i64 field, .int .i64 v, .pointer (some ⟨b, o, none⟩)] w fun e w' => e = .returned (.int .i64 (keepI there field v)) ∧ w' = w := by
  go_enter Try.func84, Try.ntmps84
  go_wp2
  all_goals (go_ret; refine ⟨?_, rfl⟩; unfold keepI)
  · rw [if_pos (by assumption)]; rfl
  · rw [if_neg (by simp_all)]; rfl
end Go.Proofs.Ythaombggdchgbaa.Graph
