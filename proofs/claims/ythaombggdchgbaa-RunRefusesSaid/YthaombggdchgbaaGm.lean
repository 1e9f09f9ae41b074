/- What instructions and ends have: kind, insHas, endHas. -/
import Derived.Test.YthaombggdchgbaaGa
namespace Go.Proofs.Ythaombggdchgbaa.Graph
open Go.RowKit

set_option maxHeartbeats 4000000 in
set_option maxRecDepth 100000 in
theorem kind_any (op : Int) (w : World) : Calls Try.prog 40 #[.int .i64 op] w fun e w' => e = .returned (.int .i64 (kindI op)) ∧ w' = w := by
  go_enter Try.func40, Try.ntmps40
  go_wp2
  all_goals (go_ret; refine ⟨?_, rfl⟩)
  all_goals refine congrArg (fun x => Ending.returned (Value.int IntKind.i64 x)) ?_
  all_goals (simp only [beq_iff_eq, beq_eq_false_iff_ne, ne_eq] at *; unfold kindI; (repeat' split) <;> omega)
/-- Which fields an instruction has, as bits. -/
def insHasI (op : Int) : Int :=
  if op = 1 then 34 else if 2 ≤ op ∧ op ≤ 5 then 6 else if op = 25 then 18 else if op = 26 then 20 else if op = 27 then 22 else if op = 28 then 28 else if op = 29 then 210 else if op = 30 then 2 else if op = 31 ∨ op = 32 then 4 else 14
set_option maxHeartbeats 4000000 in
set_option maxRecDepth 100000 in
theorem insHas_any (op : Int) (w : World) : Calls Try.prog 62 #[.int .i64 op] w fun e w' => e = .returned (.int .i64 (insHasI op)) ∧ w' = w := by
  go_enter Try.func62, Try.ntmps62
  go_wp2
  all_goals (go_ret; refine ⟨?_, rfl⟩)
  all_goals refine congrArg (fun x => Ending.returned (Value.int IntKind.i64 x)) ?_
  all_goals (simp only [beq_iff_eq, beq_eq_false_iff_ne, ne_eq] at *; unfold insHasI; (repeat' split) <;> omega)
/-- Which fields an end has, as bits. -/
def endHasI (k : Int) : Int := if k = 1 then 256 else if k = 2 then 781 else if k = 3 then 1284 else if k = 4 then 2340 else 4
set_option maxHeartbeats 4000000 in
set_option maxRecDepth 100000 in
theorem endHas_any (k : Int) (w : World) : Calls Try.prog 68 #[.int .i64 k] w fun e w' => e = .returned (.int .i64 (endHasI k)) ∧ w' = w := by
  go_enter Try.func68, Try.ntmps68
  go_wp2
  all_goals (go_ret; refine ⟨?_, rfl⟩)
  all_goals refine congrArg (fun x => Ending.returned (Value.int IntKind.i64 x)) ?_
  all_goals (simp only [beq_iff_eq, beq_eq_false_iff_ne, ne_eq] at *; unfold endHasI; (repeat' split) <;> omega)
end Go.Proofs.Ythaombggdchgbaa.Graph
