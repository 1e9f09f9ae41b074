/- run's halt: two numbers of the machine. -/
import Derived.Test.YthaombggdchgbaaRd
namespace Go.Proofs.Ythaombggdchgbaa.Graph
open Go.RowKit
set_option maxHeartbeats 4000000 in
set_option maxRecDepth 100000 in
theorem halt_any (M : Nat) (m : Array Value) (s0 c0 stop code : Int) (w : World) (hM : w.heap[M]? = some (.cells m 77 (0, 0))) (h12 : m[12]? = some (.int .i64 s0)) (h13 : m[13]? = some (.int .u32 c0)) :
    Calls Try.prog 78 #[.pointer (some ⟨M, 0, none⟩), .int .i64 stop, .int .u32 code] w fun e w' => e = .returned (.tuple #[]) ∧ w' = (w.setCell ⟨M, 12, none⟩ (.int .i64 stop)).setCell ⟨M, 13, none⟩ (.int .u32 code) := by
  obtain ⟨a12, f12⟩ := cell_of_block hM h12
  obtain ⟨a13, f13⟩ := cell_of_block hM h13
  have hl := lt_of_block hM
  clear hM h12 h13
  go_enter Try.func78, Try.ntmps78
  go_wp2
  go_end0
  exact ⟨rfl, rfl⟩
set_option maxHeartbeats 4000000 in
set_option maxRecDepth 100000 in
theorem step_on (M : Nat) (m : Array Value) (steps fuel : Int) (w : World) (hM : w.heap[M]? = some (.cells m 77 (0, 0))) (h10 : m[10]? = some (.int .i64 fuel)) (h11 : m[11]? = some (.int .i64 steps)) (hlt : steps < fuel) (h0 : 0 ≤ steps) (hf : fuel ≤ 1073741824) :
    Calls Try.prog 57 #[.pointer (some ⟨M, 0, none⟩)] w fun e w' => e = .returned (.bool true) ∧ w'.heap = (w.setCell ⟨M, 11, none⟩ (.int .i64 (steps + 1))).heap ∧ w'.os = w.os ∧ w'.tape = w.tape ∧ w'.output = w.output := by
  obtain ⟨a10, _⟩ := cell_of_block hM h10
  obtain ⟨a11, f11⟩ := cell_of_block hM h11
  have hl := lt_of_block hM
  have hne : (steps == fuel) = false := by simp; omega
  clear hM h10 h11
  go_enter Try.func57, Try.ntmps57
  go_upto_region 1 with (fail)
  go_cut [11] (fun v wd => v = .bool false ∧ wd = w.drew)
  case first =>
    go_region
    all_goals
      go_wp2_with fail
      go_meet
      exact ⟨rfl, rfl⟩
  case rest =>
  obtain ⟨rfl, rfl⟩ := hcut
  go_wp2
  go_ret
  exact ⟨rfl, rfl, rfl, rfl, rfl⟩
set_option maxHeartbeats 4000000 in
set_option maxRecDepth 100000 in
theorem step_stop (M : Nat) (m : Array Value) (fuel s0 c0 : Int) (w : World) (hM : w.heap[M]? = some (.cells m 77 (0, 0))) (h10 : m[10]? = some (.int .i64 fuel)) (h11 : m[11]? = some (.int .i64 fuel)) (h12 : m[12]? = some (.int .i64 s0)) (h13 : m[13]? = some (.int .u32 c0)) :
    Calls Try.prog 57 #[.pointer (some ⟨M, 0, none⟩)] w fun e w' => e = .returned (.bool false) ∧ w'.heap = ((w.setCell ⟨M, 12, none⟩ (.int .i64 3)).setCell ⟨M, 13, none⟩ (.int .u32 0)).heap ∧ w'.os = w.os ∧ w'.tape = w.tape ∧ w'.output = w.output := by
  obtain ⟨a10, _⟩ := cell_of_block hM h10
  obtain ⟨a11, _⟩ := cell_of_block hM h11
  have hl := lt_of_block hM
  have HH := Lib.hid (halt_any M m s0 c0 3 0 w.drew hM h12 h13)
  have heq : (fuel == fuel) = true := by simp
  clear hM h10 h11 h12 h13
  go_enter Try.func57, Try.ntmps57
  go_upto_region 1 with (fail)
  go_cut [11] (fun v wd => v = .bool true ∧ wd = w.drew)
  case first =>
    go_region
    all_goals
      go_wp2_with fail
      go_meet
      exact ⟨by simp, rfl⟩
  case rest =>
  obtain ⟨rfl, rfl⟩ := hcut
  go_wp2_with (
    go_at_call 78
    refine HH.out.mono ?_
    rintro e w2 ⟨rfl, rfl⟩)
  go_ret
  exact ⟨rfl, rfl, rfl, rfl, rfl⟩
end Go.Proofs.Ythaombggdchgbaa.Graph
