/- run's small functions, where there is next to nothing. -/
import Derived.Test.YthaombggdchgbaaRa
import Derived.Deep.OwnRows
namespace Go.Proofs.Ythaombggdchgbaa.Graph
open Go.RowKit
set_option maxHeartbeats 4000000 in
set_option maxRecDepth 100000 in
theorem noughts_none (w : World) : Calls Try.prog 76 #[.slice none 0 0, .int .i64 0] w (Is (.slice none 0 0) w) := by
  have hcl : ∀ w : World, (Builtin.clear_ #[22] 0 #[.slice none 0 0]).run Try.prog w = .ok (.tuple #[]) w := fun w => by kernel_rfl
  go_enter Try.func76, Try.ntmps76
  go_wp2
  go_ret
  exact ⟨rfl, Below.refl _ _⟩
set_option maxHeartbeats 4000000 in
set_option maxRecDepth 100000 in
theorem noughts_one (w : World) : Calls Try.prog 76 #[.slice none 0 0, .int .i64 1] w fun e w' => e = .returned (.slice (some ⟨w.heap.size, 0, none⟩) 1 1) ∧ w' = w.alloc (.cells #[.int .u32 0] 34) := by
  have hmk : ∀ w : World, (Instr.makeSlice 22 (.int .i64 1) (.int .i64 1)).run Try.prog w = .ok (.slice (some ⟨w.heap.size, 0, none⟩) 1 1) (w.alloc (.cells #[.int .u32 0] 34)) := fun w => by
    have h := run_make_row' (P := Try.prog) 22 34 (.int .u32 0) 4 Try.underlying22 (by kernel_rfl) rfl .i64 .i64 1 (by omega) (by omega) w
    rw [show madeCells #[Value.int .u32 0] 1 = #[.int .u32 0] from by kernel_rfl] at h
    exact h
  go_enter Try.func76, Try.ntmps76
  go_wp2
  go_ret
  exact ⟨rfl, rfl⟩
set_option maxHeartbeats 4000000 in
set_option maxRecDepth 100000 in
theorem localWords_none (g o c : Nat) (p : Option Addr) (w : World) (h : w.cell? ⟨g, o + 2, none⟩ = some (.slice p 0 c)) (hl : g < w.heap.size) : Calls Try.prog 77 #[.pointer (some ⟨g, o, none⟩)] w (Is (.int .i64 0) w) := by
  go_enter Try.func77, Try.ntmps77
  go_wp2
  go_loopw [3, 11] (fun v i wr => v = .int .i64 0 ∧ i = .int .i64 0 ∧ wr = w) (fun _ _ _ => 0)
  case atStart => exact ⟨rfl, rfl, rfl⟩
  case round =>
    obtain ⟨rfl, rfl, rfl⟩ := hrel
    go_wp2
    go_ret
    exact ⟨rfl, Below.refl _ _⟩
end Go.Proofs.Ythaombggdchgbaa.Graph
