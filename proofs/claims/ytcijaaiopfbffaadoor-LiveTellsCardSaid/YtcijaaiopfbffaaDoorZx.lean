/- What is made of sets, words and lists lies as noughts. No condition. -/
import Derived.Test.YtcijaaiopfbffaaDoorZw
import Derived.Test.YtcijaaiopfbffaaDoorZs
namespace Go.Proofs.YtcijaaiopfbffaaDoor.Live
open Go.RowKit Go.Proofs.YtcijaaiopfbffaaDoor.Graph

def zeroSet : Value := .agg (Array.replicate 125 (.int .u64 0))
def zeroCs : Array Value := Array.replicate 125 (.int .u64 0)
theorem zero_cells : zeroSet.cells = zeroCs := by kernel_rfl
theorem info_set : (Tryd.prog.info? 73).map (fun i => (i.zero, i.size, i.bytes)) = some (some zeroSet, 125, 1000) := by kernel_rfl
theorem info_u64 : (Tryd.prog.info? 71).map (fun i => (i.zero, i.size, i.bytes)) = some (some (.int .u64 0), 1, 8) := by kernel_rfl
theorem info_ints : (Tryd.prog.info? 22).map (fun i => (i.zero, i.size, i.bytes)) = some (some (.slice none 0 0), 1, 24) := by kernel_rfl
theorem make_sets (n : Nat) (hn : n ≤ 20000) (w : World) : (Instr.makeSlice 65 (.int .i64 (n : Int)) (.int .i64 (n : Int))).run Tryd.prog w = .ok (.slice (some ⟨w.heap.size, 0, none⟩) n n) (w.alloc (.cells (madeCells zeroCs (n * 125)) 73)) := by
  obtain ⟨i0, HI, hz0, hz1, hz2⟩ := info_parts info_set
  have := run_make (P := Tryd.prog) w 65 73 i0 _ Tryd.underlying65 HI hz0 .i64 .i64 (n : Int) (n : Int) (by omega) (by omega) (by rw [hz2]; omega) (by omega)
  rw [← zero_cells]
  simpa [hz1] using this
theorem make_words (n : Nat) (hn : n ≤ 20000) (w : World) : (Instr.makeSlice 101 (.int .i64 (n : Int)) (.int .i64 (n : Int))).run Tryd.prog w = .ok (.slice (some ⟨w.heap.size, 0, none⟩) n n) (w.alloc (.cells (madeCells #[.int .u64 0] n) 71)) := by
  obtain ⟨i0, HI, hz0, hz1, hz2⟩ := info_parts info_u64
  have := run_make (P := Tryd.prog) w 101 71 i0 _ Tryd.underlying101 HI hz0 .i64 .i64 (n : Int) (n : Int) (by omega) (by omega) (by rw [hz2]; omega) (by omega)
  simpa [hz1, Value.cells] using this
theorem make_lists (n : Nat) (hn : n ≤ 20000) (w : World) : (Instr.makeSlice 28 (.int .i64 (n : Int)) (.int .i64 (n : Int))).run Tryd.prog w = .ok (.slice (some ⟨w.heap.size, 0, none⟩) n n) (w.alloc (.cells (madeCells #[.slice none 0 0] n) 22)) := by
  obtain ⟨i0, HI, hz0, hz1, hz2⟩ := info_parts info_ints
  have := run_make (P := Tryd.prog) w 28 22 i0 _ Tryd.underlying28 HI hz0 .i64 .i64 (n : Int) (n : Int) (by omega) (by omega) (by rw [hz2]; omega) (by omega)
  simpa [hz1, Value.cells] using this
theorem made_at (z : Array Value) (n k : Nat) (hk : k < n) (v : Value) (hv : z[k % z.size]! = v) : (madeCells z n)[k]? = some v := by
  unfold madeCells
  rw [Array.getElem?_map, Array.getElem?_range, if_pos hk]
  exact congrArg some hv
theorem made_sets {w : World} {g n : Nat} (h : w.heap[g]? = some (.cells (madeCells zeroCs (n * 125)) 73 (0, 0))) : SetsAt w g n fun _ _ => 0 := by
  refine ⟨_, h, size_madeCells _ _, fun b k hb hk => made_at _ _ _ (by omega) _ ?_⟩
  unfold zeroCs
  rw [Array.size_replicate]
  have : (b * 125 + k) % 125 < 125 := Nat.mod_lt _ (by omega)
  rw [getElem!_pos _ _ (by rw [Array.size_replicate]; exact this), Array.getElem_replicate]
  rfl
theorem made_words {w : World} {g n : Nat} (h : w.heap[g]? = some (.cells (madeCells #[.int .u64 0] n) 71 (0, 0))) : WRow w g n fun _ => 0 := by
  refine ⟨_, h, size_madeCells _ _, fun b hb => made_at _ _ _ hb _ ?_⟩
  have : b % (#[Value.int .u64 0] : Array Value).size = 0 := Nat.mod_one b
  rw [this]; rfl
end Go.Proofs.YtcijaaiopfbffaaDoor.Live
