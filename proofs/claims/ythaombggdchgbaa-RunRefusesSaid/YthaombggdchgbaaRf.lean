/- run's leave, at the first call, without a value. -/
import Derived.Test.YthaombggdchgbaaRe
namespace Go.Proofs.Ythaombggdchgbaa.Graph
open Go.RowKit
theorem setCell_heap {w w' : World} (h : w.heap = w'.heap) (a : Addr) (v : Value) : (w.setCell a v).heap = (w'.setCell a v).heap := by
  simp only [World.setCell, h]
set_option maxHeartbeats 4000000 in
set_option maxRecDepth 100000 in
theorem leave_first (M C : Nat) (m : Array Value) (s0 c0 : Int) (cv : Value) (w : World) (hM : w.heap[M]? = some (.cells m 77 (0, 0))) (h14 : m[14]? = some (.slice (some ⟨C, 0, none⟩) 1 50)) (h12 : m[12]? = some (.int .i64 s0)) (h13 : m[13]? = some (.int .u32 c0)) :
    Calls Try.prog 60 #[.pointer (some ⟨M, 0, none⟩), cv, .int .i64 (-1)] w fun e w' => e = .returned (.tuple #[]) ∧ w'.heap = (((w.setCell ⟨M, 14, none⟩ (.slice (some ⟨C, 0, none⟩) 0 50)).setCell ⟨M, 12, none⟩ (.int .i64 1)).setCell ⟨M, 13, none⟩ (.int .u32 0)).heap ∧ w'.os = w.os ∧ w'.tape = w.tape ∧ w'.output = w.output := by
  obtain ⟨a14, f14⟩ := cell_of_block hM h14
  have hl := lt_of_block hM
  have hsz : 14 < m.size := by
    rcases Nat.lt_or_ge 14 m.size with h | h
    · exact h
    · rw [Array.getElem?_eq_none h] at h14; cases h14
  have hM2 := heap_setCell_same w M 14 m _ (.slice (some ⟨C, 0, none⟩) 0 50) hM
  have HH := Lib.hid (fun (wx : World) (hx : wx.heap = (w.setCell ⟨M, 14, none⟩ (.slice (some ⟨C, 0, none⟩) 0 50)).heap) => halt_any M _ s0 c0 1 0 wx (by rw [hx]; exact hM2) (by rw [Array.getElem?_setIfInBounds_ne (by omega)]; exact h12) (by rw [Array.getElem?_setIfInBounds_ne (by omega)]; exact h13))
  have HM2 := Lib.hid hM2
  clear hM h12 h13 h14 hM2
  go_enter Try.func60, Try.ntmps60
  go_upto_region 3 with (fail)
  go_cut [0] (fun v wd => v = .pointer (some ⟨M, 0, none⟩) ∧ wd.heap = (w.setCell ⟨M, 14, none⟩ (.slice (some ⟨C, 0, none⟩) 0 50)).heap ∧ wd.os = w.os ∧ wd.tape = w.tape ∧ wd.output = w.output)
  case first =>
    go_region
    all_goals
      go_wp2_with fail
      go_meet
      exact ⟨rfl, rfl, rfl, rfl, rfl⟩
  case rest =>
  obtain ⟨rfl, hh, e1, e2, e3⟩ := hcut
  have HE := Lib.hid (And.intro hh (And.intro e1 (And.intro e2 e3)))
  obtain ⟨w2, hw2⟩ : ∃ w2, w2 = wc := ⟨_, rfl⟩
  rw [← hw2] at HE ⊢
  clear hh e1 e2 e3 hw2 a14 f14
  obtain ⟨a14, _⟩ := cell_of_block (w := w2) (b := M) (by rw [HE.out.1]; exact HM2.out) (k := 14) (v := .slice (some ⟨C, 0, none⟩) 0 50) (Array.getElem?_setIfInBounds_self_of_lt hsz)
  have hl2 : M < w2.heap.size := by rw [HE.out.1]; exact lt_of_block HM2.out
  go_wp2_with (
    go_at_call 78
    refine (HH.out w2 HE.out.1).mono ?_
    rintro e w3 ⟨rfl, hw3⟩
    have HW := Lib.hid hw3
    clear hw3)
  have h := HW.out
  refine bodyPost_ret (results_none rfl _ _ _) rfl ⟨rfl, ?_, ?_, ?_, ?_⟩
  · rw [h]; exact setCell_heap (setCell_heap HE.out.1 _ _) _ _
  · rw [h]; exact HE.out.2.1
  · rw [h]; exact HE.out.2.2.1
  · rw [h]; exact HE.out.2.2.2
end Go.Proofs.Ythaombggdchgbaa.Graph
