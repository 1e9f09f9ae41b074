/- The machine's getc in live's run; the builder's String behind it. -/
import Derived.Test.YthaombggdchgbaaSc
namespace Go.Proofs.Ythaombggdchgbaa.Graph
open Go.RowKit

theorem freeze_size (w : World) (a : Addr) (n : Nat) : (w.freeze a n).heap.size = w.heap.size := by
  unfold World.freeze
  split <;> simp
theorem freeze_heap {w : World} {a : Addr} {n b : Nat} (h : b ≠ a.block) : (w.freeze a n).heap[b]? = w.heap[b]? := by
  unfold World.freeze
  split
  · rfl
  · simp [Array.getElem?_modify, Ne.symm h]
set_option maxHeartbeats 2000000 in
set_option maxRecDepth 100000 in
theorem getc_st {x : Fx} {w wr : World} {rd v rd' c : Int} {n : Nat} {steps at_ stop : Int} (h : St x w rd v n steps at_ stop wr) (hr : rd = 0 ∧ c = 97 ∧ rd' = 1 ∨ rd = 1 ∧ c = 98 ∧ rd' = 2 ∨ rd = 2 ∧ c = 4294967295 ∧ rd' = 2) :
    Calls Try.prog 82 #[.pointer (some ⟨x.M, 0, none⟩)] wr fun e w' => e = .returned (.int .u32 c) ∧ St x w rd' v n steps at_ stop w' := by
  obtain ⟨ad, bp, bc, hm, _, _⟩ := h.mach
  have hlm := h.lm
  have hS := Lib.hid h
  obtain ⟨a6, _⟩ := cell_of_block hm (k := 6) (v := .string ⟨#[97, 98]⟩) rfl
  obtain ⟨a7, f7⟩ := cell_of_block hm (k := 7) (v := .int .i64 rd) rfl
  clear h hm
  rcases hr with ⟨rfl, rfl, rfl⟩ | ⟨rfl, rfl, rfl⟩ | ⟨rfl, rfl, rfl⟩
  · go_enter Try.func82, Try.ntmps82
    go_wp2
    go_quiet (fail)
    go_wp2
    have hS1 := Lib.hid ((hS.out.drewN nq).setM (rd' := 1) (steps' := steps) (stop' := stop) 7 (.int .i64 1) (fun _ _ _ => rfl))
    obtain ⟨w1, hw1⟩ : ∃ w1, w1 = (wr.drewN nq).setCell ⟨x.M, 7, none⟩ (.int .i64 1) := ⟨_, rfl⟩
    rw [← hw1] at hS1 ⊢
    clear hw1 a6 a7 f7 hlm
    obtain ⟨ad, bp, bc, hm, _, _⟩ := hS1.out.mach
    have hlm := hS1.out.lm
    obtain ⟨a6, _⟩ := cell_of_block hm (k := 6) (v := .string ⟨#[97, 98]⟩) rfl
    obtain ⟨a7, _⟩ := cell_of_block hm (k := 7) (v := .int .i64 1) rfl
    clear hm
    go_quiet (fail)
    go_wp2
    go_ret
    exact ⟨rfl, hS1.out.drewN _⟩
  · go_enter Try.func82, Try.ntmps82
    go_wp2
    go_quiet (fail)
    go_wp2
    have hS1 := Lib.hid ((hS.out.drewN nq).setM (rd' := 2) (steps' := steps) (stop' := stop) 7 (.int .i64 2) (fun _ _ _ => rfl))
    obtain ⟨w1, hw1⟩ : ∃ w1, w1 = (wr.drewN nq).setCell ⟨x.M, 7, none⟩ (.int .i64 2) := ⟨_, rfl⟩
    rw [← hw1] at hS1 ⊢
    clear hw1 a6 a7 f7 hlm
    obtain ⟨ad, bp, bc, hm, _, _⟩ := hS1.out.mach
    have hlm := hS1.out.lm
    obtain ⟨a6, _⟩ := cell_of_block hm (k := 6) (v := .string ⟨#[97, 98]⟩) rfl
    obtain ⟨a7, _⟩ := cell_of_block hm (k := 7) (v := .int .i64 2) rfl
    clear hm
    go_quiet (fail)
    go_wp2
    go_ret
    exact ⟨rfl, hS1.out.drewN _⟩
  · go_enter Try.func82, Try.ntmps82
    go_wp2
    go_quiet (fail)
    go_wp2
    go_ret
    exact ⟨rfl, hS.out.drewN _⟩
set_option maxHeartbeats 2000000 in
set_option maxRecDepth 100000 in
theorem string_st {x : Fx} {w wr : World} {rd v : Int} {steps at_ stop : Int} (h : St x w rd v 3 steps at_ stop wr) :
    Calls Try.prog 29 #[.pointer (some ⟨x.M, 8, none⟩)] wr fun e w' => e = .returned (.string ⟨#[97, 98, 255]⟩) ∧ Below x.B w w' ∧ wr.heap.size ≤ w'.heap.size ∧ w'.heap[x.M]? = wr.heap[x.M]? := by
  obtain ⟨ad, bp, bc, hm, _, hown⟩ := h.mach
  have hlm := h.lm
  have hS := Lib.hid h
  obtain ⟨g, cap, cur, hv, hNg, hbg, hnc, hcm, hcs, htake⟩ : ∃ g cap cur, (Value.slice bp 3 bc) = .slice (some ⟨g, 0, none⟩) 3 cap ∧ x.N ≤ g ∧ wr.heap[g]? = some (.cells cur 5 (0, 0)) ∧ 3 ≤ cap ∧ cap ≤ maxLen ∧ cur.size = cap * 1 ∧ cur.toList.take (3 * 1) = outL.take 3 := by
    rcases hown.2 with ⟨_, hz⟩ | ⟨g, cap, cur, hv, r⟩
    · omega
    · exact ⟨g, cap, cur, hv, r⟩
  injection hv with hv1 hv2 hv3
  subst hv1 hv3
  clear hv2
  have c9 : wr.drew.cell? ⟨x.M, 9, none⟩ = some (.slice (some ⟨g, 0, none⟩) 3 bc) := (cell_of_block hm (k := 9) (v := .slice (some ⟨g, 0, none⟩) 3 bc) rfl).1
  have hSD : (Builtin.unsafeSliceData_ #[49] 112 #[.slice (some ⟨g, 0, none⟩) 3 bc]).run Try.prog wr.drew = .ok (.pointer (some ⟨g, 0, none⟩)) wr.drew :=
    Lib.run_unsafeSliceData_row _ _ _ _ _ _ (by omega)
  have hUS : (Builtin.unsafeString_ #[112, 3] 9 #[.pointer (some ⟨g, 0, none⟩), .int .i64 3]).run Try.prog wr.drew = .ok (.string ⟨#[97, 98, 255]⟩) (wr.drew.freeze ⟨g, 0, none⟩ 3) := by
    refine Lib.run_unsafeString_row (w := wr.drew) 112 3 9 5 Try.underlying112 (by kernel_rfl) g cur.size (by have hg' : wr.drew.heap[g]? = some (.cells cur 5 (0, 0)) := hbg; simp [World.shape?, hg']) [97, 98, 255] (by simp) (by simp; omega) (by simp) ?_
    intro j y hy
    have hown' : wr.drew.ownsRow x.N 5 1 (.slice (some ⟨g, 0, none⟩) 3 bc) 3 (outL.take 3) := hown
    refine hown'.cells (g := g) rfl j (.int .u8 y.toNat) ?_
    match j, hy with
    | 0, hy => injection hy with hy; subst hy; rfl
    | 1, hy => injection hy with hy; subst hy; rfl
    | 2, hy => injection hy with hy; subst hy; rfl
  have hMg : x.M ≠ g := by have := hS.out.ok.mn; omega
  have HM := Lib.hid hm
  clear h hm hown hbg hcs htake
  go_enter Try.func29, Try.ntmps29
  go_wp2
  go_region
  all_goals
    go_wp2
    go_ret
    refine ⟨rfl, Lib.below_freeze hS.out.drew.below (p := ⟨g, 0, none⟩) (Nat.le_trans (Nat.le_trans hS.out.ok.bm (Nat.le_of_lt hS.out.ok.mn)) hNg) _, by rw [freeze_size]; exact Nat.le_refl _, ?_⟩
    rw [freeze_heap (w := wr.drew) (a := ⟨g, 0, none⟩) (n := 3) (b := x.M) hMg]
    rfl
theorem string_nil (M : Nat) (m : Array Value) (w : World) (hM : w.heap[M]? = some (.cells m 77 (0, 0))) (h9 : m[9]? = some (.slice none 0 0)) :
    Calls Try.prog 29 #[.pointer (some ⟨M, 8, none⟩)] w (Is (.string .empty) w) := by
  obtain ⟨a9, _⟩ := cell_of_block hM h9
  have hl := lt_of_block hM
  have hSD : ∀ w : World, (Builtin.unsafeSliceData_ #[49] 112 #[.slice none 0 0]).run Try.prog w = .ok (.pointer none) w := fun w => Lib.run_unsafeSliceData_nil _ _ _ _ _
  have hUS : ∀ w : World, (Builtin.unsafeString_ #[112, 3] 9 #[.pointer none, .int .i64 0]).run Try.prog w = .ok (.string .empty) w := fun w => Lib.run_unsafeString_none _ _ _ _ _
  clear hM h9
  go_enter Try.func29, Try.ntmps29
  go_wp2
  go_region
  all_goals
    go_wp2
    go_ret
    exact ⟨rfl, (Below.refl _ _).drew⟩
end Go.Proofs.Ythaombggdchgbaa.Graph
