/- A new writer; where a list's lines begin: the program's own answers. -/
import Derived.Test.YtmnhafncdblklaaDoorAt
import Derived.Laws.MakeOwn
namespace Go.Proofs.YtmnhafncdblklaaDoor.Relax
open Go.RowKit Go.Proofs.YtmnhafncdblklaaDoor.Enc Go.Proofs.YtmnhafncdblklaaDoor.Graph Go.Maps

theorem make0_u32 (A : Nat) (hA : A ≤ 65536) (w : World) : (Instr.makeSlice 24 (.int .i64 0) (.int .i64 (A : Int))).run Tryd.prog w = .ok (.slice (some ⟨w.heap.size, 0, none⟩) 0 A) (w.alloc (.cells (madeCells #[.int .u32 0] A) 43)) := by
  obtain ⟨i0, HI, hz0, hz1, hz2⟩ := info_parts info_wordA
  have := run_make (P := Tryd.prog) w 24 43 i0 _ Tryd.underlying24 HI hz0 .i64 .i64 0 (A : Int) (by omega) (by omega) (by rw [hz2]; omega) (by omega)
  simpa [hz1, Value.cells] using this
theorem make0_int (A : Nat) (hA : A ≤ 65536) (w : World) : (Instr.makeSlice 25 (.int .i64 0) (.int .i64 (A : Int))).run Tryd.prog w = .ok (.slice (some ⟨w.heap.size, 0, none⟩) 0 A) (w.alloc (.cells (madeCells #[.int .i64 0] A) 3)) := by
  obtain ⟨i0, HI, hz0, hz1, hz2⟩ := info_parts info_intA
  have := run_make (P := Tryd.prog) w 25 3 i0 _ Tryd.underlying25 HI hz0 .i64 .i64 0 (A : Int) (by omega) (by omega) (by rw [hz2]; omega) (by omega)
  simpa [hz1, Value.cells] using this
def NewPost (bm sb N : Nat) (w : World) (e : Ending) (w' : World) : Prop := ∃ bw vw vk G, e = .returned (.pointer (some ⟨bw, 0, none⟩)) ∧ WrR w' w.heap.size bm sb N bw G vw vk [] ∧ Below w.heap.size w w'
/-- A writer in three new blocks. -/
theorem new_wr (w W : World) (bm sb N A bw g1 g2 : Nat) (hst : W.heap[bw]? = some (.cells #[.map (some bm), .slice (some ⟨sb, 0, none⟩) N N, .slice (some ⟨g1, 0, none⟩) 0 A, .slice (some ⟨g2, 0, none⟩) 0 A] 73 (0, 0)))
    (h1 : W.ownsRow w.heap.size 43 1 (.slice (some ⟨g1, 0, none⟩) 0 A) 0 []) (h2 : W.ownsRow w.heap.size 3 1 (.slice (some ⟨g2, 0, none⟩) 0 A) 0 []) (h12 : g1 ≠ g2) (h1b : g1 ≠ bw) (h2b : g2 ≠ bw) (hz : w.heap.size ≤ bw) (hb : Below w.heap.size w W) :
    NewPost bm sb N w (.returned (.pointer (some ⟨bw, 0, none⟩))) W :=
  ⟨bw, _, _, fun b => b = bw ∨ b = g1 ∨ b = g2, rfl, ⟨hst, h1, h2, fun b hb hb2 => by
      have e : some g1 = some b := hb
      have e' : some g2 = some b := hb2
      injection e with e
      injection e' with e'
      omega, fun e => h1b (by injection e), fun e => h2b (by injection e), fun b => by
      refine ⟨?_, ?_⟩
      · rintro (h | h | h)
        · exact .inl h
        · exact .inr (.inl (by rw [h]; rfl))
        · exact .inr (.inr (by rw [h]; rfl))
      · rintro (h | h | h)
        · exact .inl h
        · have e : some g1 = some b := h
          injection e with e; exact .inr (.inl e.symm)
        · have e : some g2 = some b := h
          injection e with e; exact .inr (.inr e.symm), hz⟩, hb⟩
theorem third_new (w : World) (a b c : Obj) : (((w.alloc a).alloc b).alloc c).heap[w.heap.size + 1 + 1]? = some c := by
  have := heap_alloc_new ((w.alloc a).alloc b) c
  rwa [World.size_alloc, World.size_alloc] at this
set_option maxHeartbeats 4000000 in
set_option maxRecDepth 100000 in
theorem newWriter_prog (bm sb N : Nat) (f : Nat → Int) (w : World) (hN : 0 < N) (hN2 : N ≤ 1000000) (hR : RowI w sb N f) (hf : 0 ≤ f (N - 1) ∧ f (N - 1) ≤ 65536) :
    Calls Tryd.prog 32 #[.map (some bm), .slice (some ⟨sb, 0, none⟩) N N] w (NewPost bm sb N w) := by
  have hc := hR.cell (i := N - 1) (by omega)
  have hlt := hR.lt
  obtain ⟨A, hA⟩ : ∃ A : Nat, f (N - 1) = (A : Int) := ⟨(f (N - 1)).toNat, by omega⟩
  rw [hA] at hc hf
  obtain ⟨M, rfl⟩ : ∃ M, N = M + 1 := ⟨N - 1, by omega⟩
  rw [Nat.add_sub_cancel] at hc
  have m1 := make0_u32 A (by omega)
  have m2 := make0_int A (by omega)
  clear hR hA
  have i0 : (0 : Int) ≤ M := by omega
  have i1 : (M : Int) < (M : Int) + 1 := by omega
  have i2 : IntKind.i64.wrap ((M : Int) + 1 - 1) = (M : Int) := by rw [show (M : Int) + 1 - 1 = M by omega]; exact IntWalk.i64_in _ (by omega)
  have i3 : (M : Int) + 1 - 1 = M := by omega
  have hml : A ≤ maxLen := by unfold maxLen; omega
  go_enter Tryd.func32, Tryd.ntmps32
  go_wp2
  go_region
  all_goals
    go_wp2
    go_ret
  · refine new_wr w _ bm sb (M + 1) A (w.heap.size + 1 + 1) w.heap.size (w.heap.size + 1) ?_ ?_ ?_ (by omega) (by omega) (by omega) (by omega) ?_
    · exact third_new w _ _ _
    · exact (((World.ownsRow_made w (madeCells #[.int .u32 0] A) A (Nat.le_refl _) hml (by simp [madeCells])).alloc _).alloc _).drew
    · have := (World.ownsRow_made (base := w.heap.size) (e := 3) (size := 1) (w.alloc (.cells (madeCells #[.int .u32 0] A) 43)) (madeCells #[.int .i64 0] A) A (by simp) hml (by simp [madeCells])).alloc
      rw [World.size_alloc] at this
      exact (this _).drew
    · exact (((below_one w _).alloc (by simp) _).alloc (by simp <;> omega) _).drew
  · refine new_wr w _ bm sb (M + 1) A (w.heap.size + 1 + 1) (w.heap.size + 1) w.heap.size ?_ ?_ ?_ (by omega) (by omega) (by omega) (by omega) ?_
    · exact third_new w _ _ _
    · have := (World.ownsRow_made (base := w.heap.size) (e := 43) (size := 1) (w.alloc (.cells (madeCells #[.int .i64 0] A) 3)) (madeCells #[.int .u32 0] A) A (by simp) hml (by simp [madeCells])).alloc
      rw [World.size_alloc] at this
      exact (this _).drew
    · exact (((World.ownsRow_made w (madeCells #[.int .i64 0] A) A (Nat.le_refl _) hml (by simp [madeCells])).alloc _).alloc _).drew
    · exact (((below_one w _).alloc (by simp) _).alloc (by simp <;> omega) _).drew
end Go.Proofs.YtmnhafncdblklaaDoor.Relax
