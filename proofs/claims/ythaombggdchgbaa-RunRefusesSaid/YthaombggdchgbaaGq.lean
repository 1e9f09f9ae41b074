/- fields.only. -/
import Derived.Test.YthaombggdchgbaaGo
import Derived.IntWalk
namespace Go.Proofs.Ythaombggdchgbaa.Graph
open Go.RowKit

def fV (op d a b f n args arrs to els cases targets : Int) : Value :=
  .agg #[.int .i64 op, .int .i64 d, .int .i64 a, .int .i64 b, .int .i64 f, .int .u32 n, .int .i64 args, .int .i64 arrs, .int .i64 to, .int .i64 els, .int .i64 cases, .int .i64 targets]
theorem keep_in {there field n : Int} (h : 0 ≤ n ∧ n ≤ 4294967295) : 0 ≤ keepI there field n ∧ keepI there field n ≤ 4294967295 := by
  unfold keepI; split <;> omega
set_option maxHeartbeats 8000000 in
set_option maxRecDepth 100000 in
theorem only_any (op d a b f n args arrs to els cases targets th : Int) (w : World) (hn : 0 ≤ n ∧ n ≤ 4294967295) :
    Calls Try.prog 64 #[fV op d a b f n args arrs to els cases targets, .int .i64 th] w
      (Is (fV (keepI th 1 op) (keepI th 2 d) (keepI th 4 a) (keepI th 8 b) (keepI th 16 f) (keepI th 32 n) (keepI th 64 args) (keepI th 128 arrs) (keepI th 256 to) (keepI th 512 els) (keepI th 1024 cases) (keepI th 2048 targets)) w) := by
  obtain ⟨n0, n1⟩ := hn
  have hwn : IntKind.i64.wrap n = n := IntWalk.i64_in _ (by omega)
  have hwk : IntKind.u32.wrap (keepI th 32 n) = keepI th 32 n := by
    have h := keep_in (there := th) (field := 32) ⟨n0, n1⟩
    simp only [IntKind.wrap, IntKind.signed, IntKind.bits]
    exact Int.emod_eq_of_lt h.1 (by omega)
  have hV : fV op d a b f n args arrs to els cases targets = .agg #[.int .i64 op, .int .i64 d, .int .i64 a, .int .i64 b, .int .i64 f, .int .u32 n, .int .i64 args, .int .i64 arrs, .int .i64 to, .int .i64 els, .int .i64 cases, .int .i64 targets] := rfl
  rw [hV]
  clear hV
  go_enter Try.func64, Try.ntmps64
  go_wp2
  generalize hw2 : World.alloc _ _ = w2
  have HC : Hid (∀ t d' e r, w.heap.size + 1 < (({ heap := w2.heap, tape := t, drawn := d', os := e, output := r } : World)).heap.size ∧ (({ heap := w2.heap, tape := t, drawn := d', os := e, output := r } : World)).cell? ⟨w.heap.size + 1, 0, none⟩ = some (.int .i64 th)) := Lib.hid (fun _ _ _ _ => by
    show w.heap.size + 1 < w2.heap.size ∧ w2.cell? _ = _
    subst hw2; exact ⟨by go_simp, by go_simp⟩)
  have hs : ∀ t d' e r, w.heap.size < (({ heap := w2.heap, tape := t, drawn := d', os := e, output := r } : World)).heap.size := fun _ _ _ _ => by show w.heap.size < w2.heap.size; subst hw2; go_simp
  have c0 : ∀ t d' e r, (({ heap := w2.heap, tape := t, drawn := d', os := e, output := r } : World)).cell? ⟨w.heap.size, 0, none⟩ = some (.int .i64 op) := fun _ _ _ _ => by show w2.cell? _ = _; subst hw2; go_simp
  have c1 : ∀ t d' e r, (({ heap := w2.heap, tape := t, drawn := d', os := e, output := r } : World)).cell? ⟨w.heap.size, 1, none⟩ = some (.int .i64 d) := fun _ _ _ _ => by show w2.cell? _ = _; subst hw2; go_simp
  have c2 : ∀ t d' e r, (({ heap := w2.heap, tape := t, drawn := d', os := e, output := r } : World)).cell? ⟨w.heap.size, 2, none⟩ = some (.int .i64 a) := fun _ _ _ _ => by show w2.cell? _ = _; subst hw2; go_simp
  have c3 : ∀ t d' e r, (({ heap := w2.heap, tape := t, drawn := d', os := e, output := r } : World)).cell? ⟨w.heap.size, 3, none⟩ = some (.int .i64 b) := fun _ _ _ _ => by show w2.cell? _ = _; subst hw2; go_simp
  have c4 : ∀ t d' e r, (({ heap := w2.heap, tape := t, drawn := d', os := e, output := r } : World)).cell? ⟨w.heap.size, 4, none⟩ = some (.int .i64 f) := fun _ _ _ _ => by show w2.cell? _ = _; subst hw2; go_simp
  have c5 : ∀ t d' e r, (({ heap := w2.heap, tape := t, drawn := d', os := e, output := r } : World)).cell? ⟨w.heap.size, 5, none⟩ = some (.int .u32 n) := fun _ _ _ _ => by show w2.cell? _ = _; subst hw2; go_simp
  have c6 : ∀ t d' e r, (({ heap := w2.heap, tape := t, drawn := d', os := e, output := r } : World)).cell? ⟨w.heap.size, 6, none⟩ = some (.int .i64 args) := fun _ _ _ _ => by show w2.cell? _ = _; subst hw2; go_simp
  have c7 : ∀ t d' e r, (({ heap := w2.heap, tape := t, drawn := d', os := e, output := r } : World)).cell? ⟨w.heap.size, 7, none⟩ = some (.int .i64 arrs) := fun _ _ _ _ => by show w2.cell? _ = _; subst hw2; go_simp
  have c8 : ∀ t d' e r, (({ heap := w2.heap, tape := t, drawn := d', os := e, output := r } : World)).cell? ⟨w.heap.size, 8, none⟩ = some (.int .i64 to) := fun _ _ _ _ => by show w2.cell? _ = _; subst hw2; go_simp
  have c9 : ∀ t d' e r, (({ heap := w2.heap, tape := t, drawn := d', os := e, output := r } : World)).cell? ⟨w.heap.size, 9, none⟩ = some (.int .i64 els) := fun _ _ _ _ => by show w2.cell? _ = _; subst hw2; go_simp
  have c10 : ∀ t d' e r, (({ heap := w2.heap, tape := t, drawn := d', os := e, output := r } : World)).cell? ⟨w.heap.size, 10, none⟩ = some (.int .i64 cases) := fun _ _ _ _ => by show w2.cell? _ = _; subst hw2; go_simp
  have c11 : ∀ t d' e r, (({ heap := w2.heap, tape := t, drawn := d', os := e, output := r } : World)).cell? ⟨w.heap.size, 11, none⟩ = some (.int .i64 targets) := fun _ _ _ _ => by show w2.cell? _ = _; subst hw2; go_simp
  have HW := Lib.hid hw2
  clear hw2
  refine wp_region_still_tail 51 (by kernel_rfl) (by kernel_rfl) ?_
  simp only [List.take_succ_cons, List.take_zero, List.drop_succ_cons, List.drop_zero]
  repeat (first | still_step | still_call (keep_any _ _ _ _ _ _ (HC.out _ _ _ _).2 (HC.out _ _ _ _).1))
  try refine wpStill_nil ?_
  change wpList _ _ _ _ _ (World.drew w2)
  rw [← HW.out]
  clear c0 c1 c2 c3 c4 c5 c6 c7 c8 c9 c10 c11 hs
  go_wp2
  refine bodyPost_ret (v := fV (keepI th 1 op) (keepI th 2 d) (keepI th 4 a) (keepI th 8 b) (keepI th 16 f) (keepI th 32 n) (keepI th 64 args) (keepI th 128 arrs) (keepI th 256 to) (keepI th 512 els) (keepI th 1024 cases) (keepI th 2048 targets)) ?_ rfl ⟨rfl, ?_⟩
  · simp [results, Try.results64, go_sem, fV]
  · have h1 := below_alloc w (.cells #[.int .i64 op, .int .i64 d, .int .i64 a, .int .i64 b, .int .i64 f, .int .u32 n, .int .i64 args, .int .i64 arrs, .int .i64 to, .int .i64 els, .int .i64 cases, .int .i64 targets] 114)
    exact ((h1.alloc h1.size _).alloc (h1.alloc h1.size _).size _).drew
end Go.Proofs.Ythaombggdchgbaa.Graph
