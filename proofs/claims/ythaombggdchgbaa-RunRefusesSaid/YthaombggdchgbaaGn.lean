/- The fields of an instruction and of an end, as the program holds them against others. -/
import Derived.Test.YthaombggdchgbaaGc
import Derived.StillTailTactics
namespace Go.Proofs.Ythaombggdchgbaa.Graph
open Go.RowKit

def fieldsV (op d a b f n : Int) (args arrs : Nat) (to els : Int) (cases targets : Nat) : Value :=
  .agg #[.int .i64 op, .int .i64 d, .int .i64 a, .int .i64 b, .int .i64 f, .int .u32 n, .int .i64 args, .int .i64 arrs, .int .i64 to, .int .i64 els, .int .i64 cases, .int .i64 targets]
set_option maxHeartbeats 4000000 in
set_option maxRecDepth 100000 in
theorem insFields_any (x : PIns) (b o : Nat) (va vr : Value) (w : World) (h : InsR w b o x va vr) (hb : b < w.heap.size) :
    Calls Try.prog 63 #[.pointer (some ⟨b, o, none⟩)] w (Is (fieldsV 0 x.d x.a x.b x.f x.n x.args.length x.arrs.length 0 0 0 0) w) := by
  obtain ⟨ap, ac, rfl⟩ := h.l.args.form
  obtain ⟨rp, rc, rfl⟩ := h.l.arrs.form
  have H := Lib.hid h
  have HB := Lib.hid hb
  clear h
  go_enter Try.func63, Try.ntmps63
  go_wp2
  generalize hw2 : World.alloc w _ = w2
  have hb2 : Below w.heap.size w w2 := by rw [← hw2]; exact below_alloc w _
  have h2 := H.out.below HB.out hb2
  have hs : ∀ t d e r, b < (({ heap := w2.heap, tape := t, drawn := d, os := e, output := r } : World)).heap.size := fun _ _ _ _ => Nat.lt_of_lt_of_le HB.out hb2.size
  have c1 : ∀ t d e r, (({ heap := w2.heap, tape := t, drawn := d, os := e, output := r } : World)).cell? ⟨b, o + 1, none⟩ = some (.int .i64 x.d) := fun _ _ _ _ => h2.d
  have c2 : ∀ t d e r, (({ heap := w2.heap, tape := t, drawn := d, os := e, output := r } : World)).cell? ⟨b, o + 2, none⟩ = some (.int .i64 x.a) := fun _ _ _ _ => h2.fa
  have c3 : ∀ t d e r, (({ heap := w2.heap, tape := t, drawn := d, os := e, output := r } : World)).cell? ⟨b, o + 3, none⟩ = some (.int .i64 x.b) := fun _ _ _ _ => h2.fb
  have c4 : ∀ t d e r, (({ heap := w2.heap, tape := t, drawn := d, os := e, output := r } : World)).cell? ⟨b, o + 4, none⟩ = some (.int .i64 x.f) := fun _ _ _ _ => h2.f
  have c5 : ∀ t d e r, (({ heap := w2.heap, tape := t, drawn := d, os := e, output := r } : World)).cell? ⟨b, o + 5, none⟩ = some (.int .u32 x.n) := fun _ _ _ _ => h2.n
  have c6 : ∀ t d e r, (({ heap := w2.heap, tape := t, drawn := d, os := e, output := r } : World)).cell? ⟨b, o + 6, none⟩ = some (.slice ap x.args.length ac) := fun _ _ _ _ => h2.ca
  have c7 : ∀ t d e r, (({ heap := w2.heap, tape := t, drawn := d, os := e, output := r } : World)).cell? ⟨b, o + 7, none⟩ = some (.slice rp x.arrs.length rc) := fun _ _ _ _ => h2.cr
  have HW := Lib.hid hw2
  clear hw2 hb2 h2
  go_still_tail 31, (by kernel_rfl)
  change wpList _ _ _ _ _ (World.drew w2)
  rw [← HW.out]
  clear c1 c2 c3 c4 c5 c6 c7 hs
  go_wp2
  refine bodyPost_ret (v := fieldsV 0 x.d x.a x.b x.f x.n x.args.length x.arrs.length 0 0 0 0) (by simp [results, Try.results63, go_sem, fieldsV]) rfl ⟨rfl, (below_alloc w _).drew⟩
set_option maxHeartbeats 4000000 in
set_option maxRecDepth 100000 in
theorem endFields_any (x : PEnd) (b o : Nat) (vc vt : Value) (w : World) (h : EndR w b o x vc vt) (hb : b < w.heap.size) :
    Calls Try.prog 67 #[.pointer (some ⟨b, o, none⟩)] w (Is (fieldsV x.op 0 x.a x.b 0 x.n 0 0 x.to x.els x.cases.length x.targets.length) w) := by
  obtain ⟨ap, ac, rfl⟩ := h.l.cases.form
  obtain ⟨rp, rc, rfl⟩ := h.l.targets.form
  have H := Lib.hid h
  have HB := Lib.hid hb
  clear h
  go_enter Try.func67, Try.ntmps67
  go_wp2
  generalize hw2 : World.alloc w _ = w2
  have hb2 : Below w.heap.size w w2 := by rw [← hw2]; exact below_alloc w _
  have h2 := H.out.below HB.out hb2
  have hs : ∀ t d e r, b < (({ heap := w2.heap, tape := t, drawn := d, os := e, output := r } : World)).heap.size := fun _ _ _ _ => Nat.lt_of_lt_of_le HB.out hb2.size
  have c1 : ∀ t d e r, (({ heap := w2.heap, tape := t, drawn := d, os := e, output := r } : World)).cell? ⟨b, o + 1, none⟩ = some (.int .i64 x.op) := fun _ _ _ _ => h2.op
  have c2 : ∀ t d e r, (({ heap := w2.heap, tape := t, drawn := d, os := e, output := r } : World)).cell? ⟨b, o + 2, none⟩ = some (.int .i64 x.a) := fun _ _ _ _ => h2.fa
  have c3 : ∀ t d e r, (({ heap := w2.heap, tape := t, drawn := d, os := e, output := r } : World)).cell? ⟨b, o + 3, none⟩ = some (.int .i64 x.b) := fun _ _ _ _ => h2.fb
  have c4 : ∀ t d e r, (({ heap := w2.heap, tape := t, drawn := d, os := e, output := r } : World)).cell? ⟨b, o + 4, none⟩ = some (.int .u32 x.n) := fun _ _ _ _ => h2.n
  have c5 : ∀ t d e r, (({ heap := w2.heap, tape := t, drawn := d, os := e, output := r } : World)).cell? ⟨b, o + 5, none⟩ = some (.int .i64 x.to) := fun _ _ _ _ => h2.to
  have c6 : ∀ t d e r, (({ heap := w2.heap, tape := t, drawn := d, os := e, output := r } : World)).cell? ⟨b, o + 6, none⟩ = some (.int .i64 x.els) := fun _ _ _ _ => h2.els
  have c7 : ∀ t d e r, (({ heap := w2.heap, tape := t, drawn := d, os := e, output := r } : World)).cell? ⟨b, o + 7, none⟩ = some (.slice ap x.cases.length ac) := fun _ _ _ _ => h2.cc
  have c8 : ∀ t d e r, (({ heap := w2.heap, tape := t, drawn := d, os := e, output := r } : World)).cell? ⟨b, o + 8, none⟩ = some (.slice rp x.targets.length rc) := fun _ _ _ _ => h2.ct
  have HW := Lib.hid hw2
  clear hw2 hb2 h2
  go_still_tail 35, (by kernel_rfl)
  change wpList _ _ _ _ _ (World.drew w2)
  rw [← HW.out]
  clear c1 c2 c3 c4 c5 c6 c7 c8 hs
  go_wp2
  refine bodyPost_ret (v := fieldsV x.op 0 x.a x.b 0 x.n 0 0 x.to x.els x.cases.length x.targets.length) (by simp [results, Try.results67, go_sem, fieldsV]) rfl ⟨rfl, (below_alloc w _).drew⟩
end Go.Proofs.Ythaombggdchgbaa.Graph
