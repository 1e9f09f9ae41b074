/- list[T]: a list in memory of its own. -/
import Derived.Test.YtacbfjinellonaaCp
namespace Go.Proofs.Ytacbfjinellonaa.Graph
open Go.RowKit

theorem info_some {P : Program} {t : TypeId} {k b : Nat} (h : (P.info? t).map (fun i => (i.size, i.bytes)) = some (k, b)) (hz : ((P.info? t).bind (·.zero)).isSome = true) : ∃ z, (P.info? t).map (fun i => (i.zero, i.size, i.bytes)) = some (some z, k, b) := by
  obtain ⟨i, hi, hk⟩ := Option.map_eq_some_iff.1 h
  rw [hi] at hz
  obtain ⟨z, hz⟩ := Option.isSome_iff_exists.1 hz
  simp only [Option.bind_some] at hz
  injection hk with h1 h2
  exact ⟨z, by rw [hi, Option.map_some, hz, h1, h2]⟩
/-- What list gives: nil of nil; else a new row of the same cells. -/
def ListPost (t : TypeId) (p : Option Addr) (n : Nat) (cs : List Value) (w : World) (e : Ending) (w' : World) : Prop :=
  (p = none ∧ e = .returned (.slice none 0 0) ∧ w' = w) ∨ (p ≠ none ∧ e = .returned (.slice (some ⟨w.heap.size, 0, none⟩) n n) ∧ w' = w.alloc (.cells cs.toArray t))
theorem infoU : ∃ z : Value, (Try.prog.info? 44).map (fun i => (i.zero, i.size, i.bytes)) = some (some z, 1, 4) := info_some (by kernel_rfl) (by kernel_rfl)
set_option maxHeartbeats 2000000 in
set_option maxRecDepth 100000 in
theorem listU_any (p : Option Addr) (n c : Nat) (cs : List Value) (w : World) (h0 : p = none → n = 0) (hlen : cs.length = n * 1) (hc : ∀ a, p = some a → ∀ j v, cs[j]? = some v → w.cell? (a.add j) = some v) (h1 : ∀ v ∈ cs, v.oneCell' = true)
    (hb : 4 * n ≤ 281474976710656) (hn : n ≤ 9223372036854775807) :
    Calls Try.prog 40 #[.slice p n c] w (ListPost 44 p n cs w) := by
  have he : ∀ (p : Option Addr) (n c : Nat) (w : World), (binOp .eql 22 (.slice p n c) (.slice none 0 0)).run Try.prog w = .ok (.bool p.isNone) w := fun p n c w => Lib.run_eql_slice_nil w _ 44 p n c 0 0 (by kernel_rfl)
  cases p with
  | none =>
    obtain rfl := h0 rfl
    clear hc h0 hlen hb hn
    have he0 := fun w => he none 0 c w
    simp only [Option.isNone] at he0
    clear he
    go_enter Try.func40, Try.ntmps40
    go_wp2
    go_ret
    exact .inl ⟨rfl, rfl, rfl⟩
  | some a =>
    obtain ⟨z, hz⟩ := infoU
    have he1 := fun w => he (some a) n c w
    simp only [Option.isNone] at he1
    have hmk := fun w => run_make_rowK (P := Try.prog) 22 44 z 4 1 (by kernel_rfl) hz .i64 .i64 n hb hn w
    obtain ⟨zc, hzc⟩ : ∃ zc, zc = madeCells z.cells (n * 1) := ⟨_, rfl⟩
    rw [← hzc] at hmk
    have hcp : (Builtin.copy_ #[22, 22] 3 #[.slice (some ⟨w.heap.size, 0, none⟩) n n, .slice (some a) n c]).run Try.prog (w.alloc (.cells zc 44)) = .ok (goInt n) (w.alloc (.cells cs.toArray 44)) := by
      have h := run_copy_rowK (P := Try.prog) (w.alloc (.cells zc 44)) 22 22 3 44 1 w.heap.size n n a c zc 44 cs (by kernel_rfl) (by kernel_rfl) (heap_new w _) hlen
        (fun j v hj => (World.cell?_alloc_some w _ _ (by rw [hc a rfl j v hj]; rfl)).trans (hc a rfl j v hj)) (by rw [hzc, size_madeCells, hlen]) h1
      rw [setRow_alloc] at h
      exact h
    clear hc h0 hlen hb he h1 hz hzc
    go_enter Try.func40, Try.ntmps40
    go_wp2
    go_ret
    exact .inr ⟨by simp, rfl, rfl⟩
theorem infoI : ∃ z : Value, (Try.prog.info? 3).map (fun i => (i.zero, i.size, i.bytes)) = some (some z, 1, 8) := info_some (by kernel_rfl) (by kernel_rfl)
set_option maxHeartbeats 2000000 in
set_option maxRecDepth 100000 in
theorem listI_any (p : Option Addr) (n c : Nat) (cs : List Value) (w : World) (h0 : p = none → n = 0) (hlen : cs.length = n * 1) (hc : ∀ a, p = some a → ∀ j v, cs[j]? = some v → w.cell? (a.add j) = some v) (h1 : ∀ v ∈ cs, v.oneCell' = true)
    (hb : 8 * n ≤ 281474976710656) (hn : n ≤ 9223372036854775807) :
    Calls Try.prog 41 #[.slice p n c] w (ListPost 3 p n cs w) := by
  have he : ∀ (p : Option Addr) (n c : Nat) (w : World), (binOp .eql 23 (.slice p n c) (.slice none 0 0)).run Try.prog w = .ok (.bool p.isNone) w := fun p n c w => Lib.run_eql_slice_nil w _ 3 p n c 0 0 (by kernel_rfl)
  cases p with
  | none =>
    obtain rfl := h0 rfl
    clear hc h0 hlen hb hn
    have he0 := fun w => he none 0 c w
    simp only [Option.isNone] at he0
    clear he
    go_enter Try.func41, Try.ntmps41
    go_wp2
    go_ret
    exact .inl ⟨rfl, rfl, rfl⟩
  | some a =>
    obtain ⟨z, hz⟩ := infoI
    have he1 := fun w => he (some a) n c w
    simp only [Option.isNone] at he1
    have hmk := fun w => run_make_rowK (P := Try.prog) 23 3 z 8 1 (by kernel_rfl) hz .i64 .i64 n hb hn w
    obtain ⟨zc, hzc⟩ : ∃ zc, zc = madeCells z.cells (n * 1) := ⟨_, rfl⟩
    rw [← hzc] at hmk
    have hcp : (Builtin.copy_ #[23, 23] 3 #[.slice (some ⟨w.heap.size, 0, none⟩) n n, .slice (some a) n c]).run Try.prog (w.alloc (.cells zc 3)) = .ok (goInt n) (w.alloc (.cells cs.toArray 3)) := by
      have h := run_copy_rowK (P := Try.prog) (w.alloc (.cells zc 3)) 23 23 3 3 1 w.heap.size n n a c zc 3 cs (by kernel_rfl) (by kernel_rfl) (heap_new w _) hlen
        (fun j v hj => (World.cell?_alloc_some w _ _ (by rw [hc a rfl j v hj]; rfl)).trans (hc a rfl j v hj)) (by rw [hzc, size_madeCells, hlen]) h1
      rw [setRow_alloc] at h
      exact h
    clear hc h0 hlen hb he h1 hz hzc
    go_enter Try.func41, Try.ntmps41
    go_wp2
    go_ret
    exact .inr ⟨by simp, rfl, rfl⟩
theorem infoG : ∃ z : Value, (Try.prog.info? 37).map (fun i => (i.zero, i.size, i.bytes)) = some (some z, 4, 80) := info_some (by kernel_rfl) (by kernel_rfl)
set_option maxHeartbeats 2000000 in
set_option maxRecDepth 100000 in
theorem listG_any (p : Option Addr) (n c : Nat) (cs : List Value) (w : World) (h0 : p = none → n = 0) (hlen : cs.length = n * 4) (hc : ∀ a, p = some a → ∀ j v, cs[j]? = some v → w.cell? (a.add j) = some v) (h1 : ∀ v ∈ cs, v.oneCell' = true)
    (hb : 80 * n ≤ 281474976710656) (hn : n ≤ 9223372036854775807) :
    Calls Try.prog 42 #[.slice p n c] w (ListPost 37 p n cs w) := by
  have he : ∀ (p : Option Addr) (n c : Nat) (w : World), (binOp .eql 24 (.slice p n c) (.slice none 0 0)).run Try.prog w = .ok (.bool p.isNone) w := fun p n c w => Lib.run_eql_slice_nil w _ 37 p n c 0 0 (by kernel_rfl)
  cases p with
  | none =>
    obtain rfl := h0 rfl
    clear hc h0 hlen hb hn
    have he0 := fun w => he none 0 c w
    simp only [Option.isNone] at he0
    clear he
    go_enter Try.func42, Try.ntmps42
    go_wp2
    go_ret
    exact .inl ⟨rfl, rfl, rfl⟩
  | some a =>
    obtain ⟨z, hz⟩ := infoG
    have he1 := fun w => he (some a) n c w
    simp only [Option.isNone] at he1
    have hmk := fun w => run_make_rowK (P := Try.prog) 24 37 z 80 4 (by kernel_rfl) hz .i64 .i64 n hb hn w
    obtain ⟨zc, hzc⟩ : ∃ zc, zc = madeCells z.cells (n * 4) := ⟨_, rfl⟩
    rw [← hzc] at hmk
    have hcp : (Builtin.copy_ #[24, 24] 3 #[.slice (some ⟨w.heap.size, 0, none⟩) n n, .slice (some a) n c]).run Try.prog (w.alloc (.cells zc 37)) = .ok (goInt n) (w.alloc (.cells cs.toArray 37)) := by
      have h := run_copy_rowK (P := Try.prog) (w.alloc (.cells zc 37)) 24 24 3 37 4 w.heap.size n n a c zc 37 cs (by kernel_rfl) (by kernel_rfl) (heap_new w _) hlen
        (fun j v hj => (World.cell?_alloc_some w _ _ (by rw [hc a rfl j v hj]; rfl)).trans (hc a rfl j v hj)) (by rw [hzc, size_madeCells, hlen]) h1
      rw [setRow_alloc] at h
      exact h
    clear hc h0 hlen hb he h1 hz hzc
    go_enter Try.func42, Try.ntmps42
    go_wp2
    go_ret
    exact .inr ⟨by simp, rfl, rfl⟩
theorem infoA : ∃ z : Value, (Try.prog.info? 82).map (fun i => (i.zero, i.size, i.bytes)) = some (some z, 2, 16) := info_some (by kernel_rfl) (by kernel_rfl)
set_option maxHeartbeats 2000000 in
set_option maxRecDepth 100000 in
theorem listA_any (p : Option Addr) (n c : Nat) (cs : List Value) (w : World) (h0 : p = none → n = 0) (hlen : cs.length = n * 2) (hc : ∀ a, p = some a → ∀ j v, cs[j]? = some v → w.cell? (a.add j) = some v) (h1 : ∀ v ∈ cs, v.oneCell' = true)
    (hb : 16 * n ≤ 281474976710656) (hn : n ≤ 9223372036854775807) :
    Calls Try.prog 67 #[.slice p n c] w (ListPost 82 p n cs w) := by
  have he : ∀ (p : Option Addr) (n c : Nat) (w : World), (binOp .eql 34 (.slice p n c) (.slice none 0 0)).run Try.prog w = .ok (.bool p.isNone) w := fun p n c w => Lib.run_eql_slice_nil w _ 82 p n c 0 0 (by kernel_rfl)
  cases p with
  | none =>
    obtain rfl := h0 rfl
    clear hc h0 hlen hb hn
    have he0 := fun w => he none 0 c w
    simp only [Option.isNone] at he0
    clear he
    go_enter Try.func67, Try.ntmps67
    go_wp2
    go_ret
    exact .inl ⟨rfl, rfl, rfl⟩
  | some a =>
    obtain ⟨z, hz⟩ := infoA
    have he1 := fun w => he (some a) n c w
    simp only [Option.isNone] at he1
    have hmk := fun w => run_make_rowK (P := Try.prog) 34 82 z 16 2 (by kernel_rfl) hz .i64 .i64 n hb hn w
    obtain ⟨zc, hzc⟩ : ∃ zc, zc = madeCells z.cells (n * 2) := ⟨_, rfl⟩
    rw [← hzc] at hmk
    have hcp : (Builtin.copy_ #[34, 34] 3 #[.slice (some ⟨w.heap.size, 0, none⟩) n n, .slice (some a) n c]).run Try.prog (w.alloc (.cells zc 82)) = .ok (goInt n) (w.alloc (.cells cs.toArray 82)) := by
      have h := run_copy_rowK (P := Try.prog) (w.alloc (.cells zc 82)) 34 34 3 82 2 w.heap.size n n a c zc 82 cs (by kernel_rfl) (by kernel_rfl) (heap_new w _) hlen
        (fun j v hj => (World.cell?_alloc_some w _ _ (by rw [hc a rfl j v hj]; rfl)).trans (hc a rfl j v hj)) (by rw [hzc, size_madeCells, hlen]) h1
      rw [setRow_alloc] at h
      exact h
    clear hc h0 hlen hb he h1 hz hzc
    go_enter Try.func67, Try.ntmps67
    go_wp2
    go_ret
    exact .inr ⟨by simp, rfl, rfl⟩
theorem infoB : ∃ z : Value, (Try.prog.info? 50).map (fun i => (i.zero, i.size, i.bytes)) = some (some z, 10, 128) := info_some (by kernel_rfl) (by kernel_rfl)
set_option maxHeartbeats 2000000 in
set_option maxRecDepth 100000 in
theorem listB_any (p : Option Addr) (n c : Nat) (cs : List Value) (w : World) (h0 : p = none → n = 0) (hlen : cs.length = n * 10) (hc : ∀ a, p = some a → ∀ j v, cs[j]? = some v → w.cell? (a.add j) = some v) (h1 : ∀ v ∈ cs, v.oneCell' = true)
    (hb : 128 * n ≤ 281474976710656) (hn : n ≤ 9223372036854775807) :
    Calls Try.prog 68 #[.slice p n c] w (ListPost 50 p n cs w) := by
  have he : ∀ (p : Option Addr) (n c : Nat) (w : World), (binOp .eql 35 (.slice p n c) (.slice none 0 0)).run Try.prog w = .ok (.bool p.isNone) w := fun p n c w => Lib.run_eql_slice_nil w _ 50 p n c 0 0 (by kernel_rfl)
  cases p with
  | none =>
    obtain rfl := h0 rfl
    clear hc h0 hlen hb hn
    have he0 := fun w => he none 0 c w
    simp only [Option.isNone] at he0
    clear he
    go_enter Try.func68, Try.ntmps68
    go_wp2
    go_ret
    exact .inl ⟨rfl, rfl, rfl⟩
  | some a =>
    obtain ⟨z, hz⟩ := infoB
    have he1 := fun w => he (some a) n c w
    simp only [Option.isNone] at he1
    have hmk := fun w => run_make_rowK (P := Try.prog) 35 50 z 128 10 (by kernel_rfl) hz .i64 .i64 n hb hn w
    obtain ⟨zc, hzc⟩ : ∃ zc, zc = madeCells z.cells (n * 10) := ⟨_, rfl⟩
    rw [← hzc] at hmk
    have hcp : (Builtin.copy_ #[35, 35] 3 #[.slice (some ⟨w.heap.size, 0, none⟩) n n, .slice (some a) n c]).run Try.prog (w.alloc (.cells zc 50)) = .ok (goInt n) (w.alloc (.cells cs.toArray 50)) := by
      have h := run_copy_rowK (P := Try.prog) (w.alloc (.cells zc 50)) 35 35 3 50 10 w.heap.size n n a c zc 50 cs (by kernel_rfl) (by kernel_rfl) (heap_new w _) hlen
        (fun j v hj => (World.cell?_alloc_some w _ _ (by rw [hc a rfl j v hj]; rfl)).trans (hc a rfl j v hj)) (by rw [hzc, size_madeCells, hlen]) h1
      rw [setRow_alloc] at h
      exact h
    clear hc h0 hlen hb he h1 hz hzc
    go_enter Try.func68, Try.ntmps68
    go_wp2
    go_ret
    exact .inr ⟨by simp, rfl, rfl⟩
theorem infoN : ∃ z : Value, (Try.prog.info? 70).map (fun i => (i.zero, i.size, i.bytes)) = some (some z, 8, 96) := info_some (by kernel_rfl) (by kernel_rfl)
set_option maxHeartbeats 2000000 in
set_option maxRecDepth 100000 in
theorem listN_any (p : Option Addr) (n c : Nat) (cs : List Value) (w : World) (h0 : p = none → n = 0) (hlen : cs.length = n * 8) (hc : ∀ a, p = some a → ∀ j v, cs[j]? = some v → w.cell? (a.add j) = some v) (h1 : ∀ v ∈ cs, v.oneCell' = true)
    (hb : 96 * n ≤ 281474976710656) (hn : n ≤ 9223372036854775807) :
    Calls Try.prog 97 #[.slice p n c] w (ListPost 70 p n cs w) := by
  have he : ∀ (p : Option Addr) (n c : Nat) (w : World), (binOp .eql 48 (.slice p n c) (.slice none 0 0)).run Try.prog w = .ok (.bool p.isNone) w := fun p n c w => Lib.run_eql_slice_nil w _ 70 p n c 0 0 (by kernel_rfl)
  cases p with
  | none =>
    obtain rfl := h0 rfl
    clear hc h0 hlen hb hn
    have he0 := fun w => he none 0 c w
    simp only [Option.isNone] at he0
    clear he
    go_enter Try.func97, Try.ntmps97
    go_wp2
    go_ret
    exact .inl ⟨rfl, rfl, rfl⟩
  | some a =>
    obtain ⟨z, hz⟩ := infoN
    have he1 := fun w => he (some a) n c w
    simp only [Option.isNone] at he1
    have hmk := fun w => run_make_rowK (P := Try.prog) 48 70 z 96 8 (by kernel_rfl) hz .i64 .i64 n hb hn w
    obtain ⟨zc, hzc⟩ : ∃ zc, zc = madeCells z.cells (n * 8) := ⟨_, rfl⟩
    rw [← hzc] at hmk
    have hcp : (Builtin.copy_ #[48, 48] 3 #[.slice (some ⟨w.heap.size, 0, none⟩) n n, .slice (some a) n c]).run Try.prog (w.alloc (.cells zc 70)) = .ok (goInt n) (w.alloc (.cells cs.toArray 70)) := by
      have h := run_copy_rowK (P := Try.prog) (w.alloc (.cells zc 70)) 48 48 3 70 8 w.heap.size n n a c zc 70 cs (by kernel_rfl) (by kernel_rfl) (heap_new w _) hlen
        (fun j v hj => (World.cell?_alloc_some w _ _ (by rw [hc a rfl j v hj]; rfl)).trans (hc a rfl j v hj)) (by rw [hzc, size_madeCells, hlen]) h1
      rw [setRow_alloc] at h
      exact h
    clear hc h0 hlen hb he h1 hz hzc
    go_enter Try.func97, Try.ntmps97
    go_wp2
    go_ret
    exact .inr ⟨by simp, rfl, rfl⟩
theorem infoC : ∃ z : Value, (Try.prog.info? 76).map (fun i => (i.zero, i.size, i.bytes)) = some (some z, 2, 16) := info_some (by kernel_rfl) (by kernel_rfl)
set_option maxHeartbeats 2000000 in
set_option maxRecDepth 100000 in
theorem listC_any (p : Option Addr) (n c : Nat) (cs : List Value) (w : World) (h0 : p = none → n = 0) (hlen : cs.length = n * 2) (hc : ∀ a, p = some a → ∀ j v, cs[j]? = some v → w.cell? (a.add j) = some v) (h1 : ∀ v ∈ cs, v.oneCell' = true)
    (hb : 16 * n ≤ 281474976710656) (hn : n ≤ 9223372036854775807) :
    Calls Try.prog 98 #[.slice p n c] w (ListPost 76 p n cs w) := by
  have he : ∀ (p : Option Addr) (n c : Nat) (w : World), (binOp .eql 45 (.slice p n c) (.slice none 0 0)).run Try.prog w = .ok (.bool p.isNone) w := fun p n c w => Lib.run_eql_slice_nil w _ 76 p n c 0 0 (by kernel_rfl)
  cases p with
  | none =>
    obtain rfl := h0 rfl
    clear hc h0 hlen hb hn
    have he0 := fun w => he none 0 c w
    simp only [Option.isNone] at he0
    clear he
    go_enter Try.func98, Try.ntmps98
    go_wp2
    go_ret
    exact .inl ⟨rfl, rfl, rfl⟩
  | some a =>
    obtain ⟨z, hz⟩ := infoC
    have he1 := fun w => he (some a) n c w
    simp only [Option.isNone] at he1
    have hmk := fun w => run_make_rowK (P := Try.prog) 45 76 z 16 2 (by kernel_rfl) hz .i64 .i64 n hb hn w
    obtain ⟨zc, hzc⟩ : ∃ zc, zc = madeCells z.cells (n * 2) := ⟨_, rfl⟩
    rw [← hzc] at hmk
    have hcp : (Builtin.copy_ #[45, 45] 3 #[.slice (some ⟨w.heap.size, 0, none⟩) n n, .slice (some a) n c]).run Try.prog (w.alloc (.cells zc 76)) = .ok (goInt n) (w.alloc (.cells cs.toArray 76)) := by
      have h := run_copy_rowK (P := Try.prog) (w.alloc (.cells zc 76)) 45 45 3 76 2 w.heap.size n n a c zc 76 cs (by kernel_rfl) (by kernel_rfl) (heap_new w _) hlen
        (fun j v hj => (World.cell?_alloc_some w _ _ (by rw [hc a rfl j v hj]; rfl)).trans (hc a rfl j v hj)) (by rw [hzc, size_madeCells, hlen]) h1
      rw [setRow_alloc] at h
      exact h
    clear hc h0 hlen hb he h1 hz hzc
    go_enter Try.func98, Try.ntmps98
    go_wp2
    go_ret
    exact .inr ⟨by simp, rfl, rfl⟩
end Go.Proofs.Ytacbfjinellonaa.Graph
