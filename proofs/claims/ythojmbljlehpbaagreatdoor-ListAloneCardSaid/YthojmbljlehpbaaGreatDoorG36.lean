/- Lists of lines alike. No condition but sizes. -/
import Derived.Test.YthojmbljlehpbaaGreatDoorG35
import Derived.Test.YthojmbljlehpbaaGreatDoorG21
namespace Go.Proofs.YthojmbljlehpbaaGreatDoor.Lists
open Go.RowKit Go.Proofs.YthojmbljlehpbaaGreatDoor.Relax Go.Proofs.YthojmbljlehpbaaGreatDoor.Graph
open Go.Lib hiding intOf
open Go.Proofs.YthojmbljlehpbaaGreatDoor.Enc hiding below_one bt ret_bool

theorem lines_at {w : World} {p : Option Addr} {n c : Nat} {l : List PL} (h : LinesR w (.slice p n c) l) (hn : n = l.length) {k : Nat} (hk : k < n) :
    ∃ b o x lp lc, p = some ⟨b, o, none⟩ ∧ l[k]? = some x ∧ b < w.heap.size ∧ n ≤ c ∧ c ≤ 9223372036854775807 ∧ LineR w b (o + k * 7) x (.slice lp x.list.length lc) := by
  obtain ⟨b, o, c', h1, h2, h3, h4⟩ := SlR.form2 h (by omega)
  injection h1 with h1 _ h5
  subst h1 h5
  obtain ⟨x, hx⟩ : ∃ x, l[k]? = some x := ⟨_, List.getElem?_eq_getElem (by omega)⟩
  obtain ⟨vl, hv⟩ := h4 k (by omega) x hx
  obtain ⟨lp, lc, rfl⟩ := hv.list.form
  exact ⟨b, o, x, lp, lc, rfl, hx, h3, by rw [hn]; exact h2.1, h2.2, hv⟩
theorem ints_at {w : World} {p : Option Addr} {n c : Nat} {l : List Int} (h : IntsR w (.slice p n c) l) (hn : n = l.length) {k : Nat} (hk : k < n) :
    ∃ b o v, p = some ⟨b, o, none⟩ ∧ l[k]? = some v ∧ b < w.heap.size ∧ n ≤ c ∧ c ≤ 9223372036854775807 ∧ w.cell? ⟨b, o + k, none⟩ = some (.int .i64 v) := by
  obtain ⟨b, o, c', h1, h2, h3, h4⟩ := SlR.form2 h (by omega)
  injection h1 with h1 _ h5
  subst h1 h5
  obtain ⟨x, hx⟩ : ∃ x, l[k]? = some x := ⟨_, List.getElem?_eq_getElem (by omega)⟩
  have hv := h4 k (by omega) x hx
  rw [Nat.mul_one] at hv
  exact ⟨b, o, x, rfl, hx, h3, by rw [hn]; exact h2.1, h2.2, hv⟩
set_option maxHeartbeats 16000000 in
set_option maxRecDepth 100000 in
theorem sameLines_any (l : List PL) (pa pb : Option Addr) (ca cb : Nat) (w : World) (ha : LinesR w (.slice pa l.length ca) l) (hb : LinesR w (.slice pb l.length cb) l) (hn9 : l.length ≤ 100000000000000) (hl9 : ∀ x ∈ l, x.list.length ≤ 100000000000000) :
    Calls Tryz.prog 16 #[.slice pa l.length ca, .slice pb l.length cb] w fun e w' => e = .returned (.bool true) ∧ Below w.heap.size w w' := by
  obtain ⟨n, hnn⟩ : ∃ n, n = l.length := ⟨_, rfl⟩
  have HA : Hid (∀ k, k < n → ∀ W, Below w.heap.size w W → ∃ b o x lp lc, pa = some ⟨b, o, none⟩ ∧ l[k]? = some x ∧ b < W.heap.size ∧ n ≤ ca ∧ ca ≤ 9223372036854775807 ∧ LineR W b (o + k * 7) x (.slice lp x.list.length lc)) := Lib.hid (fun k hk W hW => lines_at (by rw [hnn]; exact ha.below hW) hnn hk)
  have HB : Hid (∀ k, k < n → ∀ W, Below w.heap.size w W → ∃ b o x lp lc, pb = some ⟨b, o, none⟩ ∧ l[k]? = some x ∧ b < W.heap.size ∧ n ≤ cb ∧ cb ≤ 9223372036854775807 ∧ LineR W b (o + k * 7) x (.slice lp x.list.length lc)) := Lib.hid (fun k hk W hW => lines_at (by rw [hnn]; exact hb.below hW) hnn hk)
  have HL := Lib.hid hl9
  rw [← hnn] at hn9 ⊢
  have i2 : (n : Int) ≤ 100000000000000 := by omega
  clear ha hb hl9 hnn
  go_enter Tryz.func16, Tryz.ntmps16
  go_wp2
  go_loopw [5, 6, 7, 8] (fun i _ _ _ wr => ∃ k : Nat, k ≤ n ∧ i = .int .i64 k ∧ Hid (Below w.heap.size w wr)) (fun i _ _ _ _ => n - (intOf i).toNat)
  case atStart => exact ⟨0, Nat.zero_le _, rfl, Lib.hid (Below.refl _ _)⟩
  case round =>
    obtain ⟨k, hk, rfl, HW⟩ := hrel
    have k0 : (0 : Int) ≤ k := by omega
    by_cases hkn : k < n
    · obtain ⟨gb, go_, x, lp, lc, rfl, hx, hbl, hc1, hc2, hLa⟩ := HA.out k hkn wr HW.out
      obtain ⟨gb2, go2, x2, lp2, lc2, rfl, hx2, hbl2, hd1, hd2, hLb⟩ := HB.out k hkn wr HW.out
      rw [hx] at hx2
      injection hx2 with hx2
      subst hx2
      have k1 : (k : Int) < n := by omega
      have c1 : (n : Int) ≤ ca := by omega
      have c2 : (n : Int) ≤ cb := by omega
      obtain ⟨m, hm⟩ : ∃ m, m = x.list.length := ⟨_, rfl⟩
      have hm9 : m ≤ 100000000000000 := by rw [hm]; exact HL.out x (List.mem_of_getElem? hx)
      have m2 : (m : Int) ≤ 100000000000000 := by omega
      have hLal := hLa.list
      have hLbl := hLb.list
      have q0 := hLa.op
      have q1 := hLa.fa
      have q2 := hLa.fb
      have q3 := hLa.imm
      have q4 := hLa.n
      have q5 := hLa.label
      have q6 := hLa.cl
      have s0 := hLb.op
      have s1 := hLb.fa
      have s2 := hLb.fb
      have s3 := hLb.imm
      have s4 := hLb.n
      have s5 := hLb.label
      have s6 := hLb.cl
      rw [← hm] at q6 s6 hLal hLbl
      obtain ⟨W2, hW2⟩ : ∃ W2, W2 = (wr.alloc (.cells #[.int .i64 x.op, .int .i64 x.a, .int .i64 x.b, .int .i64 x.imm, .int .u32 x.n, .int .i64 x.label, .slice lp m lc] 52)).alloc (.cells #[.int .i64 x.op, .int .i64 x.a, .int .i64 x.b, .int .i64 x.imm, .int .u32 x.n, .int .i64 x.label, .slice lp2 m lc2] 52) := ⟨_, rfl⟩
      have hb12 : Below wr.heap.size wr W2 := by rw [hW2]; exact (below_one wr _).alloc (below_one wr _).size _
      have h1 : W2.heap[wr.heap.size]? = some (.cells #[.int .i64 x.op, .int .i64 x.a, .int .i64 x.b, .int .i64 x.imm, .int .u32 x.n, .int .i64 x.label, .slice lp m lc] 52 (0, 0)) := by
        rw [hW2, Below.heap_alloc _ _ _ (by simp)]; exact heap_alloc_new wr _
      have h2 : W2.heap[wr.heap.size + 1]? = some (.cells #[.int .i64 x.op, .int .i64 x.a, .int .i64 x.b, .int .i64 x.imm, .int .u32 x.n, .int .i64 x.label, .slice lp2 m lc2] 52 (0, 0)) := by
        rw [hW2]; have := heap_alloc_new (wr.alloc (.cells #[.int .i64 x.op, .int .i64 x.a, .int .i64 x.b, .int .i64 x.imm, .int .u32 x.n, .int .i64 x.label, .slice lp m lc] 52)) (.cells #[.int .i64 x.op, .int .i64 x.a, .int .i64 x.b, .int .i64 x.imm, .int .u32 x.n, .int .i64 x.label, .slice lp2 m lc2] 52); simpa using this
      have HQ1 : Hid (∀ W, Below W2.heap.size W2 W → W.cell? ⟨wr.heap.size, 0, none⟩ = some (.int .i64 x.op) ∧ W.cell? ⟨wr.heap.size, 1, none⟩ = some (.int .i64 x.a) ∧ W.cell? ⟨wr.heap.size, 2, none⟩ = some (.int .i64 x.b) ∧ W.cell? ⟨wr.heap.size, 3, none⟩ = some (.int .i64 x.imm) ∧ W.cell? ⟨wr.heap.size, 4, none⟩ = some (.int .u32 x.n) ∧ W.cell? ⟨wr.heap.size, 5, none⟩ = some (.int .i64 x.label) ∧ W.cell? ⟨wr.heap.size, 6, none⟩ = some (.slice lp m lc)) := Lib.hid (fun W hW => by
        have h := (hW.block _ (Array.getElem?_eq_some_iff.1 h1).1).trans h1
        exact ⟨cell_of_block h rfl, cell_of_block h rfl, cell_of_block h rfl, cell_of_block h rfl, cell_of_block h rfl, cell_of_block h rfl, cell_of_block h rfl⟩)
      have HQ2 : Hid (∀ W, Below W2.heap.size W2 W → W.cell? ⟨wr.heap.size + 1, 0, none⟩ = some (.int .i64 x.op) ∧ W.cell? ⟨wr.heap.size + 1, 1, none⟩ = some (.int .i64 x.a) ∧ W.cell? ⟨wr.heap.size + 1, 2, none⟩ = some (.int .i64 x.b) ∧ W.cell? ⟨wr.heap.size + 1, 3, none⟩ = some (.int .i64 x.imm) ∧ W.cell? ⟨wr.heap.size + 1, 4, none⟩ = some (.int .u32 x.n) ∧ W.cell? ⟨wr.heap.size + 1, 5, none⟩ = some (.int .i64 x.label) ∧ W.cell? ⟨wr.heap.size + 1, 6, none⟩ = some (.slice lp2 m lc2)) := Lib.hid (fun W hW => by
        have h := (hW.block _ (Array.getElem?_eq_some_iff.1 h2).1).trans h2
        exact ⟨cell_of_block h rfl, cell_of_block h rfl, cell_of_block h rfl, cell_of_block h rfl, cell_of_block h rfl, cell_of_block h rfl, cell_of_block h rfl⟩)
      have HI1 : Hid (∀ j, j < m → ∀ W, Below W2.heap.size W2 W → ∃ b o v, lp = some ⟨b, o, none⟩ ∧ x.list[j]? = some v ∧ b < W.heap.size ∧ m ≤ lc ∧ lc ≤ 9223372036854775807 ∧ W.cell? ⟨b, o + j, none⟩ = some (.int .i64 v)) := Lib.hid (fun j hj W hW => ints_at (IntsR.below (by rw [hm] at hLal; rw [hm]; exact hLal) (bt hb12 hW)) hm hj)
      have HI2 : Hid (∀ j, j < m → ∀ W, Below W2.heap.size W2 W → ∃ b o v, lp2 = some ⟨b, o, none⟩ ∧ x.list[j]? = some v ∧ b < W.heap.size ∧ m ≤ lc2 ∧ lc2 ≤ 9223372036854775807 ∧ W.cell? ⟨b, o + j, none⟩ = some (.int .i64 v)) := Lib.hid (fun j hj W hW => ints_at (IntsR.below (by rw [hm] at hLbl; rw [hm]; exact hLbl) (bt hb12 hW)) hm hj)
      have HW2 := Lib.hid (bt HW.out hb12)
      have HKN := Lib.hid hkn
      clear hLa hLb hLal hLbl hm h1 h2 hb12 hx
      go_upto_region 8 with (fail)
      rw [← hW2]
      clear hW2 q0 q1 q2 q3 q4 q5 q6 s0 s1 s2 s3 s4 s5 s6
      obtain ⟨q0, q1, q2, q3, q4, q5, q6⟩ := HQ1.out W2 (Below.refl _ _)
      obtain ⟨s0, s1, s2, s3, s4, s5, s6⟩ := HQ2.out W2 (Below.refl _ _)
      go_wp2
      clear q0 q1 q2 q3 q4 q5 q6 s0 s1 s2 s3 s4 s5 s6
      go_loopw [8] (fun i wq => ∃ j : Nat, j ≤ m ∧ i = .int .i64 j ∧ Hid (Below W2.heap.size W2 wq)) (fun i _ => m - (intOf i).toNat)
      case atStart => exact ⟨0, Nat.zero_le _, rfl, Lib.hid (Below.refl _ _)⟩
      case round =>
        obtain ⟨j, hj, rfl, HV⟩ := hrel
        have j0 : (0 : Int) ≤ j := by omega
        obtain ⟨q0, q1, q2, q3, q4, q5, q6⟩ := HQ1.out _ HV.out
        obtain ⟨s0, s1, s2, s3, s4, s5, s6⟩ := HQ2.out _ HV.out
        by_cases hjm : j < m
        · obtain ⟨b1, o1, v, rfl, hv, hbb, e1, e2, e3⟩ := HI1.out j hjm _ HV.out
          obtain ⟨b2, o2, v2, rfl, hv2, hbb2, e4, e5, e6⟩ := HI2.out j hjm _ HV.out
          rw [hv] at hv2
          injection hv2 with hv2
          subst hv2
          have j1 : (j : Int) < m := by omega
          have j2 : (m : Int) ≤ lc := by omega
          have j3 : (m : Int) ≤ lc2 := by omega
          clear hv
          go_upto_region 13 with (fail)
          go_quiet (fail)
          go_wp2
          go_roundw
          case rel => exact ⟨j + 1, by omega, by go_num, Lib.hid (HV.out.trans ⟨rfl, rfl, rfl, Nat.le_refl _, fun _ _ => rfl⟩)⟩
          case measure => simp [intOf]; omega
        · have j1 : ¬ (j : Int) < m := by omega
          go_wp2
          go_roundw
          case rel => exact ⟨k + 1, by have := HKN.out; omega, by go_num, Lib.hid (bt HW2.out HV.out)⟩
          case measure => have := HKN.out; simp [intOf]; omega
    · have k1 : ¬ (k : Int) < n := by omega
      go_wp2
      go_ret
      exact ⟨rfl, HW.out⟩
end Go.Proofs.YthojmbljlehpbaaGreatDoor.Lists
