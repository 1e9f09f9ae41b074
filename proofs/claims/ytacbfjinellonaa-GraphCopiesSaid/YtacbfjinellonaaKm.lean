/- The law's spoils, at any module that lies in blocks of its own. -/
import Derived.Test.YtacbfjinellonaaKS
namespace Go.Proofs.Ytacbfjinellonaa.Graph
open Go.RowKit

set_option maxHeartbeats 8000000 in
set_option maxRecDepth 100000 in
theorem spoils_any (S : Nat → Prop) (x : PMod) (vg va vf : Value) (w : World) (hS : ∀ b, S b → b < w.heap.size) (hu : ∀ b, S b → Unf w b) (hL : ModL (cutW S w) vg va vf x) (hs : SmM x) :
    Calls Try.prog 18 #[modV x vg va vf] w fun e w' => e = .returned (.tuple #[]) ∧ Soft S w w' := by
  obtain ⟨s1, s2, s3, s4⟩ := hs
  have HL := Lib.hid hL
  have HSB := Lib.hid hS
  have HU := Lib.hid hu
  obtain ⟨gp, gc, rfl⟩ := hL.globals.form
  obtain ⟨ap, ac, rfl⟩ := hL.arrays.form
  obtain ⟨fp, fc, rfl⟩ := hL.funcs.form
  have HS1 := Lib.hid s1
  have HS2 := Lib.hid s2
  have HS3 := Lib.hid s3
  have HS4 := Lib.hid s4
  clear hL s1 s2 s3 s4 hS hu
  unfold modV
  go_enter Try.func18, Try.ntmps18
  go_upto_region 1 with (fail)
  have HN1 := Lib.hid (heap_new w (.cells #[.slice gp x.globals.length gc, .slice ap x.arrays.length ac, .slice fp x.funcs.length fc, .int .i64 x.main] 26))
  have HB1 := Lib.hid (below_alloc w (.cells #[.slice gp x.globals.length gc, .slice ap x.arrays.length ac, .slice fp x.funcs.length fc, .int .i64 x.main] 26))
  have hlt1 : w.heap.size < (w.alloc (.cells #[.slice gp x.globals.length gc, .slice ap x.arrays.length ac, .slice fp x.funcs.length fc, .int .i64 x.main] 26)).heap.size := by rw [World.size_alloc]; omega
  generalize hw1 : w.alloc (.cells #[.slice gp x.globals.length gc, .slice ap x.arrays.length ac, .slice fp x.funcs.length fc, .int .i64 x.main] 26) = w1
  rw [hw1] at HN1 HB1 hlt1
  obtain ⟨g, hg⟩ : ∃ g, g = w.heap.size := ⟨_, rfl⟩
  have HNS : Hid (¬ S g) := Lib.hid (fun h => by have := HSB.out g h; omega)
  rw [← hg] at HN1 hlt1
  rw [← hg]
  clear hw1 hg
  have HSF1 : Hid (Soft S w w1) := Lib.hid (Soft.grow HB1.out)
  have HBX := Lib.hid (fun (wr : World) (h : Soft S w1 wr) => (h.out g hlt1 HNS.out).trans HN1.out)
  clear HN1 HB1
  obtain ⟨n1, hn1⟩ : ∃ n, n = x.globals.length := ⟨_, rfl⟩
  have HN1 := Lib.hid hn1
  have hnI1 : (n1 : Int) ≤ 9223372036854775807 := by have := HS1.out; unfold reachBytes at this; omega
  rw [← hn1] at HBX
  rw [← hn1]
  clear hn1
  go_wp2
  skip
  go_loopw [2] (fun i wr => ∃ k : Nat, k ≤ n1 ∧ i = .int .i64 k ∧ Hid (Soft S w1 wr)) (fun i _ => n1 - (intOf i).toNat)
  case atStart => exact ⟨0, Nat.zero_le _, rfl, Lib.hid (Soft.refl _ _)⟩
  case round =>
    obtain ⟨k1, hk, rfl, HW1⟩ := hrel
    have HROW := Lib.hid (HBX.out _ HW1.out)
    obtain ⟨b0, _⟩ := cell_of_block HROW.out (k := 0) rfl
    have hgr : g < wr.heap.size := lt_of_block HROW.out
    by_cases hlt1 : k1 < n1
    · have hkl1 : k1 < x.globals.length := by rw [← HN1.out]; exact hlt1
      have k01 : (0 : Int) ≤ k1 := by omega
      have k11 : (k1 : Int) < n1 := by omega
      obtain ⟨b, o, c', hv, _, _, hc⟩ := SlR.form2 HL.out.globals (Nat.lt_of_le_of_lt (Nat.zero_le _) hkl1)
      injection hv with hv hle hce
      subst hv hce
      clear hle
      have h1 := hc k1 hkl1 _ (List.getElem?_eq_getElem hkl1)
      try rw [Nat.mul_one] at h1
      obtain ⟨hSb, ⟨m, hm⟩, hf, hbl⟩ := (HSF1.out.trans HW1.out).spot HU.out h1
      have HNX := Lib.hid (HW1.out.trans (Soft.set 77 hSb hm))
      clear hc h1 hSb
      go_wp2
      exact ⟨⟨k1 + 1, Nat.succ_le_of_lt hlt1, by go_num, HNX⟩, by simp [intOf]; omega⟩
    · obtain rfl : k1 = n1 := by omega
      obtain ⟨n2, hn2⟩ : ∃ n, n = x.arrays.length := ⟨_, rfl⟩
      have HN2 := Lib.hid hn2
      have hnI2 : (n2 : Int) ≤ 9223372036854775807 := by have := HS2.out; unfold reachBytes at this; omega
      rw [← hn2] at HBX
      rw [← hn2]
      clear hn2
      go_wp2
      clear b0 hgr
      go_loopw [3] (fun i wr => ∃ k : Nat, k ≤ n2 ∧ i = .int .i64 k ∧ Hid (Soft S w1 wr)) (fun i _ => n2 - (intOf i).toNat)
      case atStart => exact ⟨0, Nat.zero_le _, rfl, HW1⟩
      case round =>
        obtain ⟨k2, hk, rfl, HW2⟩ := hrel
        have HROW := Lib.hid (HBX.out _ HW2.out)
        obtain ⟨b0, _⟩ := cell_of_block HROW.out (k := 1) rfl
        have hgr : g < wr.heap.size := lt_of_block HROW.out
        by_cases hlt2 : k2 < n2
        · have hkl2 : k2 < x.arrays.length := by rw [← HN2.out]; exact hlt2
          have k02 : (0 : Int) ≤ k2 := by omega
          have k12 : (k2 : Int) < n2 := by omega
          obtain ⟨b, o, c', hv, _, _, hc⟩ := SlR.form2 HL.out.arrays (Nat.lt_of_le_of_lt (Nat.zero_le _) hkl2)
          injection hv with hv hle hce
          subst hv hce
          clear hle
          have h1 := hc k2 hkl2 _ (List.getElem?_eq_getElem hkl2)
          try rw [Nat.mul_one] at h1
          obtain ⟨hSb, ⟨m, hm⟩, hf, hbl⟩ := (HSF1.out.trans HW2.out).spot HU.out h1
          have HNX := Lib.hid (HW2.out.trans (Soft.set (-1) hSb hm))
          clear hc h1 hSb
          go_wp2
          exact ⟨⟨k2 + 1, Nat.succ_le_of_lt hlt2, by go_num, HNX⟩, by simp [intOf]; omega⟩
        · obtain rfl : k2 = n2 := by omega
          obtain ⟨n3, hn3⟩ : ∃ n, n = x.funcs.length := ⟨_, rfl⟩
          have HN3 := Lib.hid hn3
          have hnI3 : (n3 : Int) ≤ 9223372036854775807 := by have := HS3.out; unfold reachBytes at this; omega
          rw [← hn3] at HBX
          rw [← hn3]
          clear hn3
          go_wp2
          clear b0 hgr
          go_loopw [4] (fun i wr => ∃ k : Nat, k ≤ n3 ∧ i = .int .i64 k ∧ Hid (Soft S w1 wr)) (fun i _ => n3 - (intOf i).toNat)
          case atStart => exact ⟨0, Nat.zero_le _, rfl, HW2⟩
          case round =>
            obtain ⟨k3, hk, rfl, HW3⟩ := hrel
            have HROW := Lib.hid (HBX.out _ HW3.out)
            obtain ⟨b0, _⟩ := cell_of_block HROW.out (k := 2) rfl
            have hgr : g < wr.heap.size := lt_of_block HROW.out
            by_cases hlt3 : k3 < n3
            · have hkl3 : k3 < x.funcs.length := by rw [← HN3.out]; exact hlt3
              have k03 : (0 : Int) ≤ k3 := by omega
              have k13 : (k3 : Int) < n3 := by omega
              obtain ⟨b, o, c', hv, _, _, hc⟩ := SlR.form2 HL.out.funcs (Nat.lt_of_le_of_lt (Nat.zero_le _) hkl3)
              injection hv with hv hle hce
              subst hv hce
              clear hle
              obtain ⟨vp, va, vb, hgr3⟩ := hc k3 hkl3 _ (List.getElem?_eq_getElem hkl3)
              have HSG := Lib.hid (HS4.out _ (List.getElem_mem hkl3))
              have HGL := Lib.hid hgr3.l
              obtain ⟨pp, pc, rfl⟩ := hgr3.l.params.form
              obtain ⟨qp, qc, rfl⟩ := hgr3.l.arrays.form
              obtain ⟨bp, bc, rfl⟩ := hgr3.l.blocks.form
              have HSW := Lib.hid (HSF1.out.trans HW3.out)
              obtain ⟨c0, hbl⟩ := HSW.out.slice hgr3.cp
              obtain ⟨_, ⟨m1, c1⟩, _, _⟩ := HSW.out.spot HU.out hgr3.temps
              obtain ⟨c2, _⟩ := HSW.out.slice hgr3.ca
              obtain ⟨c3, _⟩ := HSW.out.slice hgr3.cb
              clear hc hgr3
              go_upto_region 13 with (fail)
              have HN5 := Lib.hid (heap_new wr (.cells #[.slice pp x.funcs[k3].params.length pc, .int .i64 m1, .slice qp x.funcs[k3].arrays.length qc, .slice bp x.funcs[k3].blocks.length bc] 37))
              have HB5 := Lib.hid (below_alloc wr (.cells #[.slice pp x.funcs[k3].params.length pc, .int .i64 m1, .slice qp x.funcs[k3].arrays.length qc, .slice bp x.funcs[k3].blocks.length bc] 37))
              have hlt5 : wr.heap.size < (wr.alloc (.cells #[.slice pp x.funcs[k3].params.length pc, .int .i64 m1, .slice qp x.funcs[k3].arrays.length qc, .slice bp x.funcs[k3].blocks.length bc] 37)).heap.size := by rw [World.size_alloc]; omega
              generalize hw5 : wr.alloc (.cells #[.slice pp x.funcs[k3].params.length pc, .int .i64 m1, .slice qp x.funcs[k3].arrays.length qc, .slice bp x.funcs[k3].blocks.length bc] 37) = w5
              rw [hw5] at HN5 HB5 hlt5
              obtain ⟨g5, hg⟩ : ∃ g, g = wr.heap.size := ⟨_, rfl⟩
              have HNS5 : Hid (¬ S g5) := Lib.hid (fun h => by have := HSB.out g5 h; have := HSW.out.size; omega)
              rw [← hg] at HN5 hlt5
              rw [← hg]
              clear hw5 hg b0 hgr c0 c1 c2 c3 hbl
              have HSX5 : Hid (Soft S w1 w5) := Lib.hid (HW3.out.trans (Soft.grow HB5.out))
              have HSF5 : Hid (Soft S w w5) := Lib.hid (HSF1.out.trans HSX5.out)
              have HBY := Lib.hid (fun (wr : World) (h : Soft S w5 wr) => (h.out g5 hlt5 HNS5.out).trans HN5.out)
              clear HN5 HB5 HROW
              obtain ⟨n4, hn4⟩ : ∃ n, n = (x.funcs[k3]).params.length := ⟨_, rfl⟩
              have HN4 := Lib.hid hn4
              have hnI4 : (n4 : Int) ≤ 9223372036854775807 := by have := HSG.out.1; unfold reachBytes at this; omega
              rw [← hn4] at HBY
              rw [← hn4]
              clear hn4
              go_wp2
              skip
              go_loopw [6] (fun i wr => ∃ k : Nat, k ≤ n4 ∧ i = .int .i64 k ∧ Hid (Soft S w5 wr)) (fun i _ => n4 - (intOf i).toNat)
              case atStart => exact ⟨0, Nat.zero_le _, rfl, Lib.hid (Soft.refl _ _)⟩
              case round =>
                obtain ⟨k4, hk, rfl, HW4⟩ := hrel
                have HROW := Lib.hid (HBY.out _ HW4.out)
                obtain ⟨b0, _⟩ := cell_of_block HROW.out (k := 0) rfl
                have hgr : g5 < wr.heap.size := lt_of_block HROW.out
                by_cases hlt4 : k4 < n4
                · have hkl4 : k4 < (x.funcs[k3]).params.length := by rw [← HN4.out]; exact hlt4
                  have k04 : (0 : Int) ≤ k4 := by omega
                  have k14 : (k4 : Int) < n4 := by omega
                  obtain ⟨b, o, c', hv, _, _, hc⟩ := SlR.form2 HGL.out.params (Nat.lt_of_le_of_lt (Nat.zero_le _) hkl4)
                  injection hv with hv hle hce
                  subst hv hce
                  clear hle
                  have h1 := hc k4 hkl4 _ (List.getElem?_eq_getElem hkl4)
                  try rw [Nat.mul_one] at h1
                  obtain ⟨hSb, ⟨m, hm⟩, hf, hbl⟩ := (HSF5.out.trans HW4.out).spot HU.out h1
                  have HNX := Lib.hid (HW4.out.trans (Soft.set (-1) hSb hm))
                  clear hc h1 hSb
                  go_wp2
                  exact ⟨⟨k4 + 1, Nat.succ_le_of_lt hlt4, by go_num, HNX⟩, by simp [intOf]; omega⟩
                · obtain rfl : k4 = n4 := by omega
                  obtain ⟨n5, hn5⟩ : ∃ n, n = (x.funcs[k3]).arrays.length := ⟨_, rfl⟩
                  have HN5 := Lib.hid hn5
                  have hnI5 : (n5 : Int) ≤ 9223372036854775807 := by have := HSG.out.2.1; unfold reachBytes at this; omega
                  rw [← hn5] at HBY
                  rw [← hn5]
                  clear hn5
                  go_wp2
                  clear b0 hgr
                  go_loopw [7] (fun i wr => ∃ k : Nat, k ≤ n5 ∧ i = .int .i64 k ∧ Hid (Soft S w5 wr)) (fun i _ => n5 - (intOf i).toNat)
                  case atStart => exact ⟨0, Nat.zero_le _, rfl, HW4⟩
                  case round =>
                    obtain ⟨k5, hk, rfl, HW5⟩ := hrel
                    have HROW := Lib.hid (HBY.out _ HW5.out)
                    obtain ⟨b0, _⟩ := cell_of_block HROW.out (k := 2) rfl
                    have hgr : g5 < wr.heap.size := lt_of_block HROW.out
                    by_cases hlt5 : k5 < n5
                    · have hkl5 : k5 < (x.funcs[k3]).arrays.length := by rw [← HN5.out]; exact hlt5
                      have k05 : (0 : Int) ≤ k5 := by omega
                      have k15 : (k5 : Int) < n5 := by omega
                      obtain ⟨b, o, c', hv, _, _, hc⟩ := SlR.form2 HGL.out.arrays (Nat.lt_of_le_of_lt (Nat.zero_le _) hkl5)
                      injection hv with hv hle hce
                      subst hv hce
                      clear hle
                      have h1 := (hc k5 hkl5 _ (List.getElem?_eq_getElem hkl5)).1
                      try rw [Nat.mul_one] at h1
                      obtain ⟨hSb, ⟨m, hm⟩, hf, hbl⟩ := (HSF5.out.trans HW5.out).spot HU.out h1
                      have HNX := Lib.hid (HW5.out.trans (Soft.set 9 hSb hm))
                      clear hc h1 hSb
                      go_wp2
                      exact ⟨⟨k5 + 1, Nat.succ_le_of_lt hlt5, by go_num, HNX⟩, by simp [intOf]; omega⟩
                    · obtain rfl : k5 = n5 := by omega
                      obtain ⟨n6, hn6⟩ : ∃ n, n = (x.funcs[k3]).blocks.length := ⟨_, rfl⟩
                      have HN6 := Lib.hid hn6
                      have hnI6 : (n6 : Int) ≤ 9223372036854775807 := by have := HSG.out.2.2.1; unfold reachBytes at this; omega
                      rw [← hn6] at HBY
                      rw [← hn6]
                      clear hn6
                      go_wp2
                      clear b0 hgr
                      go_loopw [8] (fun i wr => ∃ k : Nat, k ≤ n6 ∧ i = .int .i64 k ∧ Hid (Soft S w5 wr)) (fun i _ => n6 - (intOf i).toNat)
                      case atStart => exact ⟨0, Nat.zero_le _, rfl, HW5⟩
                      case round =>
                        obtain ⟨k6, hk, rfl, HW6⟩ := hrel
                        have HROW := Lib.hid (HBY.out _ HW6.out)
                        obtain ⟨b0, _⟩ := cell_of_block HROW.out (k := 3) rfl
                        have hgr : g5 < wr.heap.size := lt_of_block HROW.out
                        by_cases hlt6 : k6 < n6
                        · have hkl6 : k6 < (x.funcs[k3]).blocks.length := by rw [← HN6.out]; exact hlt6
                          have k06 : (0 : Int) ≤ k6 := by omega
                          have k16 : (k6 : Int) < n6 := by omega
                          obtain ⟨bq, oq, c6, hv, _, _, hc⟩ := SlR.form2 HGL.out.blocks (Nat.lt_of_le_of_lt (Nat.zero_le _) hkl6)
                          injection hv with hv hle hce
                          subst hv hce
                          clear hle
                          obtain ⟨vk, vc, vt, hbk⟩ := hc k6 hkl6 _ (List.getElem?_eq_getElem hkl6)
                          have HSB6 := Lib.hid (HSG.out.2.2.2 _ (List.getElem_mem hkl6))
                          obtain ⟨kp, kc, rfl⟩ := hbk.code.form
                          obtain ⟨cp, cc, rfl⟩ := hbk.fin.l.cases.form
                          obtain ⟨tp, tc, rfl⟩ := hbk.fin.l.targets.form
                          have HBK := Lib.hid hbk
                          clear hc hbk
                          have HCE := Lib.hid (fun (wr : World) (h : Soft S w5 wr) => (show wr.cell? ⟨g5, 3, none⟩ = some (.slice (some ⟨bq, oq, none⟩) n6 bc) ∧ g5 < wr.heap.size ∧ wr.cell? ⟨bq, oq + k6 * 10, none⟩ = some (.slice kp ((x.funcs[k3]).blocks[k6]).code.length kc) ∧ bq < wr.heap.size from
                            ⟨(cell_of_block (HBY.out wr h) (k := 3) rfl).1, lt_of_block (HBY.out wr h), (HSF5.out.trans h).slice (HBK.out.ck)⟩))
                          obtain ⟨n7, hn7⟩ : ∃ n, n = ((x.funcs[k3]).blocks[k6]).code.length := ⟨_, rfl⟩
                          have HN7 := Lib.hid hn7
                          have hnI7 : (n7 : Int) ≤ 9223372036854775807 := by have := HSB6.out.1; unfold reachBytes at this; omega
                          rw [← hn7] at HCE
                          clear hn7
                          go_wp2
                          clear b0 hgr
                          go_loopw [9] (fun i wr => ∃ k : Nat, k ≤ n7 ∧ i = .int .i64 k ∧ Hid (Soft S w5 wr)) (fun i _ => n7 - (intOf i).toNat)
                          case atStart => exact ⟨0, Nat.zero_le _, rfl, HW6⟩
                          case round =>
                            obtain ⟨k7, hk, rfl, HW7⟩ := hrel
                            obtain ⟨b0, hgr, b1, hbr⟩ := HCE.out _ HW7.out
                            by_cases hlt7 : k7 < n7
                            · have hkl7 : k7 < ((x.funcs[k3]).blocks[k6]).code.length := by rw [← HN7.out]; exact hlt7
                              have k07 : (0 : Int) ≤ k7 := by omega
                              have k17 : (k7 : Int) < n7 := by omega
                              obtain ⟨b7, o7, c7, hv, _, _, hc⟩ := SlR.form2 HBK.out.code (Nat.lt_of_le_of_lt (Nat.zero_le _) hkl7)
                              injection hv with hv hle hce
                              subst hv hce
                              clear hle
                              obtain ⟨va, vr, hi⟩ := hc k7 hkl7 _ (List.getElem?_eq_getElem hkl7)
                              have HSI := Lib.hid (HSB6.out.2.1 _ (List.getElem_mem hkl7))
                              obtain ⟨ip, ic, rfl⟩ := hi.l.args.form
                              obtain ⟨rp, rc, rfl⟩ := hi.l.arrs.form
                              have HIN := Lib.hid hi
                              have HSW7 := Lib.hid (HSF5.out.trans HW7.out)
                              obtain ⟨_, ⟨m0, i0⟩, _, hbl⟩ := HSW7.out.spot HU.out hi.op
                              obtain ⟨_, ⟨m1, i1⟩, _, _⟩ := HSW7.out.spot HU.out hi.d
                              obtain ⟨_, ⟨m2, i2⟩, _, _⟩ := HSW7.out.spot HU.out hi.fa
                              obtain ⟨_, ⟨m3, i3⟩, _, _⟩ := HSW7.out.spot HU.out hi.fb
                              obtain ⟨_, ⟨m4, i4⟩, _, _⟩ := HSW7.out.spot HU.out hi.f
                              obtain ⟨_, ⟨m5, i5⟩, _, _⟩ := HSW7.out.spot HU.out hi.n
                              obtain ⟨i6, _⟩ := HSW7.out.slice hi.ca
                              obtain ⟨i7, _⟩ := HSW7.out.slice hi.cr
                              clear hc hi
                              go_upto_region 28 with (fail)
                              have HN10 := Lib.hid (heap_new wr (.cells #[.int .i64 m0, .int .i64 m1, .int .i64 m2, .int .i64 m3, .int .i64 m4, .int .u32 m5, .slice ip (((x.funcs[k3]).blocks[k6]).code[k7]).args.length ic, .slice rp (((x.funcs[k3]).blocks[k6]).code[k7]).arrs.length rc] 70))
                              have HB10 := Lib.hid (below_alloc wr (.cells #[.int .i64 m0, .int .i64 m1, .int .i64 m2, .int .i64 m3, .int .i64 m4, .int .u32 m5, .slice ip (((x.funcs[k3]).blocks[k6]).code[k7]).args.length ic, .slice rp (((x.funcs[k3]).blocks[k6]).code[k7]).arrs.length rc] 70))
                              have hlt10 : wr.heap.size < (wr.alloc (.cells #[.int .i64 m0, .int .i64 m1, .int .i64 m2, .int .i64 m3, .int .i64 m4, .int .u32 m5, .slice ip (((x.funcs[k3]).blocks[k6]).code[k7]).args.length ic, .slice rp (((x.funcs[k3]).blocks[k6]).code[k7]).arrs.length rc] 70)).heap.size := by rw [World.size_alloc]; omega
                              generalize hw10 : wr.alloc (.cells #[.int .i64 m0, .int .i64 m1, .int .i64 m2, .int .i64 m3, .int .i64 m4, .int .u32 m5, .slice ip (((x.funcs[k3]).blocks[k6]).code[k7]).args.length ic, .slice rp (((x.funcs[k3]).blocks[k6]).code[k7]).arrs.length rc] 70) = w10
                              rw [hw10] at HN10 HB10 hlt10
                              obtain ⟨g10, hg⟩ : ∃ g, g = wr.heap.size := ⟨_, rfl⟩
                              have HNS10 : Hid (¬ S g10) := Lib.hid (fun h => by have := HSB.out g10 h; have := HSW7.out.size; omega)
                              rw [← hg] at HN10 hlt10
                              rw [← hg]
                              clear hw10 hg b0 hgr b1 hbr i0 i1 i2 i3 i4 i5 i6 i7 hbl
                              have HSX10 : Hid (Soft S w5 w10) := Lib.hid (HW7.out.trans (Soft.grow HB10.out))
                              have HSF10 : Hid (Soft S w w10) := Lib.hid (HSF5.out.trans HSX10.out)
                              have HBZ := Lib.hid (fun (wr : World) (h : Soft S w10 wr) => (h.out g10 hlt10 HNS10.out).trans HN10.out)
                              clear HN10 HB10
                              obtain ⟨n8, hn8⟩ : ∃ n, n = (((x.funcs[k3]).blocks[k6]).code[k7]).args.length := ⟨_, rfl⟩
                              have HN8 := Lib.hid hn8
                              have hnI8 : (n8 : Int) ≤ 9223372036854775807 := by have := HSI.out.1; unfold reachBytes at this; omega
                              rw [← hn8] at HBZ
                              rw [← hn8]
                              clear hn8
                              go_wp2
                              skip
                              go_loopw [11] (fun i wr => ∃ k : Nat, k ≤ n8 ∧ i = .int .i64 k ∧ Hid (Soft S w10 wr)) (fun i _ => n8 - (intOf i).toNat)
                              case atStart => exact ⟨0, Nat.zero_le _, rfl, Lib.hid (Soft.refl _ _)⟩
                              case round =>
                                obtain ⟨k8, hk, rfl, HW8⟩ := hrel
                                have HROW := Lib.hid (HBZ.out _ HW8.out)
                                obtain ⟨b0, _⟩ := cell_of_block HROW.out (k := 6) rfl
                                have hgr : g10 < wr.heap.size := lt_of_block HROW.out
                                by_cases hlt8 : k8 < n8
                                · have hkl8 : k8 < (((x.funcs[k3]).blocks[k6]).code[k7]).args.length := by rw [← HN8.out]; exact hlt8
                                  have k08 : (0 : Int) ≤ k8 := by omega
                                  have k18 : (k8 : Int) < n8 := by omega
                                  obtain ⟨b, o, c', hv, _, _, hc⟩ := SlR.form2 HIN.out.l.args (Nat.lt_of_le_of_lt (Nat.zero_le _) hkl8)
                                  injection hv with hv hle hce
                                  subst hv hce
                                  clear hle
                                  have h1 := hc k8 hkl8 _ (List.getElem?_eq_getElem hkl8)
                                  try rw [Nat.mul_one] at h1
                                  obtain ⟨hSb, ⟨m, hm⟩, hf, hbl⟩ := (HSF10.out.trans HW8.out).spot HU.out h1
                                  have HNX := Lib.hid (HW8.out.trans (Soft.set (-1) hSb hm))
                                  clear hc h1 hSb
                                  go_wp2
                                  exact ⟨⟨k8 + 1, Nat.succ_le_of_lt hlt8, by go_num, HNX⟩, by simp [intOf]; omega⟩
                                · obtain rfl : k8 = n8 := by omega
                                  obtain ⟨n9, hn9⟩ : ∃ n, n = (((x.funcs[k3]).blocks[k6]).code[k7]).arrs.length := ⟨_, rfl⟩
                                  have HN9 := Lib.hid hn9
                                  have hnI9 : (n9 : Int) ≤ 9223372036854775807 := by have := HSI.out.2; unfold reachBytes at this; omega
                                  rw [← hn9] at HBZ
                                  rw [← hn9]
                                  clear hn9
                                  go_wp2
                                  clear b0 hgr
                                  go_loopw [12] (fun i wr => ∃ k : Nat, k ≤ n9 ∧ i = .int .i64 k ∧ Hid (Soft S w10 wr)) (fun i _ => n9 - (intOf i).toNat)
                                  case atStart => exact ⟨0, Nat.zero_le _, rfl, HW8⟩
                                  case round =>
                                    obtain ⟨k9, hk, rfl, HW9⟩ := hrel
                                    have HROW := Lib.hid (HBZ.out _ HW9.out)
                                    obtain ⟨b0, _⟩ := cell_of_block HROW.out (k := 7) rfl
                                    have hgr : g10 < wr.heap.size := lt_of_block HROW.out
                                    by_cases hlt9 : k9 < n9
                                    · have hkl9 : k9 < (((x.funcs[k3]).blocks[k6]).code[k7]).arrs.length := by rw [← HN9.out]; exact hlt9
                                      have k09 : (0 : Int) ≤ k9 := by omega
                                      have k19 : (k9 : Int) < n9 := by omega
                                      obtain ⟨b, o, c', hv, _, _, hc⟩ := SlR.form2 HIN.out.l.arrs (Nat.lt_of_le_of_lt (Nat.zero_le _) hkl9)
                                      injection hv with hv hle hce
                                      subst hv hce
                                      clear hle
                                      have h1 := hc k9 hkl9 _ (List.getElem?_eq_getElem hkl9)
                                      try rw [Nat.mul_one] at h1
                                      obtain ⟨hSb, ⟨m, hm⟩, hf, hbl⟩ := (HSF10.out.trans HW9.out).spot HU.out h1
                                      have HNX := Lib.hid (HW9.out.trans (Soft.set (-1) hSb hm))
                                      clear hc h1 hSb
                                      go_wp2
                                      exact ⟨⟨k9 + 1, Nat.succ_le_of_lt hlt9, by go_num, HNX⟩, by simp [intOf]; omega⟩
                                    · obtain rfl : k9 = n9 := by omega
                                      have HS9 := Lib.hid (HSX10.out.trans HW9.out)
                                      obtain ⟨e0, her, e1, hbr⟩ := HCE.out _ HS9.out
                                      obtain ⟨hSb, ⟨m, hm⟩, hf, hbl⟩ := (HSF5.out.trans HS9.out).spot HU.out HIN.out.op
                                      have HNX := Lib.hid (HS9.out.trans (Soft.set 99 hSb hm))
                                      clear hSb
                                      go_wp2
                                      exact ⟨⟨k7 + 1, Nat.succ_le_of_lt hlt7, by go_num, HNX⟩, by simp [intOf]; omega⟩
                            · obtain rfl : k7 = n7 := by omega
                              have HCC := Lib.hid (fun (wr : World) (h : Soft S w5 wr) => (show wr.cell? ⟨g5, 3, none⟩ = some (.slice (some ⟨bq, oq, none⟩) n6 bc) ∧ g5 < wr.heap.size ∧ wr.cell? ⟨bq, oq + k6 * 10 + 8, none⟩ = some (.slice cp ((x.funcs[k3]).blocks[k6]).fin.cases.length cc) ∧ bq < wr.heap.size from
                                ⟨(cell_of_block (HBY.out wr h) (k := 3) rfl).1, lt_of_block (HBY.out wr h), (HSF5.out.trans h).slice (by have h9 := HBK.out.fin.cc; rw [show oq + k6 * 10 + 1 + 7 = oq + k6 * 10 + 8 from by omega] at h9; exact h9)⟩))
                              obtain ⟨n10, hn10⟩ : ∃ n, n = ((x.funcs[k3]).blocks[k6]).fin.cases.length := ⟨_, rfl⟩
                              have HN10 := Lib.hid hn10
                              have hnI10 : (n10 : Int) ≤ 9223372036854775807 := by have := HSB6.out.2.2.1; unfold reachBytes at this; omega
                              rw [← hn10] at HCC
                              clear hn10
                              go_wp2
                              clear b0 hgr b1 hbr
                              go_loopw [13] (fun i wr => ∃ k : Nat, k ≤ n10 ∧ i = .int .i64 k ∧ Hid (Soft S w5 wr)) (fun i _ => n10 - (intOf i).toNat)
                              case atStart => exact ⟨0, Nat.zero_le _, rfl, HW7⟩
                              case round =>
                                obtain ⟨k10, hk, rfl, HW10⟩ := hrel
                                obtain ⟨b0, hgr, b1, hbr⟩ := HCC.out _ HW10.out
                                by_cases hlt10 : k10 < n10
                                · have hkl10 : k10 < ((x.funcs[k3]).blocks[k6]).fin.cases.length := by rw [← HN10.out]; exact hlt10
                                  have k010 : (0 : Int) ≤ k10 := by omega
                                  have k110 : (k10 : Int) < n10 := by omega
                                  obtain ⟨b, o, c', hv, _, _, hc⟩ := SlR.form2 HBK.out.fin.l.cases (Nat.lt_of_le_of_lt (Nat.zero_le _) hkl10)
                                  injection hv with hv hle hce
                                  subst hv hce
                                  clear hle
                                  have h1 := (hc k10 hkl10 _ (List.getElem?_eq_getElem hkl10)).2
                                  try rw [Nat.mul_one] at h1
                                  obtain ⟨hSb, ⟨m, hm⟩, hf, hbl⟩ := (HSF5.out.trans HW10.out).spot HU.out h1
                                  have HNX := Lib.hid (HW10.out.trans (Soft.set (-1) hSb hm))
                                  clear hc h1 hSb
                                  go_wp2
                                  exact ⟨⟨k10 + 1, Nat.succ_le_of_lt hlt10, by go_num, HNX⟩, by simp [intOf]; omega⟩
                                · obtain rfl : k10 = n10 := by omega
                                  have HCT := Lib.hid (fun (wr : World) (h : Soft S w5 wr) => (show wr.cell? ⟨g5, 3, none⟩ = some (.slice (some ⟨bq, oq, none⟩) n6 bc) ∧ g5 < wr.heap.size ∧ wr.cell? ⟨bq, oq + k6 * 10 + 9, none⟩ = some (.slice tp ((x.funcs[k3]).blocks[k6]).fin.targets.length tc) ∧ bq < wr.heap.size from
                                    ⟨(cell_of_block (HBY.out wr h) (k := 3) rfl).1, lt_of_block (HBY.out wr h), (HSF5.out.trans h).slice (by have h9 := HBK.out.fin.ct; rw [show oq + k6 * 10 + 1 + 8 = oq + k6 * 10 + 9 from by omega] at h9; exact h9)⟩))
                                  obtain ⟨n11, hn11⟩ : ∃ n, n = ((x.funcs[k3]).blocks[k6]).fin.targets.length := ⟨_, rfl⟩
                                  have HN11 := Lib.hid hn11
                                  have hnI11 : (n11 : Int) ≤ 9223372036854775807 := by have := HSB6.out.2.2.2; unfold reachBytes at this; omega
                                  rw [← hn11] at HCT
                                  clear hn11
                                  go_wp2
                                  clear b0 hgr b1 hbr
                                  go_loopw [14] (fun i wr => ∃ k : Nat, k ≤ n11 ∧ i = .int .i64 k ∧ Hid (Soft S w5 wr)) (fun i _ => n11 - (intOf i).toNat)
                                  case atStart => exact ⟨0, Nat.zero_le _, rfl, HW10⟩
                                  case round =>
                                    obtain ⟨k11, hk, rfl, HW11⟩ := hrel
                                    obtain ⟨b0, hgr, b1, hbr⟩ := HCT.out _ HW11.out
                                    by_cases hlt11 : k11 < n11
                                    · have hkl11 : k11 < ((x.funcs[k3]).blocks[k6]).fin.targets.length := by rw [← HN11.out]; exact hlt11
                                      have k011 : (0 : Int) ≤ k11 := by omega
                                      have k111 : (k11 : Int) < n11 := by omega
                                      obtain ⟨b, o, c', hv, _, _, hc⟩ := SlR.form2 HBK.out.fin.l.targets (Nat.lt_of_le_of_lt (Nat.zero_le _) hkl11)
                                      injection hv with hv hle hce
                                      subst hv hce
                                      clear hle
                                      have h1 := hc k11 hkl11 _ (List.getElem?_eq_getElem hkl11)
                                      try rw [Nat.mul_one] at h1
                                      obtain ⟨hSb, ⟨m, hm⟩, hf, hbl⟩ := (HSF5.out.trans HW11.out).spot HU.out h1
                                      have HNX := Lib.hid (HW11.out.trans (Soft.set (-1) hSb hm))
                                      clear hc h1 hSb
                                      go_wp2
                                      exact ⟨⟨k11 + 1, Nat.succ_le_of_lt hlt11, by go_num, HNX⟩, by simp [intOf]; omega⟩
                                    · obtain rfl : k11 = n11 := by omega
                                      obtain ⟨hSb, ⟨m, hm⟩, hf, hbl⟩ := (HSF5.out.trans HW11.out).spot HU.out HBK.out.fin.kind
                                      have HNX := Lib.hid (HW11.out.trans (Soft.set 99 hSb hm))
                                      clear hSb
                                      go_wp2
                                      go_roundw
                                      case rel => exact ⟨k6 + 1, Nat.succ_le_of_lt hlt6, by go_num, HNX⟩
                                      case measure => simp [intOf]; omega
                        · obtain rfl : k6 = n6 := by omega
                          have HNX := Lib.hid (HSX5.out.trans HW6.out)
                          go_wp2
                          go_roundw
                          case rel => exact ⟨k3 + 1, Nat.succ_le_of_lt hlt3, by go_num, HNX⟩
                          case measure => simp [intOf]; omega
            · obtain rfl : k3 = n3 := by omega
              go_wp2
              go_end0
              exact ⟨rfl, HSF1.out.trans HW3.out⟩
end Go.Proofs.Ytacbfjinellonaa.Graph
