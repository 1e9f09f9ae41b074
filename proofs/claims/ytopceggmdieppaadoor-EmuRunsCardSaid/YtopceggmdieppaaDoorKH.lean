/- The document's May: which instructions may be. No condition. -/
import Derived.Test.YtopceggmdieppaaDoorEd1
import Derived.Test.YtopceggmdieppaaDoorEd2
import Derived.Test.YtopceggmdieppaaDoorEd3
import Derived.Test.YtopceggmdieppaaDoorEd4
import Derived.Test.YtopceggmdieppaaDoorEd5
import Derived.Test.YtopceggmdieppaaDoorEd6
import Derived.Test.YtopceggmdieppaaDoorEe0
namespace Go.Proofs.YtopceggmdieppaaDoor.Enc
open Go.RowKit
theorem rmay_any (c : PC) (w : World) : Calls Tryd.prog 18 #[cV c] w fun e w' => e = .returned (.bool (mayP c)) ∧ Below w.heap.size w w' := by
  obtain ⟨op, a, b, i⟩ := c
  rcases opClass op with h | h | h | h | h | h | h | h | h | h | h
  · exact rmay_1 op a b i w (by omega)
  · by_cases h47 : op = 47
    · exact rmay_2 op a b i w (by omega)
    · exact rmay_1 op a b i w (by omega)
  · by_cases h29 : op = 29
    · exact rmay_3 op a b i w (by omega)
    · exact rmay_2 op a b i w (by omega)
  · exact rmay_3 op a b i w (by omega)
  · exact rmay_3 op a b i w (by omega)
  · exact rmay_4 op a b i w (by omega)
  · exact rmay_4 op a b i w (by omega)
  · exact rmay_mid op a b i w h
  · exact rmay_br op a b i w h
  · exact rmay_lo op a b i w h
  · exact rmay_hi op a b i w h
end Go.Proofs.YtopceggmdieppaaDoor.Enc
namespace Go.Proofs.YtopceggmdieppaaDoor.Enc
open Go.RowKit

set_option maxHeartbeats 8000000 in
set_option maxRecDepth 100000 in
theorem rdec_any (x : Int) (hx : 0 ≤ x ∧ x ≤ 4294967295) (w : World) : Calls Tryd.prog 73 #[.int .u32 x] w (DecPost x w) := by
  obtain ⟨x1, x2⟩ := hx
  by_cases ho : isOp (x / 16777216) = true
  case neg =>
    have ho2 : isOp (x / 16777216) = false := by simpa using ho
    have HE := Lib.hid (decP_no ho2)
    have HO := Lib.hid (fun w => ho2 ▸ rop_any (x / 16777216) w)
    clear ho ho2
    go_enter Tryd.func73, Tryd.ntmps73
    go_wp2_with (go_at_call 117; refine (HO.out _).mono ?_; rintro e w2 ⟨rfl, rfl⟩)
    exact bodyPost_ret (v := .tuple #[cV noC, .int .i64 160]) (by simp [results, Tryd.results73, go_sem, noC]) rfl (DecPost.mk HE.out ((below_one w _).alloc (by simp) _))
  have HO := Lib.hid (fun w => ho ▸ rop_any (x / 16777216) w)
  by_cases hm : mayP (cutP x) = true
  · have HE := Lib.hid (decP_yes ho hm)
    have HM := Lib.hid (fun w => hm ▸ rmay_any (cutP x) w)
    clear ho hm
    go_enter Tryd.func73, Tryd.ntmps73
    go_wp2_with (first
      | (go_at_call 117; refine (HO.out _).mono ?_; rintro e w2 ⟨rfl, rfl⟩)
      | (go_at_call 18; refine (HM.out _).mono ?_; rintro e w3 ⟨rfl, hb3⟩; have hz3 : w.heap.size + 1 < w3.heap.size := by have := hb3.size; simp at this; omega
         have HR3 := Lib.hid ((hb3.block w.heap.size (by simp; omega)).trans ((Below.heap_alloc _ _ _ (by simp)).trans (heap_alloc_new w _))); have HS3 := Lib.hid ((hb3.block (w.heap.size + 1) (by simp)).trans (second_new w _ _)); have HB3 := Lib.hid hb3; clear hb3
         obtain ⟨⟨c0, c1, c2, c3⟩, f0, f1, f2, f3⟩ := four HR3.out; obtain ⟨⟨d0, d1, d2, d3⟩, g0, g1, g2, g3⟩ := four HS3.out))
    obtain ⟨gw, ew⟩ := set_row4 (.int .i64 (x / 16777216)) (.int .i64 (x / 1048576 % 16)) (.int .i64 (x / 65536 % 16)) (.int .i64 (x % 65536)) HR3.out
    have GW := Lib.hid gw
    generalize hwe : ((((w3.setCell ⟨w.heap.size, 0, none⟩ (.int .i64 (x / 16777216))).setCell ⟨w.heap.size, 1, none⟩ (.int .i64 (x / 1048576 % 16))).setCell ⟨w.heap.size, 2, none⟩ (.int .i64 (x / 65536 % 16))).setCell ⟨w.heap.size, 3, none⟩ (.int .i64 (x % 65536))) = we at ew ⊢
    rw [hwe] at gw
    clear hwe GW
    obtain ⟨p0, _⟩ := cell_of_block ew (k := 0) rfl
    obtain ⟨p1, _⟩ := cell_of_block ew (k := 1) rfl
    obtain ⟨p2, _⟩ := cell_of_block ew (k := 2) rfl
    obtain ⟨p3, _⟩ := cell_of_block ew (k := 3) rfl
    have HG := Lib.hid gw
    clear ew gw
    refine bodyPost_ret (v := .tuple #[cV (cutP x), .int .i64 0]) ?_ rfl (DecPost.mk HE.out (Below.grown (((below_one w _).alloc (by simp) _).trans (HB3.out.mono (by simp; omega))) HG.out (by omega) (fun k hk => by injection hk with hk; omega)))
    simp [results, Tryd.results73, go_sem, cutP, p0, p1, p2, p3]
  have hm2 : mayP (cutP x) = false := by simpa using hm
  have HM := Lib.hid (fun w => hm2 ▸ rmay_any (cutP x) w)
  have i1 : 0 ≤ x % 65536 := by omega
  have i2 : x % 65536 ≤ 65535 := by omega
  by_cases h3 : 32768 ≤ x % 65536
  case neg =>
    have HE := Lib.hid (decP_not2 ho hm2 (by omega))
    have h4 : x % 65536 < 32768 := by omega
    clear ho hm hm2
    go_enter Tryd.func73, Tryd.ntmps73
    go_wp2_with (first
      | (go_at_call 117; refine (HO.out _).mono ?_; rintro e w2 ⟨rfl, rfl⟩)
      | (go_at_call 18; refine (HM.out _).mono ?_; rintro e w3 ⟨rfl, hb3⟩; have hz3 : w.heap.size + 1 < w3.heap.size := by have := hb3.size; simp at this; omega
         have HR3 := Lib.hid ((hb3.block w.heap.size (by simp; omega)).trans ((Below.heap_alloc _ _ _ (by simp)).trans (heap_alloc_new w _))); have HS3 := Lib.hid ((hb3.block (w.heap.size + 1) (by simp)).trans (second_new w _ _)); have HB3 := Lib.hid hb3; clear hb3
         obtain ⟨⟨c0, c1, c2, c3⟩, f0, f1, f2, f3⟩ := four HR3.out; obtain ⟨⟨d0, d1, d2, d3⟩, g0, g1, g2, g3⟩ := four HS3.out))
    obtain ⟨gw, ew⟩ := set_row4 (.int .i64 0) (.int .i64 0) (.int .i64 0) (.int .i64 0) HR3.out
    have GW := Lib.hid gw
    generalize hwe : ((((w3.setCell ⟨w.heap.size, 0, none⟩ (.int .i64 0)).setCell ⟨w.heap.size, 1, none⟩ (.int .i64 0)).setCell ⟨w.heap.size, 2, none⟩ (.int .i64 0)).setCell ⟨w.heap.size, 3, none⟩ (.int .i64 0)) = we at ew ⊢
    rw [hwe] at gw
    clear hwe GW
    obtain ⟨p0, _⟩ := cell_of_block ew (k := 0) rfl
    obtain ⟨p1, _⟩ := cell_of_block ew (k := 1) rfl
    obtain ⟨p2, _⟩ := cell_of_block ew (k := 2) rfl
    obtain ⟨p3, _⟩ := cell_of_block ew (k := 3) rfl
    have HG := Lib.hid gw
    clear ew gw
    refine bodyPost_ret (v := .tuple #[cV noC, .int .i64 161]) ?_ rfl (DecPost.mk HE.out (Below.grown (((below_one w _).alloc (by simp) _).trans (HB3.out.mono (by simp; omega))) HG.out (by omega) (fun k hk => by injection hk with hk; omega)))
    simp [results, Tryd.results73, go_sem, noC, p0, p1, p2, p3]
  cases hd : mayP ⟨x / 16777216, x / 1048576 % 16, x / 65536 % 16, x % 65536 - 65536⟩ with
  | true =>
    have HE := Lib.hid (decP_neg ho hm2 h3 hd)
    have HM2 := Lib.hid (fun w => hd ▸ rmay_any ⟨x / 16777216, x / 1048576 % 16, x / 65536 % 16, x % 65536 - 65536⟩ w)
    clear ho hm hm2 hd
    go_enter Tryd.func73, Tryd.ntmps73
    go_wp2_with (first
      | (go_at_call 117; refine (HO.out _).mono ?_; rintro e w2 ⟨rfl, rfl⟩)
      | (go_at_call 18; have hz3k := hz3; refine (HM2.out _).mono ?_; rintro e w4 ⟨rfl, hb4⟩; have hz4 : w.heap.size + 1 < w4.heap.size := by have := hb4.size; simp at this; omega
         have HR4 := Lib.hid ((hb4.block w.heap.size (by simp; omega)).trans ((Below.heap_setCell _ _ _ _ (by simp)).trans HR3.out)); have HS4 := Lib.hid ((hb4.block (w.heap.size + 1) (by simp; omega)).trans (heap_setCell_same _ (w.heap.size + 1) 3 _ _ _ HS3.out)); have HB4 := Lib.hid hb4; clear hb4 c0 c1 c2 c3 f0 f1 f2 f3 d0 d1 d2 d3 g0 g1 g2 g3
         obtain ⟨⟨c0, c1, c2, c3⟩, f0, f1, f2, f3⟩ := four HR4.out; obtain ⟨⟨d0, d1, d2, d3⟩, g0, g1, g2, g3⟩ := four HS4.out)
      | (go_at_call 18; refine (HM.out _).mono ?_; rintro e w3 ⟨rfl, hb3⟩; have hz3 : w.heap.size + 1 < w3.heap.size := by have := hb3.size; simp at this; omega
         have HR3 := Lib.hid ((hb3.block w.heap.size (by simp; omega)).trans ((Below.heap_alloc _ _ _ (by simp)).trans (heap_alloc_new w _))); have HS3 := Lib.hid ((hb3.block (w.heap.size + 1) (by simp)).trans (second_new w _ _)); have HB3 := Lib.hid hb3; clear hb3
         obtain ⟨⟨c0, c1, c2, c3⟩, f0, f1, f2, f3⟩ := four HR3.out; obtain ⟨⟨d0, d1, d2, d3⟩, g0, g1, g2, g3⟩ := four HS3.out))
    obtain ⟨gw, ew⟩ := set_row4 (.int .i64 (x / 16777216)) (.int .i64 (x / 1048576 % 16)) (.int .i64 (x / 65536 % 16)) (.int .i64 (x % 65536 - 65536)) HR4.out
    have GW := Lib.hid gw
    generalize hwe : ((((w4.setCell ⟨w.heap.size, 0, none⟩ (.int .i64 (x / 16777216))).setCell ⟨w.heap.size, 1, none⟩ (.int .i64 (x / 1048576 % 16))).setCell ⟨w.heap.size, 2, none⟩ (.int .i64 (x / 65536 % 16))).setCell ⟨w.heap.size, 3, none⟩ (.int .i64 (x % 65536 - 65536))) = we at ew ⊢
    rw [hwe] at gw
    clear hwe GW
    obtain ⟨p0, _⟩ := cell_of_block ew (k := 0) rfl
    obtain ⟨p1, _⟩ := cell_of_block ew (k := 1) rfl
    obtain ⟨p2, _⟩ := cell_of_block ew (k := 2) rfl
    obtain ⟨p3, _⟩ := cell_of_block ew (k := 3) rfl
    have HG := Lib.hid gw
    clear ew gw
    refine bodyPost_ret (v := .tuple #[cV ⟨x / 16777216, x / 1048576 % 16, x / 65536 % 16, x % 65536 - 65536⟩, .int .i64 0]) ?_ rfl (DecPost.mk HE.out (Below.grown ((((((below_one w _).alloc (by simp) _).trans (HB3.out.mono (by simp; omega))).setCell (by simp) _).trans (HB4.out.mono (by simp; omega)))) HG.out (by omega) (fun k hk => by injection hk with hk; omega)))
    simp [results, Tryd.results73, go_sem, p0, p1, p2, p3]
  | false =>
    have HE := Lib.hid (decP_not ho hm2 h3 hd)
    have HM2 := Lib.hid (fun w => hd ▸ rmay_any ⟨x / 16777216, x / 1048576 % 16, x / 65536 % 16, x % 65536 - 65536⟩ w)
    clear ho hm hm2 hd
    go_enter Tryd.func73, Tryd.ntmps73
    go_wp2_with (first
      | (go_at_call 117; refine (HO.out _).mono ?_; rintro e w2 ⟨rfl, rfl⟩)
      | (go_at_call 18; have hz3k := hz3; refine (HM2.out _).mono ?_; rintro e w4 ⟨rfl, hb4⟩; have hz4 : w.heap.size + 1 < w4.heap.size := by have := hb4.size; simp at this; omega
         have HR4 := Lib.hid ((hb4.block w.heap.size (by simp; omega)).trans ((Below.heap_setCell _ _ _ _ (by simp)).trans HR3.out)); have HS4 := Lib.hid ((hb4.block (w.heap.size + 1) (by simp; omega)).trans (heap_setCell_same _ (w.heap.size + 1) 3 _ _ _ HS3.out)); have HB4 := Lib.hid hb4; clear hb4 c0 c1 c2 c3 f0 f1 f2 f3 d0 d1 d2 d3 g0 g1 g2 g3
         obtain ⟨⟨c0, c1, c2, c3⟩, f0, f1, f2, f3⟩ := four HR4.out; obtain ⟨⟨d0, d1, d2, d3⟩, g0, g1, g2, g3⟩ := four HS4.out)
      | (go_at_call 18; refine (HM.out _).mono ?_; rintro e w3 ⟨rfl, hb3⟩; have hz3 : w.heap.size + 1 < w3.heap.size := by have := hb3.size; simp at this; omega
         have HR3 := Lib.hid ((hb3.block w.heap.size (by simp; omega)).trans ((Below.heap_alloc _ _ _ (by simp)).trans (heap_alloc_new w _))); have HS3 := Lib.hid ((hb3.block (w.heap.size + 1) (by simp)).trans (second_new w _ _)); have HB3 := Lib.hid hb3; clear hb3
         obtain ⟨⟨c0, c1, c2, c3⟩, f0, f1, f2, f3⟩ := four HR3.out; obtain ⟨⟨d0, d1, d2, d3⟩, g0, g1, g2, g3⟩ := four HS3.out))
    obtain ⟨gw, ew⟩ := set_row4 (.int .i64 0) (.int .i64 0) (.int .i64 0) (.int .i64 0) HR4.out
    have GW := Lib.hid gw
    generalize hwe : ((((w4.setCell ⟨w.heap.size, 0, none⟩ (.int .i64 0)).setCell ⟨w.heap.size, 1, none⟩ (.int .i64 0)).setCell ⟨w.heap.size, 2, none⟩ (.int .i64 0)).setCell ⟨w.heap.size, 3, none⟩ (.int .i64 0)) = we at ew ⊢
    rw [hwe] at gw
    clear hwe GW
    obtain ⟨p0, _⟩ := cell_of_block ew (k := 0) rfl
    obtain ⟨p1, _⟩ := cell_of_block ew (k := 1) rfl
    obtain ⟨p2, _⟩ := cell_of_block ew (k := 2) rfl
    obtain ⟨p3, _⟩ := cell_of_block ew (k := 3) rfl
    have HG := Lib.hid gw
    clear ew gw
    refine bodyPost_ret (v := .tuple #[cV noC, .int .i64 161]) ?_ rfl (DecPost.mk HE.out (Below.grown ((((((below_one w _).alloc (by simp) _).trans (HB3.out.mono (by simp; omega))).setCell (by simp) _).trans (HB4.out.mono (by simp; omega)))) HG.out (by omega) (fun k hk => by injection hk with hk; omega)))
    simp [results, Tryd.results73, go_sem, noC, p0, p1, p2, p3]
end Go.Proofs.YtopceggmdieppaaDoor.Enc
