/- The document's Encode and Decode: what each returns. No condition. -/
import Derived.Test.YtfdhjkjljhgapaaDoorEd
namespace Go.Proofs.YtfdhjkjljhgapaaDoor.Enc
open Go.RowKit

theorem encP_no {c : PC} (h : isOp c.op = false) : encP c = (0, 160) := by unfold encP; rw [h]; rfl
theorem encP_not {c : PC} (h : isOp c.op = true) (h2 : mayP c = false) : encP c = (0, 161) := by unfold encP; rw [h, h2]; rfl
theorem encP_yes {c : PC} (h2 : mayP c = true) : encP c = (wordP c, 0) := by unfold encP; rw [isOp_of (within h2), h2]; rfl
set_option maxHeartbeats 4000000 in
theorem renc_any (c : PC) (w : World) : Calls Tryd.prog 10 #[cV c] w (EncPost c w) := by
  by_cases ho : isOp c.op = true
  case neg =>
    have ho2 : isOp c.op = false := by simpa using ho
    have HE := Lib.hid (encP_no ho2)
    have HO := Lib.hid (fun w => ho2 ▸ rop_any c.op w)
    clear ho ho2
    obtain ⟨op, a, b, i⟩ := c
    unfold cV
    go_enter Tryd.func10, Tryd.ntmps10
    go_wp2_with (go_at_call 17; refine (HO.out _).mono ?_; rintro e w2 ⟨rfl, rfl⟩)
    go_ret2
    exact EncPost.mk HE.out (below_one _ _)
  have HO := Lib.hid (fun w => ho ▸ rop_any c.op w)
  by_cases hm : mayP c = true
  case neg =>
    have hm2 : mayP c = false := by simpa using hm
    have HE := Lib.hid (encP_not ho hm2)
    have HM := Lib.hid (fun w => hm2 ▸ rmay_any c w)
    clear ho hm hm2
    obtain ⟨op, a, b, i⟩ := c
    unfold cV
    go_enter Tryd.func10, Tryd.ntmps10
    go_wp2_with (first
      | (go_at_call 17; refine (HO.out _).mono ?_; rintro e w2 ⟨rfl, rfl⟩)
      | (go_at_call 18; refine (HM.out _).mono ?_; rintro e w2 ⟨rfl, hb⟩))
    go_ret2
    exact EncPost.mk HE.out ((below_one _ _).trans (hb.mono (by simp)))
  have HE := Lib.hid (encP_yes hm)
  have HM := Lib.hid (fun w => hm ▸ rmay_any c w)
  have hw := within hm
  clear ho hm
  obtain ⟨op, a, b, i⟩ := c
  obtain ⟨⟨h1, h2⟩, ⟨h3, h4⟩, ⟨h5, h6⟩, ⟨h7, h8⟩⟩ := hw
  simp only at h1 h2 h3 h4 h5 h6 h7 h8
  unfold cV
  by_cases hn : i < 0
  all_goals
    go_enter Tryd.func10, Tryd.ntmps10
    go_wp2_with (first
      | (go_at_call 17; refine (HO.out _).mono ?_; rintro e w2 ⟨rfl, rfl⟩)
      | (go_at_call 18; refine (HM.out _).mono ?_; rintro e w2 ⟨rfl, hb⟩; obtain ⟨hc, hf⟩ : (∀ o, w2.cell? ⟨w.heap.size, o, none⟩ = (w.alloc (.cells #[.int .i64 op, .int .i64 a, .int .i64 b, .int .i64 i] 23)).cell? ⟨w.heap.size, o, none⟩) ∧ True := ⟨fun o => hb.cell (p := ⟨w.heap.size, o, none⟩) (by simp), trivial⟩))
    go_ret2
    exact EncPost.mk (by rw [HE.out]; simp only [wordP, up]; first | rw [if_pos (by omega)] | rw [if_neg (by omega)]) ((below_one _ _).trans (hb.mono (by simp)))
theorem decP_no {x : Int} (h : isOp (x / 16777216) = false) : decP x = (noC, 160) := by simp [decP, cutP, h]
theorem decP_yes {x : Int} (h : isOp (x / 16777216) = true) (h2 : mayP (cutP x) = true) : decP x = (cutP x, 0) := by
  simp only [cutP] at h2; simp [decP, cutP, h, h2]
theorem decP_neg {x : Int} (h : isOp (x / 16777216) = true) (h2 : mayP (cutP x) = false) (h3 : 32768 ≤ x % 65536) (h4 : mayP ⟨x / 16777216, x / 1048576 % 16, x / 65536 % 16, x % 65536 - 65536⟩ = true) :
    decP x = (⟨x / 16777216, x / 1048576 % 16, x / 65536 % 16, x % 65536 - 65536⟩, 0) := by
  simp only [cutP] at h2; simp [decP, cutP, h, h2, h3, h4]
theorem decP_not {x : Int} (h : isOp (x / 16777216) = true) (h2 : mayP (cutP x) = false) (h3 : 32768 ≤ x % 65536) (h4 : mayP ⟨x / 16777216, x / 1048576 % 16, x / 65536 % 16, x % 65536 - 65536⟩ = false) : decP x = (noC, 161) := by
  simp only [cutP] at h2; simp [decP, cutP, h, h2, h3, h4]
theorem decP_not2 {x : Int} (h : isOp (x / 16777216) = true) (h2 : mayP (cutP x) = false) (h3 : x % 65536 < 32768) : decP x = (noC, 161) := by
  simp only [cutP] at h2; simp [decP, cutP, h, h2, show ¬ 32768 ≤ x % 65536 by omega]
theorem cell_of_block {w : World} {b : Nat} {cs : Array Value} {t : TypeId} (h : w.heap[b]? = some (.cells cs t (0, 0))) {k : Nat} {v : Value} (hk : cs[k]? = some v) : w.cell? ⟨b, k, none⟩ = some v ∧ w.frozen? ⟨b, k, none⟩ = false := by
  constructor <;> simp [World.cell?, World.frozen?, h, hk]
theorem grown_step {w w3 : World} {g k : Nat} {v : Value} (h : w.grownBy w3 (some g)) : w.grownBy (w3.setCell ⟨g, k, none⟩ v) (some g) :=
  ⟨h.os, h.tape, h.output, by simpa [World.setCell] using h.size, fun i hi hn => (Below.heap_setCell _ _ _ _ (by simpa using (fun e => hn (by rw [e])))).trans (h.block i hi hn)⟩
theorem set_row4 {r : Nat} {t : TypeId} {w : World} {z0 z1 z2 z3 : Value} (v0 v1 v2 v3 : Value) (h : w.heap[r]? = some (.cells #[z0, z1, z2, z3] t (0, 0))) :
    w.grownBy ((((w.setCell ⟨r, 0, none⟩ v0).setCell ⟨r, 1, none⟩ v1).setCell ⟨r, 2, none⟩ v2).setCell ⟨r, 3, none⟩ v3) (some r) ∧
    ((((w.setCell ⟨r, 0, none⟩ v0).setCell ⟨r, 1, none⟩ v1).setCell ⟨r, 2, none⟩ v2).setCell ⟨r, 3, none⟩ v3).heap[r]? = some (.cells #[v0, v1, v2, v3] t (0, 0)) := by
  refine ⟨grown_step (grown_step (grown_step (grown_step (World.grownBy.refl w (some r))))), ?_⟩
  exact heap_setCell_same _ r 3 _ t v3 (heap_setCell_same _ r 2 _ t v2 (heap_setCell_same _ r 1 _ t v1 (heap_setCell_same _ r 0 _ t v0 h)))
theorem second_new (w : World) (a b : Obj) : ((w.alloc a).alloc b).heap[w.heap.size + 1]? = some b := by
  have := heap_alloc_new (w.alloc a) b
  rwa [World.size_alloc] at this
theorem four {w : World} {b : Nat} {t : TypeId} {z0 z1 z2 z3 : Value} (h : w.heap[b]? = some (.cells #[z0, z1, z2, z3] t (0, 0))) :
    (w.cell? ⟨b, 0, none⟩ = some z0 ∧ w.cell? ⟨b, 1, none⟩ = some z1 ∧ w.cell? ⟨b, 2, none⟩ = some z2 ∧ w.cell? ⟨b, 3, none⟩ = some z3) ∧
    w.frozen? ⟨b, 0, none⟩ = false ∧ w.frozen? ⟨b, 1, none⟩ = false ∧ w.frozen? ⟨b, 2, none⟩ = false ∧ w.frozen? ⟨b, 3, none⟩ = false :=
  ⟨⟨(cell_of_block h rfl).1, (cell_of_block h rfl).1, (cell_of_block h rfl).1, (cell_of_block h rfl).1⟩, (cell_of_block h (k := 0) rfl).2, (cell_of_block h (k := 1) rfl).2, (cell_of_block h (k := 2) rfl).2, (cell_of_block h (k := 3) rfl).2⟩
set_option maxHeartbeats 8000000 in
set_option maxRecDepth 100000 in
theorem rdec_any (x : Int) (hx : 0 ≤ x ∧ x ≤ 4294967295) (w : World) : Calls Tryd.prog 13 #[.int .u32 x] w (DecPost x w) := by
  obtain ⟨x1, x2⟩ := hx
  by_cases ho : isOp (x / 16777216) = true
  case neg =>
    have ho2 : isOp (x / 16777216) = false := by simpa using ho
    have HE := Lib.hid (decP_no ho2)
    have HO := Lib.hid (fun w => ho2 ▸ rop_any (x / 16777216) w)
    clear ho ho2
    go_enter Tryd.func13, Tryd.ntmps13
    go_wp2_with (go_at_call 17; refine (HO.out _).mono ?_; rintro e w2 ⟨rfl, rfl⟩)
    exact bodyPost_ret (v := .tuple #[cV noC, .int .i64 160]) (by simp [results, Tryd.results13, go_sem, noC]) rfl (DecPost.mk HE.out ((below_one w _).alloc (by simp) _))
  have HO := Lib.hid (fun w => ho ▸ rop_any (x / 16777216) w)
  by_cases hm : mayP (cutP x) = true
  · have HE := Lib.hid (decP_yes ho hm)
    have HM := Lib.hid (fun w => hm ▸ rmay_any (cutP x) w)
    clear ho hm
    go_enter Tryd.func13, Tryd.ntmps13
    go_wp2_with (first
      | (go_at_call 17; refine (HO.out _).mono ?_; rintro e w2 ⟨rfl, rfl⟩)
      | (go_at_call 18; refine (HM.out _).mono ?_; rintro e w3 ⟨rfl, hb3⟩; have hz3 : w.heap.size + 1 < w3.heap.size := by have := hb3.size; simp at this; omega
         have HR3 := Lib.hid ((hb3.block w.heap.size (by simp; omega)).trans ((Below.heap_alloc _ _ _ (by simp)).trans (heap_alloc_new w _))); have HS3 := Lib.hid ((hb3.block (w.heap.size + 1) (by simp)).trans (second_new w _ _)); have HB3 := Lib.hid hb3; clear hb3
         obtain ⟨⟨c0, c1, c2, c3⟩, f0, f1, f2, f3⟩ := four HR3.out; obtain ⟨⟨d0, d1, d2, d3⟩, g0, g1, g2, g3⟩ := four HS3.out))
    obtain ⟨gw, ew⟩ := set_row4 (.int .i64 (x / 16777216)) (.int .i64 (x / 1048576 % 16)) (.int .i64 (x / 65536 % 16)) (.int .i64 (x % 65536)) HR3.out
    have GW := Lib.hid gw
    generalize hwe : ((((w3.setCell ⟨w.heap.size, 0, none⟩ (.int .i64 (x / 16777216))).setCell ⟨w.heap.size, 1, none⟩ (.int .i64 (x / 1048576 % 16))).setCell ⟨w.heap.size, 2, none⟩ (.int .i64 (x / 65536 % 16))).setCell ⟨w.heap.size, 3, none⟩ (.int .i64 (x % 65536))) = we at ew ⊢
    rw [hwe] at gw
    clear hwe GW
    obtain ⟨p0, _⟩ := cell_of_block ew (k := 0) rfl
    obtain ⟨p1, _⟩ := cell_of_block ew (k := 1) rfl
    obtain ⟨p2, _⟩ := cell_of_block ew (k := 2) rfl
    obtain ⟨p3, _⟩ := cell_of_block ew (k := 3) rfl
    have HG := Lib.hid gw
    clear ew gw
    refine bodyPost_ret (v := .tuple #[cV (cutP x), .int .i64 0]) ?_ rfl (DecPost.mk HE.out (Below.grown (((below_one w _).alloc (by simp) _).trans (HB3.out.mono (by simp; omega))) HG.out (by omega) (fun k hk => by injection hk with hk; omega)))
    simp [results, Tryd.results13, go_sem, cutP, p0, p1, p2, p3]
  have hm2 : mayP (cutP x) = false := by simpa using hm
  have HM := Lib.hid (fun w => hm2 ▸ rmay_any (cutP x) w)
  have i1 : 0 ≤ x % 65536 := by omega
  have i2 : x % 65536 ≤ 65535 := by omega
  by_cases h3 : 32768 ≤ x % 65536
  case neg =>
    have HE := Lib.hid (decP_not2 ho hm2 (by omega))
    have h4 : x % 65536 < 32768 := by omega
    clear ho hm hm2
    go_enter Tryd.func13, Tryd.ntmps13
    go_wp2_with (first
      | (go_at_call 17; refine (HO.out _).mono ?_; rintro e w2 ⟨rfl, rfl⟩)
      | (go_at_call 18; refine (HM.out _).mono ?_; rintro e w3 ⟨rfl, hb3⟩; have hz3 : w.heap.size + 1 < w3.heap.size := by have := hb3.size; simp at this; omega
         have HR3 := Lib.hid ((hb3.block w.heap.size (by simp; omega)).trans ((Below.heap_alloc _ _ _ (by simp)).trans (heap_alloc_new w _))); have HS3 := Lib.hid ((hb3.block (w.heap.size + 1) (by simp)).trans (second_new w _ _)); have HB3 := Lib.hid hb3; clear hb3
         obtain ⟨⟨c0, c1, c2, c3⟩, f0, f1, f2, f3⟩ := four HR3.out; obtain ⟨⟨d0, d1, d2, d3⟩, g0, g1, g2, g3⟩ := four HS3.out))
    obtain ⟨gw, ew⟩ := set_row4 (.int .i64 0) (.int .i64 0) (.int .i64 0) (.int .i64 0) HR3.out
    have GW := Lib.hid gw
    generalize hwe : ((((w3.setCell ⟨w.heap.size, 0, none⟩ (.int .i64 0)).setCell ⟨w.heap.size, 1, none⟩ (.int .i64 0)).setCell ⟨w.heap.size, 2, none⟩ (.int .i64 0)).setCell ⟨w.heap.size, 3, none⟩ (.int .i64 0)) = we at ew ⊢
    rw [hwe] at gw
    clear hwe GW
    obtain ⟨p0, _⟩ := cell_of_block ew (k := 0) rfl
    obtain ⟨p1, _⟩ := cell_of_block ew (k := 1) rfl
    obtain ⟨p2, _⟩ := cell_of_block ew (k := 2) rfl
    obtain ⟨p3, _⟩ := cell_of_block ew (k := 3) rfl
    have HG := Lib.hid gw
    clear ew gw
    refine bodyPost_ret (v := .tuple #[cV noC, .int .i64 161]) ?_ rfl (DecPost.mk HE.out (Below.grown (((below_one w _).alloc (by simp) _).trans (HB3.out.mono (by simp; omega))) HG.out (by omega) (fun k hk => by injection hk with hk; omega)))
    simp [results, Tryd.results13, go_sem, noC, p0, p1, p2, p3]
  cases hd : mayP ⟨x / 16777216, x / 1048576 % 16, x / 65536 % 16, x % 65536 - 65536⟩ with
  | true =>
    have HE := Lib.hid (decP_neg ho hm2 h3 hd)
    have HM2 := Lib.hid (fun w => hd ▸ rmay_any ⟨x / 16777216, x / 1048576 % 16, x / 65536 % 16, x % 65536 - 65536⟩ w)
    clear ho hm hm2 hd
    go_enter Tryd.func13, Tryd.ntmps13
    go_wp2_with (first
      | (go_at_call 17; refine (HO.out _).mono ?_; rintro e w2 ⟨rfl, rfl⟩)
      | (go_at_call 18; have hz3k := hz3; refine (HM2.out _).mono ?_; rintro e w4 ⟨rfl, hb4⟩; have hz4 : w.heap.size + 1 < w4.heap.size := by have := hb4.size; simp at this; omega
         have HR4 := Lib.hid ((hb4.block w.heap.size (by simp; omega)).trans ((Below.heap_setCell _ _ _ _ (by simp)).trans HR3.out)); have HS4 := Lib.hid ((hb4.block (w.heap.size + 1) (by simp; omega)).trans (heap_setCell_same _ (w.heap.size + 1) 3 _ _ _ HS3.out)); have HB4 := Lib.hid hb4; clear hb4 c0 c1 c2 c3 f0 f1 f2 f3 d0 d1 d2 d3 g0 g1 g2 g3
         obtain ⟨⟨c0, c1, c2, c3⟩, f0, f1, f2, f3⟩ := four HR4.out; obtain ⟨⟨d0, d1, d2, d3⟩, g0, g1, g2, g3⟩ := four HS4.out)
      | (go_at_call 18; refine (HM.out _).mono ?_; rintro e w3 ⟨rfl, hb3⟩; have hz3 : w.heap.size + 1 < w3.heap.size := by have := hb3.size; simp at this; omega
         have HR3 := Lib.hid ((hb3.block w.heap.size (by simp; omega)).trans ((Below.heap_alloc _ _ _ (by simp)).trans (heap_alloc_new w _))); have HS3 := Lib.hid ((hb3.block (w.heap.size + 1) (by simp)).trans (second_new w _ _)); have HB3 := Lib.hid hb3; clear hb3
         obtain ⟨⟨c0, c1, c2, c3⟩, f0, f1, f2, f3⟩ := four HR3.out; obtain ⟨⟨d0, d1, d2, d3⟩, g0, g1, g2, g3⟩ := four HS3.out))
    obtain ⟨gw, ew⟩ := set_row4 (.int .i64 (x / 16777216)) (.int .i64 (x / 1048576 % 16)) (.int .i64 (x / 65536 % 16)) (.int .i64 (x % 65536 - 65536)) HR4.out
    have GW := Lib.hid gw
    generalize hwe : ((((w4.setCell ⟨w.heap.size, 0, none⟩ (.int .i64 (x / 16777216))).setCell ⟨w.heap.size, 1, none⟩ (.int .i64 (x / 1048576 % 16))).setCell ⟨w.heap.size, 2, none⟩ (.int .i64 (x / 65536 % 16))).setCell ⟨w.heap.size, 3, none⟩ (.int .i64 (x % 65536 - 65536))) = we at ew ⊢
    rw [hwe] at gw
    clear hwe GW
    obtain ⟨p0, _⟩ := cell_of_block ew (k := 0) rfl
    obtain ⟨p1, _⟩ := cell_of_block ew (k := 1) rfl
    obtain ⟨p2, _⟩ := cell_of_block ew (k := 2) rfl
    obtain ⟨p3, _⟩ := cell_of_block ew (k := 3) rfl
    have HG := Lib.hid gw
    clear ew gw
    refine bodyPost_ret (v := .tuple #[cV ⟨x / 16777216, x / 1048576 % 16, x / 65536 % 16, x % 65536 - 65536⟩, .int .i64 0]) ?_ rfl (DecPost.mk HE.out (Below.grown ((((((below_one w _).alloc (by simp) _).trans (HB3.out.mono (by simp; omega))).setCell (by simp) _).trans (HB4.out.mono (by simp; omega)))) HG.out (by omega) (fun k hk => by injection hk with hk; omega)))
    simp [results, Tryd.results13, go_sem, p0, p1, p2, p3]
  | false =>
    have HE := Lib.hid (decP_not ho hm2 h3 hd)
    have HM2 := Lib.hid (fun w => hd ▸ rmay_any ⟨x / 16777216, x / 1048576 % 16, x / 65536 % 16, x % 65536 - 65536⟩ w)
    clear ho hm hm2 hd
    go_enter Tryd.func13, Tryd.ntmps13
    go_wp2_with (first
      | (go_at_call 17; refine (HO.out _).mono ?_; rintro e w2 ⟨rfl, rfl⟩)
      | (go_at_call 18; have hz3k := hz3; refine (HM2.out _).mono ?_; rintro e w4 ⟨rfl, hb4⟩; have hz4 : w.heap.size + 1 < w4.heap.size := by have := hb4.size; simp at this; omega
         have HR4 := Lib.hid ((hb4.block w.heap.size (by simp; omega)).trans ((Below.heap_setCell _ _ _ _ (by simp)).trans HR3.out)); have HS4 := Lib.hid ((hb4.block (w.heap.size + 1) (by simp; omega)).trans (heap_setCell_same _ (w.heap.size + 1) 3 _ _ _ HS3.out)); have HB4 := Lib.hid hb4; clear hb4 c0 c1 c2 c3 f0 f1 f2 f3 d0 d1 d2 d3 g0 g1 g2 g3
         obtain ⟨⟨c0, c1, c2, c3⟩, f0, f1, f2, f3⟩ := four HR4.out; obtain ⟨⟨d0, d1, d2, d3⟩, g0, g1, g2, g3⟩ := four HS4.out)
      | (go_at_call 18; refine (HM.out _).mono ?_; rintro e w3 ⟨rfl, hb3⟩; have hz3 : w.heap.size + 1 < w3.heap.size := by have := hb3.size; simp at this; omega
         have HR3 := Lib.hid ((hb3.block w.heap.size (by simp; omega)).trans ((Below.heap_alloc _ _ _ (by simp)).trans (heap_alloc_new w _))); have HS3 := Lib.hid ((hb3.block (w.heap.size + 1) (by simp)).trans (second_new w _ _)); have HB3 := Lib.hid hb3; clear hb3
         obtain ⟨⟨c0, c1, c2, c3⟩, f0, f1, f2, f3⟩ := four HR3.out; obtain ⟨⟨d0, d1, d2, d3⟩, g0, g1, g2, g3⟩ := four HS3.out))
    obtain ⟨gw, ew⟩ := set_row4 (.int .i64 0) (.int .i64 0) (.int .i64 0) (.int .i64 0) HR4.out
    have GW := Lib.hid gw
    generalize hwe : ((((w4.setCell ⟨w.heap.size, 0, none⟩ (.int .i64 0)).setCell ⟨w.heap.size, 1, none⟩ (.int .i64 0)).setCell ⟨w.heap.size, 2, none⟩ (.int .i64 0)).setCell ⟨w.heap.size, 3, none⟩ (.int .i64 0)) = we at ew ⊢
    rw [hwe] at gw
    clear hwe GW
    obtain ⟨p0, _⟩ := cell_of_block ew (k := 0) rfl
    obtain ⟨p1, _⟩ := cell_of_block ew (k := 1) rfl
    obtain ⟨p2, _⟩ := cell_of_block ew (k := 2) rfl
    obtain ⟨p3, _⟩ := cell_of_block ew (k := 3) rfl
    have HG := Lib.hid gw
    clear ew gw
    refine bodyPost_ret (v := .tuple #[cV noC, .int .i64 161]) ?_ rfl (DecPost.mk HE.out (Below.grown ((((((below_one w _).alloc (by simp) _).trans (HB3.out.mono (by simp; omega))).setCell (by simp) _).trans (HB4.out.mono (by simp; omega)))) HG.out (by omega) (fun k hk => by injection hk with hk; omega)))
    simp [results, Tryd.results13, go_sem, noC, p0, p1, p2, p3]
end Go.Proofs.YtfdhjkjljhgapaaDoor.Enc
