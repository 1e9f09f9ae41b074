/- The words of an instruction and of a line, as package list makes them. No condition but what the package variables hold. -/
import Derived.Test.YthojmbljlehpbaaGreatDoorG15
namespace Go.Proofs.YthojmbljlehpbaaGreatDoor.Lists
open Go.RowKit Go.Proofs.YthojmbljlehpbaaGreatDoor.Relax Go.Proofs.YthojmbljlehpbaaGreatDoor.Graph Go.Lib
open Go.Proofs.YthojmbljlehpbaaGreatDoor.Enc hiding below_one bt ret_bool

def RowPost (w : World) (ws : List Wd) (e : Ending) (w' : World) : Prop :=
  ∃ g c, e = .returned (.slice (some ⟨g, 0, none⟩) ws.length c) ∧ ws.length ≤ c ∧ c ≤ 9223372036854775807 ∧ w'.ownsRow w.heap.size 20 1 (.slice (some ⟨g, 0, none⟩) ws.length c) ws.length ((ws.map some).map wdV) ∧ Below w.heap.size w w'
theorem own_cap {w : World} {B : Nat} {e : TypeId} {g n c : Nat} {xs : List Value} (h : w.ownsRow B e 1 (.slice (some ⟨g, 0, none⟩) n c) n xs) : n ≤ c ∧ c ≤ 9223372036854775807 := by
  obtain ⟨_, ⟨e, _⟩ | ⟨g2, cap2, cur, e, _, _, h5, h6, _⟩⟩ := h
  · cases e
  · injection e with _ _ e
    subst e
    unfold maxLen at h6
    exact ⟨h5, by omega⟩
set_option maxHeartbeats 16000000 in
set_option maxRecDepth 100000 in
theorem registers_any (op a b imm : Int) (w : World) (hF : FormsAt w) : Calls Tryz.prog 56 #[cV ⟨op, a, b, imm⟩] w (RowPost w (regsW ⟨op, a, b, imm⟩)) := by
  obtain ⟨b1, hb1⟩ : ∃ q, q = isCodeB ⟨op, 1, 0, 0⟩ := ⟨_, rfl⟩
  obtain ⟨b2, hb2⟩ : ∃ q, q = isCodeB ⟨op, 0, 1, 0⟩ := ⟨_, rfl⟩
  obtain ⟨b3, hb3⟩ : ∃ q, q = reckonsB op := ⟨_, rfl⟩
  have HI1 := Lib.hid (fun (W : World) (hW : FormsAt W) => isCode_any ⟨op, 1, 0, 0⟩ W hW)
  have HI2 := Lib.hid (fun (W : World) (hW : FormsAt W) => isCode_any ⟨op, 0, 1, 0⟩ W hW)
  have HRK := Lib.hid (fun (W : World) => reckons_any op W)
  rw [← hb1] at HI1
  rw [← hb2] at HI2
  rw [← hb3] at HRK
  have HE : Hid (regsW ⟨op, a, b, imm⟩ = .name op :: ((if b1 then [.reg a] else []) ++ ((if b2 then [.reg b] else []) ++ (if b3 then [.reg imm] else [])))) := Lib.hid (by unfold regsW; rw [hb1, hb2, hb3])
  clear hb1 hb2 hb3
  unfold cV at HI1 HI2 ⊢
  obtain ⟨W1, hW1⟩ : ∃ W1, W1 = w.alloc (.cells #[.int .i64 op, .int .i64 a, .int .i64 b, .int .i64 imm] 102) := ⟨_, rfl⟩
  have hB1 : Below w.heap.size w W1 := by rw [hW1]; exact below_one w _
  have hc1 : W1.heap[w.heap.size]? = some (.cells #[.int .i64 op, .int .i64 a, .int .i64 b, .int .i64 imm] 102 (0, 0)) := by rw [hW1]; exact heap_alloc_new w _
  have HC : Hid (∀ W, Below W1.heap.size W1 W → W.cell? ⟨w.heap.size, 0, none⟩ = some (.int .i64 op) ∧ W.cell? ⟨w.heap.size, 1, none⟩ = some (.int .i64 a) ∧ W.cell? ⟨w.heap.size, 2, none⟩ = some (.int .i64 b) ∧ W.cell? ⟨w.heap.size, 3, none⟩ = some (.int .i64 imm)) := Lib.hid (fun W hW => by
    have h1 := (hW.block _ (Array.getElem?_eq_some_iff.1 hc1).1).trans hc1
    exact ⟨cell_of_block h1 rfl, cell_of_block h1 rfl, cell_of_block h1 rfl, cell_of_block h1 rfl⟩)
  have HFW : Hid (∀ W, Below W1.heap.size W1 W → FormsAt W) := Lib.hid (fun W hW => (hF.below hB1).below hW)
  have HBW := Lib.hid hB1
  have HO : Hid ((W1.alloc (.cells #[.iface 131 (.int .i64 op)] 20)).ownsRow W1.heap.size 20 1 (.slice (some ⟨W1.heap.size, 0, none⟩) 1 1) 1 [wdV (some (.name op))]) := Lib.hid (own_one W1 (some (.name op)))
  have HB : Hid (Below W1.heap.size W1 (W1.alloc (.cells #[.iface 131 (.int .i64 op)] 20))) := Lib.hid (below_one W1 _)
  clear hB1 hc1 hF
  go_enter Tryz.func56, Tryz.ntmps56
  go_upto_region 1 with (fail)
  rw [← hW1]
  clear hW1
  obtain ⟨y0, y1, y2, y3⟩ := HC.out W1 (Below.refl _ _)
  go_upto_region 2 with (fail)
  generalize (W1.alloc (.cells #[.iface 131 (.int .i64 op)] 20)) = w2 at HO HB ⊢
  clear y0 y1 y2 y3
  obtain ⟨y0, y1, y2, y3⟩ := HC.out w2 HB.out
  rcases (show b1 = true ∨ b1 = false by cases b1 <;> simp) with rfl | rfl
  · rcases (show b2 = true ∨ b2 = false by cases b2 <;> simp) with rfl | rfl
    · rcases (show b3 = true ∨ b3 = false by cases b3 <;> simp) with rfl | rfl
      · go_wp2_with (first
          | (go_at_call 91
             with_reducible refine (HI1.out _ (HFW.out _ HB.out)).mono ?_
             rintro e w6 ⟨rfl, hb6⟩
             have HO := Lib.hid (row_below HO.out hb6)
             have HB := Lib.hid (bt HB.out hb6)
             clear y0 y1 y2 y3
             obtain ⟨y0, y1, y2, y3⟩ := HC.out w6 HB.out
             clear hb6)
          | (go_at_call 91
             with_reducible refine (HI2.out _ (HFW.out _ HB.out)).mono ?_
             rintro e w6 ⟨rfl, hb6⟩
             have HO := Lib.hid (row_below HO.out hb6)
             have HB := Lib.hid (bt HB.out hb6)
             clear y0 y1 y2 y3
             obtain ⟨y0, y1, y2, y3⟩ := HC.out w6 HB.out
             clear hb6)
          | (go_at_call 92
             refine (HRK.out _).mono ?_
             rintro e w6 ⟨rfl, rfl⟩)
          | (at_builtin
             (refine wpList_push (by rfl) _ _ (by rfl) W1.heap.size _ 1 _ (by rfl) HO.out (some (.reg a)) _ rfl (by rfl) (by omega) HB.out.size ?_)
             intro g1 p1 w6 h1 h2 h3 h4 h5
             have HO := Lib.hid h1
             have HB := Lib.hid (HB.out.trans h3)
             clear y0 y1 y2 y3
             obtain ⟨y0, y1, y2, y3⟩ := HC.out w6 HB.out
             clear h1 h2 h3 h4 h5)
          | (at_builtin
             (refine wpList_push (by rfl) _ _ (by rfl) W1.heap.size _ 2 _ (by rfl) HO.out (some (.reg b)) _ rfl (by rfl) (by omega) HB.out.size ?_)
             intro g2 p2 w6 h1 h2 h3 h4 h5
             have HO := Lib.hid h1
             have HB := Lib.hid (HB.out.trans h3)
             clear y0 y1 y2 y3
             obtain ⟨y0, y1, y2, y3⟩ := HC.out w6 HB.out
             clear h1 h2 h3 h4 h5)
          | (at_builtin
             (refine wpList_push (by rfl) _ _ (by rfl) W1.heap.size _ 3 _ (by rfl) HO.out (some (.reg imm)) _ rfl (by rfl) (by omega) HB.out.size ?_)
             intro g3 p3 w6 h1 h2 h3 h4 h5
             have HO := Lib.hid h1
             have HB := Lib.hid (HB.out.trans h3)
             clear y0 y1 y2 y3
             obtain ⟨y0, y1, y2, y3⟩ := HC.out w6 HB.out
             clear h1 h2 h3 h4 h5))
        go_ret
        rw [HE.out]
        exact ⟨_, _, rfl, (own_cap HO.out).1, (own_cap HO.out).2, own_mono HO.out HBW.out.size, bt HBW.out HB.out⟩
      · go_wp2_with (first
          | (go_at_call 91
             with_reducible refine (HI1.out _ (HFW.out _ HB.out)).mono ?_
             rintro e w6 ⟨rfl, hb6⟩
             have HO := Lib.hid (row_below HO.out hb6)
             have HB := Lib.hid (bt HB.out hb6)
             clear y0 y1 y2 y3
             obtain ⟨y0, y1, y2, y3⟩ := HC.out w6 HB.out
             clear hb6)
          | (go_at_call 91
             with_reducible refine (HI2.out _ (HFW.out _ HB.out)).mono ?_
             rintro e w6 ⟨rfl, hb6⟩
             have HO := Lib.hid (row_below HO.out hb6)
             have HB := Lib.hid (bt HB.out hb6)
             clear y0 y1 y2 y3
             obtain ⟨y0, y1, y2, y3⟩ := HC.out w6 HB.out
             clear hb6)
          | (go_at_call 92
             refine (HRK.out _).mono ?_
             rintro e w6 ⟨rfl, rfl⟩)
          | (at_builtin
             (refine wpList_push (by rfl) _ _ (by rfl) W1.heap.size _ 1 _ (by rfl) HO.out (some (.reg a)) _ rfl (by rfl) (by omega) HB.out.size ?_)
             intro g1 p1 w6 h1 h2 h3 h4 h5
             have HO := Lib.hid h1
             have HB := Lib.hid (HB.out.trans h3)
             clear y0 y1 y2 y3
             obtain ⟨y0, y1, y2, y3⟩ := HC.out w6 HB.out
             clear h1 h2 h3 h4 h5)
          | (at_builtin
             (refine wpList_push (by rfl) _ _ (by rfl) W1.heap.size _ 2 _ (by rfl) HO.out (some (.reg b)) _ rfl (by rfl) (by omega) HB.out.size ?_)
             intro g2 p2 w6 h1 h2 h3 h4 h5
             have HO := Lib.hid h1
             have HB := Lib.hid (HB.out.trans h3)
             clear y0 y1 y2 y3
             obtain ⟨y0, y1, y2, y3⟩ := HC.out w6 HB.out
             clear h1 h2 h3 h4 h5))
        go_ret
        rw [HE.out]
        exact ⟨_, _, rfl, (own_cap HO.out).1, (own_cap HO.out).2, own_mono HO.out HBW.out.size, bt HBW.out HB.out⟩
    · rcases (show b3 = true ∨ b3 = false by cases b3 <;> simp) with rfl | rfl
      · go_wp2_with (first
          | (go_at_call 91
             with_reducible refine (HI1.out _ (HFW.out _ HB.out)).mono ?_
             rintro e w6 ⟨rfl, hb6⟩
             have HO := Lib.hid (row_below HO.out hb6)
             have HB := Lib.hid (bt HB.out hb6)
             clear y0 y1 y2 y3
             obtain ⟨y0, y1, y2, y3⟩ := HC.out w6 HB.out
             clear hb6)
          | (go_at_call 91
             with_reducible refine (HI2.out _ (HFW.out _ HB.out)).mono ?_
             rintro e w6 ⟨rfl, hb6⟩
             have HO := Lib.hid (row_below HO.out hb6)
             have HB := Lib.hid (bt HB.out hb6)
             clear y0 y1 y2 y3
             obtain ⟨y0, y1, y2, y3⟩ := HC.out w6 HB.out
             clear hb6)
          | (go_at_call 92
             refine (HRK.out _).mono ?_
             rintro e w6 ⟨rfl, rfl⟩)
          | (at_builtin
             (refine wpList_push (by rfl) _ _ (by rfl) W1.heap.size _ 1 _ (by rfl) HO.out (some (.reg a)) _ rfl (by rfl) (by omega) HB.out.size ?_)
             intro g1 p1 w6 h1 h2 h3 h4 h5
             have HO := Lib.hid h1
             have HB := Lib.hid (HB.out.trans h3)
             clear y0 y1 y2 y3
             obtain ⟨y0, y1, y2, y3⟩ := HC.out w6 HB.out
             clear h1 h2 h3 h4 h5)
          | (at_builtin
             (refine wpList_push (by rfl) _ _ (by rfl) W1.heap.size _ 2 _ (by rfl) HO.out (some (.reg imm)) _ rfl (by rfl) (by omega) HB.out.size ?_)
             intro g3 p3 w6 h1 h2 h3 h4 h5
             have HO := Lib.hid h1
             have HB := Lib.hid (HB.out.trans h3)
             clear y0 y1 y2 y3
             obtain ⟨y0, y1, y2, y3⟩ := HC.out w6 HB.out
             clear h1 h2 h3 h4 h5))
        go_ret
        rw [HE.out]
        exact ⟨_, _, rfl, (own_cap HO.out).1, (own_cap HO.out).2, own_mono HO.out HBW.out.size, bt HBW.out HB.out⟩
      · go_wp2_with (first
          | (go_at_call 91
             with_reducible refine (HI1.out _ (HFW.out _ HB.out)).mono ?_
             rintro e w6 ⟨rfl, hb6⟩
             have HO := Lib.hid (row_below HO.out hb6)
             have HB := Lib.hid (bt HB.out hb6)
             clear y0 y1 y2 y3
             obtain ⟨y0, y1, y2, y3⟩ := HC.out w6 HB.out
             clear hb6)
          | (go_at_call 91
             with_reducible refine (HI2.out _ (HFW.out _ HB.out)).mono ?_
             rintro e w6 ⟨rfl, hb6⟩
             have HO := Lib.hid (row_below HO.out hb6)
             have HB := Lib.hid (bt HB.out hb6)
             clear y0 y1 y2 y3
             obtain ⟨y0, y1, y2, y3⟩ := HC.out w6 HB.out
             clear hb6)
          | (go_at_call 92
             refine (HRK.out _).mono ?_
             rintro e w6 ⟨rfl, rfl⟩)
          | (at_builtin
             (refine wpList_push (by rfl) _ _ (by rfl) W1.heap.size _ 1 _ (by rfl) HO.out (some (.reg a)) _ rfl (by rfl) (by omega) HB.out.size ?_)
             intro g1 p1 w6 h1 h2 h3 h4 h5
             have HO := Lib.hid h1
             have HB := Lib.hid (HB.out.trans h3)
             clear y0 y1 y2 y3
             obtain ⟨y0, y1, y2, y3⟩ := HC.out w6 HB.out
             clear h1 h2 h3 h4 h5))
        go_ret
        rw [HE.out]
        exact ⟨_, _, rfl, (own_cap HO.out).1, (own_cap HO.out).2, own_mono HO.out HBW.out.size, bt HBW.out HB.out⟩
  · rcases (show b2 = true ∨ b2 = false by cases b2 <;> simp) with rfl | rfl
    · rcases (show b3 = true ∨ b3 = false by cases b3 <;> simp) with rfl | rfl
      · go_wp2_with (first
          | (go_at_call 91
             with_reducible refine (HI1.out _ (HFW.out _ HB.out)).mono ?_
             rintro e w6 ⟨rfl, hb6⟩
             have HO := Lib.hid (row_below HO.out hb6)
             have HB := Lib.hid (bt HB.out hb6)
             clear y0 y1 y2 y3
             obtain ⟨y0, y1, y2, y3⟩ := HC.out w6 HB.out
             clear hb6)
          | (go_at_call 91
             with_reducible refine (HI2.out _ (HFW.out _ HB.out)).mono ?_
             rintro e w6 ⟨rfl, hb6⟩
             have HO := Lib.hid (row_below HO.out hb6)
             have HB := Lib.hid (bt HB.out hb6)
             clear y0 y1 y2 y3
             obtain ⟨y0, y1, y2, y3⟩ := HC.out w6 HB.out
             clear hb6)
          | (go_at_call 92
             refine (HRK.out _).mono ?_
             rintro e w6 ⟨rfl, rfl⟩)
          | (at_builtin
             (refine wpList_push (by rfl) _ _ (by rfl) W1.heap.size _ 1 _ (by rfl) HO.out (some (.reg b)) _ rfl (by rfl) (by omega) HB.out.size ?_)
             intro g2 p2 w6 h1 h2 h3 h4 h5
             have HO := Lib.hid h1
             have HB := Lib.hid (HB.out.trans h3)
             clear y0 y1 y2 y3
             obtain ⟨y0, y1, y2, y3⟩ := HC.out w6 HB.out
             clear h1 h2 h3 h4 h5)
          | (at_builtin
             (refine wpList_push (by rfl) _ _ (by rfl) W1.heap.size _ 2 _ (by rfl) HO.out (some (.reg imm)) _ rfl (by rfl) (by omega) HB.out.size ?_)
             intro g3 p3 w6 h1 h2 h3 h4 h5
             have HO := Lib.hid h1
             have HB := Lib.hid (HB.out.trans h3)
             clear y0 y1 y2 y3
             obtain ⟨y0, y1, y2, y3⟩ := HC.out w6 HB.out
             clear h1 h2 h3 h4 h5))
        go_ret
        rw [HE.out]
        exact ⟨_, _, rfl, (own_cap HO.out).1, (own_cap HO.out).2, own_mono HO.out HBW.out.size, bt HBW.out HB.out⟩
      · go_wp2_with (first
          | (go_at_call 91
             with_reducible refine (HI1.out _ (HFW.out _ HB.out)).mono ?_
             rintro e w6 ⟨rfl, hb6⟩
             have HO := Lib.hid (row_below HO.out hb6)
             have HB := Lib.hid (bt HB.out hb6)
             clear y0 y1 y2 y3
             obtain ⟨y0, y1, y2, y3⟩ := HC.out w6 HB.out
             clear hb6)
          | (go_at_call 91
             with_reducible refine (HI2.out _ (HFW.out _ HB.out)).mono ?_
             rintro e w6 ⟨rfl, hb6⟩
             have HO := Lib.hid (row_below HO.out hb6)
             have HB := Lib.hid (bt HB.out hb6)
             clear y0 y1 y2 y3
             obtain ⟨y0, y1, y2, y3⟩ := HC.out w6 HB.out
             clear hb6)
          | (go_at_call 92
             refine (HRK.out _).mono ?_
             rintro e w6 ⟨rfl, rfl⟩)
          | (at_builtin
             (refine wpList_push (by rfl) _ _ (by rfl) W1.heap.size _ 1 _ (by rfl) HO.out (some (.reg b)) _ rfl (by rfl) (by omega) HB.out.size ?_)
             intro g2 p2 w6 h1 h2 h3 h4 h5
             have HO := Lib.hid h1
             have HB := Lib.hid (HB.out.trans h3)
             clear y0 y1 y2 y3
             obtain ⟨y0, y1, y2, y3⟩ := HC.out w6 HB.out
             clear h1 h2 h3 h4 h5))
        go_ret
        rw [HE.out]
        exact ⟨_, _, rfl, (own_cap HO.out).1, (own_cap HO.out).2, own_mono HO.out HBW.out.size, bt HBW.out HB.out⟩
    · rcases (show b3 = true ∨ b3 = false by cases b3 <;> simp) with rfl | rfl
      · go_wp2_with (first
          | (go_at_call 91
             with_reducible refine (HI1.out _ (HFW.out _ HB.out)).mono ?_
             rintro e w6 ⟨rfl, hb6⟩
             have HO := Lib.hid (row_below HO.out hb6)
             have HB := Lib.hid (bt HB.out hb6)
             clear y0 y1 y2 y3
             obtain ⟨y0, y1, y2, y3⟩ := HC.out w6 HB.out
             clear hb6)
          | (go_at_call 91
             with_reducible refine (HI2.out _ (HFW.out _ HB.out)).mono ?_
             rintro e w6 ⟨rfl, hb6⟩
             have HO := Lib.hid (row_below HO.out hb6)
             have HB := Lib.hid (bt HB.out hb6)
             clear y0 y1 y2 y3
             obtain ⟨y0, y1, y2, y3⟩ := HC.out w6 HB.out
             clear hb6)
          | (go_at_call 92
             refine (HRK.out _).mono ?_
             rintro e w6 ⟨rfl, rfl⟩)
          | (at_builtin
             (refine wpList_push (by rfl) _ _ (by rfl) W1.heap.size _ 1 _ (by rfl) HO.out (some (.reg imm)) _ rfl (by rfl) (by omega) HB.out.size ?_)
             intro g3 p3 w6 h1 h2 h3 h4 h5
             have HO := Lib.hid h1
             have HB := Lib.hid (HB.out.trans h3)
             clear y0 y1 y2 y3
             obtain ⟨y0, y1, y2, y3⟩ := HC.out w6 HB.out
             clear h1 h2 h3 h4 h5))
        go_ret
        rw [HE.out]
        exact ⟨_, _, rfl, (own_cap HO.out).1, (own_cap HO.out).2, own_mono HO.out HBW.out.size, bt HBW.out HB.out⟩
      · go_wp2_with (first
          | (go_at_call 91
             with_reducible refine (HI1.out _ (HFW.out _ HB.out)).mono ?_
             rintro e w6 ⟨rfl, hb6⟩
             have HO := Lib.hid (row_below HO.out hb6)
             have HB := Lib.hid (bt HB.out hb6)
             clear y0 y1 y2 y3
             obtain ⟨y0, y1, y2, y3⟩ := HC.out w6 HB.out
             clear hb6)
          | (go_at_call 91
             with_reducible refine (HI2.out _ (HFW.out _ HB.out)).mono ?_
             rintro e w6 ⟨rfl, hb6⟩
             have HO := Lib.hid (row_below HO.out hb6)
             have HB := Lib.hid (bt HB.out hb6)
             clear y0 y1 y2 y3
             obtain ⟨y0, y1, y2, y3⟩ := HC.out w6 HB.out
             clear hb6)
          | (go_at_call 92
             refine (HRK.out _).mono ?_
             rintro e w6 ⟨rfl, rfl⟩))
        go_ret
        rw [HE.out]
        exact ⟨_, _, rfl, (own_cap HO.out).1, (own_cap HO.out).2, own_mono HO.out HBW.out.size, bt HBW.out HB.out⟩
set_option maxHeartbeats 16000000 in
set_option maxRecDepth 100000 in
theorem codeWords_any (op a b imm : Int) (w : World) (hF : FormsAt w) : Calls Tryz.prog 58 #[cV ⟨op, a, b, imm⟩] w (RowPost w (codeW ⟨op, a, b, imm⟩)) := by
  obtain ⟨b1, hb1⟩ : ∃ q, q = countsB op := ⟨_, rfl⟩
  have HI1 := Lib.hid (fun (W : World) (hW : FormsAt W) => counts_any op W hW)
  rw [← hb1] at HI1
  have HRG := Lib.hid (fun (W : World) (hW : FormsAt W) => registers_any op a b imm W hW)
  obtain ⟨rs, hrs⟩ : ∃ q, q = regsW ⟨op, a, b, imm⟩ := ⟨_, rfl⟩
  have hln := regs_len ⟨op, a, b, imm⟩
  rw [← hrs] at HRG hln
  have HE : Hid (codeW ⟨op, a, b, imm⟩ = rs ++ (if b1 then [.num imm] else [])) := Lib.hid (by unfold codeW; rw [hb1, hrs])
  have HLN := Lib.hid hln
  clear hb1 hrs hln
  unfold cV at HRG ⊢
  obtain ⟨W1, hW1⟩ : ∃ W1, W1 = w.alloc (.cells #[.int .i64 op, .int .i64 a, .int .i64 b, .int .i64 imm] 102) := ⟨_, rfl⟩
  have hB1 : Below w.heap.size w W1 := by rw [hW1]; exact below_one w _
  have hc1 : W1.heap[w.heap.size]? = some (.cells #[.int .i64 op, .int .i64 a, .int .i64 b, .int .i64 imm] 102 (0, 0)) := by rw [hW1]; exact heap_alloc_new w _
  have HC : Hid (∀ W, Below W1.heap.size W1 W → W.cell? ⟨w.heap.size, 0, none⟩ = some (.int .i64 op) ∧ W.cell? ⟨w.heap.size, 1, none⟩ = some (.int .i64 a) ∧ W.cell? ⟨w.heap.size, 2, none⟩ = some (.int .i64 b) ∧ W.cell? ⟨w.heap.size, 3, none⟩ = some (.int .i64 imm)) := Lib.hid (fun W hW => by
    have h1 := (hW.block _ (Array.getElem?_eq_some_iff.1 hc1).1).trans hc1
    exact ⟨cell_of_block h1 rfl, cell_of_block h1 rfl, cell_of_block h1 rfl, cell_of_block h1 rfl⟩)
  have HFW : Hid (∀ W, Below W1.heap.size W1 W → FormsAt W) := Lib.hid (fun W hW => (hF.below hB1).below hW)
  have HBW := Lib.hid hB1
  clear hB1 hc1 hF
  go_enter Tryz.func58, Tryz.ntmps58
  go_upto_region 1 with (fail)
  rw [← hW1]
  clear hW1
  obtain ⟨y0, y1, y2, y3⟩ := HC.out W1 (Below.refl _ _)
  obtain ⟨n, hn⟩ : ∃ n, n = rs.length := ⟨_, rfl⟩
  have HN := Lib.hid hn
  unfold RowPost at HRG
  rw [← hn] at HRG HLN
  clear hn
  go_upto_region 2 with (
    go_at_call 56
    refine (HRG.out _ (HFW.out _ (Below.refl _ _))).mono ?_
    rintro e w6 ⟨g6, c6, rfl, h1, h2, h3, h4⟩
    have HO := Lib.hid h3
    have HB := Lib.hid h4
    clear y0 y1 y2 y3 h1 h2 h3 h4)
  obtain ⟨y0, y1, y2, y3⟩ := HC.out w6 HB.out
  rcases (show b1 = true ∨ b1 = false by cases b1 <;> simp) with rfl | rfl
  · go_wp2_with (first
      | (go_at_call 93
         refine (HI1.out _ (HFW.out _ HB.out)).mono ?_
         rintro e w7 ⟨rfl, hb7⟩
         have HO := Lib.hid (row_below HO.out hb7)
         have HB := Lib.hid (bt HB.out hb7)
         clear y0 y1 y2 y3
         obtain ⟨y0, y1, y2, y3⟩ := HC.out w7 HB.out
         clear hb7)
      | (at_builtin
         (refine wpList_push (by rfl) _ _ (by rfl) W1.heap.size _ n _ (by rfl) HO.out (some (.num imm)) _ rfl (by rfl) (by have := HLN.out; omega) HB.out.size ?_)
         intro g8 p8 w8 h1 h2 h3 h4 h5
         have HO := Lib.hid h1
         have HB := Lib.hid (HB.out.trans h3)
         clear h1 h2 h3 h4 h5))
    go_ret
    have hE := HE.out
    simp only [if_true] at hE
    have e1 : n + 1 = (codeW ⟨op, a, b, imm⟩).length := by rw [hE, List.length_append, ← HN.out]; rfl
    have e2 : (rs.map some).map wdV ++ [wdV (some (.num imm))] = ((codeW ⟨op, a, b, imm⟩).map some).map wdV := by rw [hE]; simp
    have ho := HO.out
    rw [e1, e2] at ho
    rw [e1]
    exact ⟨_, _, rfl, (own_cap ho).1, (own_cap ho).2, own_mono ho HBW.out.size, bt HBW.out HB.out⟩
  · go_wp2_with (
      go_at_call 93
      refine (HI1.out _ (HFW.out _ HB.out)).mono ?_
      rintro e w7 ⟨rfl, hb7⟩
      have HO := Lib.hid (row_below HO.out hb7)
      have HB := Lib.hid (bt HB.out hb7)
      clear hb7)
    go_ret
    have hE := HE.out
    simp only [if_false, Bool.false_eq_true, List.append_nil] at hE
    rw [hE, HN.out]
    have ho := HO.out
    rw [HN.out] at ho
    exact ⟨_, _, rfl, (own_cap ho).1, (own_cap ho).2, own_mono ho HBW.out.size, bt HBW.out HB.out⟩
end Go.Proofs.YthojmbljlehpbaaGreatDoor.Lists
