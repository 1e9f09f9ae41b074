/- The words of a line, as package list makes them. No condition but what the package variables hold. -/
import Derived.Test.YthojmbljlehpbaaGreatDoorG16
import Derived.Deep.RegionHeld3
namespace Go.Proofs.YthojmbljlehpbaaGreatDoor.Lists
open Go.RowKit Go.Proofs.YthojmbljlehpbaaGreatDoor.Relax Go.Proofs.YthojmbljlehpbaaGreatDoor.Graph Go.Lib
open Go.Proofs.YthojmbljlehpbaaGreatDoor.Enc hiding below_one bt ret_bool

theorem bdrewL (w : World) : Below w.heap.size w (World.drew w) := (Below.refl _ _).drew
/-- A word more, from a row of one that lies anywhere, at a step of a region that draws. -/
theorem step_push {w : World} {ops : Array Oper} {o : Oper} {a : Act} {K : Act → World → Prop} {Q : Exit → Act → World → Prop} {E : Prop} (hgd : o.guard = none) (s x : Operand)
    (ho : o.op = .call { callee := .builtin .append, args := #[s, x], argTypes := #[59, 59] }) (B : Nat) (v : Value) (n : Nat) (xs : List Value) (hs : a.eval s = v)
    (hown : w.ownsRow B 20 1 v n xs) (y : Option Wd) (q : Nat) (hq : w.heap[q]? = some (.cells #[wdV y] 20 (0, 0))) (hx : a.eval x = .slice (some ⟨q, 0, none⟩) 1 1) (hn : n ≤ 1000000) (hB : B ≤ w.heap.size)
    (h : ∀ g cap w', w'.ownsRow B 20 1 (.slice (some ⟨g, 0, none⟩) (n + 1) cap) (n + 1) (xs ++ [wdV y]) → Below B w w' → K (a.put o.dst (.slice (some ⟨g, 0, none⟩) (n + 1) cap)) w') :
    if Region.wanted o (yielded ops a.tmps) = true then Oper.wp Tryz.prog o a w K Q else E := by
  obtain ⟨i0, HI, hz0, hz1, hz2⟩ := info_parts info_any
  refine step_append_lies _ hgd s x 59 ho B 20 i0 _ 1 16 Tryz.underlying59 HI hz0 hz1 hz2 rfl (by omega) v n xs hs hown ⟨q, 0, none⟩ 1 1 [wdV y] hx rfl (World.news_of_block hq) (fun u hu => ?_) (by omega) (by unfold maxLen; omega) (by omega) hB _ rfl ?_
  · rw [List.mem_singleton.1 hu]; exact wdV_one y
  · intro g cap w' h1 h2 _ _
    exact h g cap w' h1 (Below.grown (Below.refl _ _) h2 hB (fun q hq => (hown.lt q hq).1))
set_option maxHeartbeats 16000000 in
set_option maxRecDepth 100000 in
theorem wordsOf_mark (a b imm nn label : Int) (p : Option Addr) (m c : Nat) (w : World) (hF : FormsAt w) :
    Calls Tryz.prog 29 #[.agg #[.int .i64 0, .int .i64 a, .int .i64 b, .int .i64 imm, .int .u32 nn, .int .i64 label, .slice p m c]] w (RowPost w ([.mark label])) := by
  obtain ⟨W2, hW2⟩ : ∃ W2, W2 = (w.alloc (.cells #[.int .i64 0, .int .i64 a, .int .i64 b, .int .i64 imm, .int .u32 nn, .int .i64 label, .slice p m c] 52)).alloc (.cells #[.int .i64 0, .int .i64 a, .int .i64 b, .int .i64 imm] 102) := ⟨_, rfl⟩
  have hB2 : Below w.heap.size w W2 := by rw [hW2]; exact (below_one w _).alloc (below_one w _).size _
  have hc1 : W2.heap[w.heap.size]? = some (.cells #[.int .i64 0, .int .i64 a, .int .i64 b, .int .i64 imm, .int .u32 nn, .int .i64 label, .slice p m c] 52 (0, 0)) := by
    rw [hW2, Below.heap_alloc _ _ _ (by simp)]; exact heap_alloc_new w _
  have hc2 : W2.heap[w.heap.size + 1]? = some (.cells #[.int .i64 0, .int .i64 a, .int .i64 b, .int .i64 imm] 102 (0, 0)) := by
    rw [hW2]; have := heap_alloc_new (w.alloc (.cells #[.int .i64 0, .int .i64 a, .int .i64 b, .int .i64 imm, .int .u32 nn, .int .i64 label, .slice p m c] 52)) (.cells #[.int .i64 0, .int .i64 a, .int .i64 b, .int .i64 imm] 102); simpa using this
  have HC : Hid (∀ W, Below W2.heap.size W2 W → (W.cell? ⟨w.heap.size, 0, none⟩ = some (.int .i64 0) ∧ W.cell? ⟨w.heap.size, 4, none⟩ = some (.int .u32 nn) ∧ W.cell? ⟨w.heap.size, 5, none⟩ = some (.int .i64 label) ∧ W.cell? ⟨w.heap.size, 6, none⟩ = some (.slice p m c)) ∧ (W.cell? ⟨w.heap.size + 1, 0, none⟩ = some (.int .i64 0) ∧ W.cell? ⟨w.heap.size + 1, 1, none⟩ = some (.int .i64 a) ∧ W.cell? ⟨w.heap.size + 1, 2, none⟩ = some (.int .i64 b) ∧ W.cell? ⟨w.heap.size + 1, 3, none⟩ = some (.int .i64 imm))) := Lib.hid (fun W hW => by
    have h1 := (hW.block _ (Array.getElem?_eq_some_iff.1 hc1).1).trans hc1
    have h2 := (hW.block _ (Array.getElem?_eq_some_iff.1 hc2).1).trans hc2
    exact ⟨⟨cell_of_block h1 rfl, cell_of_block h1 rfl, cell_of_block h1 rfl, cell_of_block h1 rfl⟩, ⟨cell_of_block h2 rfl, cell_of_block h2 rfl, cell_of_block h2 rfl, cell_of_block h2 rfl⟩⟩)
  have HFW : Hid (∀ W, Below W2.heap.size W2 W → FormsAt W) := Lib.hid (fun W hW => (hF.below hB2).below hW)
  have HBW := Lib.hid hB2
  clear hB2 hc1 hc2 hF
  go_enter Tryz.func29, Tryz.ntmps29
  go_upto_region 2 with (fail)
  rw [← hW2]
  clear hW2
  obtain ⟨⟨y0, y4, y5, y6⟩, z0, z1, z2, z3⟩ := HC.out W2 (Below.refl _ _)
  go_wp2
  go_ret
  have ho : (W2.alloc (.cells #[.iface 103 (.int .i64 label)] 20)).ownsRow W2.heap.size 20 1 (.slice (some ⟨W2.heap.size, 0, none⟩) 1 1) 1 [wdV (some (.mark label))] := own_one W2 (some (.mark label))
  exact ⟨_, _, rfl, (own_cap ho).1, (own_cap ho).2, own_mono ho HBW.out.size, HBW.out.alloc HBW.out.size _⟩
set_option maxHeartbeats 16000000 in
set_option maxRecDepth 100000 in
theorem wordsOf_lit (a b imm nn label : Int) (p : Option Addr) (m c : Nat) (w : World) (hF : FormsAt w) (hwn : IntKind.i64.wrap nn = nn) :
    Calls Tryz.prog 29 #[.agg #[.int .i64 2, .int .i64 a, .int .i64 b, .int .i64 imm, .int .u32 nn, .int .i64 label, .slice p m c]] w (RowPost w (regsW ⟨2, a, b, imm⟩ ++ [.num nn])) := by
  have HRG := Lib.hid (fun (W : World) (hW : FormsAt W) => registers_any 2 a b imm W hW)
  obtain ⟨rs, hrs⟩ : ∃ q, q = regsW ⟨2, a, b, imm⟩ := ⟨_, rfl⟩
  have hln := regs_len ⟨2, a, b, imm⟩
  rw [← hrs] at HRG hln ⊢
  obtain ⟨n, hn⟩ : ∃ n, n = rs.length := ⟨_, rfl⟩
  have HN := Lib.hid hn
  unfold RowPost at HRG
  rw [← hn] at HRG hln
  have HLN := Lib.hid hln
  unfold cV at HRG
  clear hn hrs hln
  obtain ⟨W2, hW2⟩ : ∃ W2, W2 = (w.alloc (.cells #[.int .i64 2, .int .i64 a, .int .i64 b, .int .i64 imm, .int .u32 nn, .int .i64 label, .slice p m c] 52)).alloc (.cells #[.int .i64 2, .int .i64 a, .int .i64 b, .int .i64 imm] 102) := ⟨_, rfl⟩
  have hB2 : Below w.heap.size w W2 := by rw [hW2]; exact (below_one w _).alloc (below_one w _).size _
  have hc1 : W2.heap[w.heap.size]? = some (.cells #[.int .i64 2, .int .i64 a, .int .i64 b, .int .i64 imm, .int .u32 nn, .int .i64 label, .slice p m c] 52 (0, 0)) := by
    rw [hW2, Below.heap_alloc _ _ _ (by simp)]; exact heap_alloc_new w _
  have hc2 : W2.heap[w.heap.size + 1]? = some (.cells #[.int .i64 2, .int .i64 a, .int .i64 b, .int .i64 imm] 102 (0, 0)) := by
    rw [hW2]; have := heap_alloc_new (w.alloc (.cells #[.int .i64 2, .int .i64 a, .int .i64 b, .int .i64 imm, .int .u32 nn, .int .i64 label, .slice p m c] 52)) (.cells #[.int .i64 2, .int .i64 a, .int .i64 b, .int .i64 imm] 102); simpa using this
  have HC : Hid (∀ W, Below W2.heap.size W2 W → (W.cell? ⟨w.heap.size, 0, none⟩ = some (.int .i64 2) ∧ W.cell? ⟨w.heap.size, 4, none⟩ = some (.int .u32 nn) ∧ W.cell? ⟨w.heap.size, 5, none⟩ = some (.int .i64 label) ∧ W.cell? ⟨w.heap.size, 6, none⟩ = some (.slice p m c)) ∧ (W.cell? ⟨w.heap.size + 1, 0, none⟩ = some (.int .i64 2) ∧ W.cell? ⟨w.heap.size + 1, 1, none⟩ = some (.int .i64 a) ∧ W.cell? ⟨w.heap.size + 1, 2, none⟩ = some (.int .i64 b) ∧ W.cell? ⟨w.heap.size + 1, 3, none⟩ = some (.int .i64 imm))) := Lib.hid (fun W hW => by
    have h1 := (hW.block _ (Array.getElem?_eq_some_iff.1 hc1).1).trans hc1
    have h2 := (hW.block _ (Array.getElem?_eq_some_iff.1 hc2).1).trans hc2
    exact ⟨⟨cell_of_block h1 rfl, cell_of_block h1 rfl, cell_of_block h1 rfl, cell_of_block h1 rfl⟩, ⟨cell_of_block h2 rfl, cell_of_block h2 rfl, cell_of_block h2 rfl, cell_of_block h2 rfl⟩⟩)
  have HFW : Hid (∀ W, Below W2.heap.size W2 W → FormsAt W) := Lib.hid (fun W hW => (hF.below hB2).below hW)
  have HBW := Lib.hid hB2
  clear hB2 hc1 hc2 hF
  go_enter Tryz.func29, Tryz.ntmps29
  go_upto_region 2 with (fail)
  rw [← hW2]
  clear hW2
  obtain ⟨⟨y0, y4, y5, y6⟩, z0, z1, z2, z3⟩ := HC.out W2 (Below.refl _ _)
  go_upto_region 5 with (fail)
  obtain ⟨w8, hw8⟩ : ∃ w8, w8 = World.drew W2 := ⟨_, rfl⟩
  have HQ8 : Hid (Below W2.heap.size W2 ((World.drew W2).alloc (.cells #[wdV (some (Wd.num nn))] 20))) := Lib.hid ((bdrewL W2).alloc (Nat.le_refl _) _)
  have HN8 : Hid (((World.drew W2).alloc (.cells #[wdV (some (Wd.num nn))] 20)).heap[W2.heap.size]? = some (.cells #[wdV (some (Wd.num nn))] 20 (0, 0))) := Lib.hid (heap_alloc_new (World.drew W2) _)
  clear hw8
  go_region_held3 (fun W => W.cell? ⟨w.heap.size, 0, none⟩ = some (.int .i64 2) ∧ W.cell? ⟨w.heap.size, 4, none⟩ = some (.int .u32 nn) ∧ W.cell? ⟨w.heap.size, 5, none⟩ = some (.int .i64 label) ∧ W.cell? ⟨w.heap.size + 1, 0, none⟩ = some (.int .i64 2) ∧ W.cell? ⟨w.heap.size + 1, 1, none⟩ = some (.int .i64 a) ∧ W.cell? ⟨w.heap.size + 1, 2, none⟩ = some (.int .i64 b) ∧ W.cell? ⟨w.heap.size + 1, 3, none⟩ = some (.int .i64 imm)) (go_keep) (first
    | (go_at_call 56
       refine (HRG.out (World.drew W2) (HFW.out _ (bdrewL W2))).mono ?_
       rintro e w6 ⟨g6, c6, rfl, h1, h2, h3, h4⟩
       have HO := Lib.hid (row_below (own_mono (B' := W2.heap.size) h3 (Nat.le_refl _)) (below_one w6 (.cells #[wdV (some (Wd.num nn))] 20)))
       have HB : Hid (Below W2.heap.size W2 (w6.alloc (.cells #[wdV (some (Wd.num nn))] 20))) := Lib.hid (((bdrewL W2).trans h4).alloc (h4.size) _)
       have HQ := Lib.hid (heap_alloc_new w6 (.cells #[wdV (some (Wd.num nn))] 20))
       obtain ⟨⟨y0, y4, y5, y6⟩, z0, z1, z2, z3⟩ := HC.out w6 ((bdrewL W2).trans h4)
       clear h1 h2 h3 h4)
    | (go_at_call 56
       refine (HRG.out ((World.drew W2).alloc (.cells #[wdV (some (Wd.num nn))] 20)) (HFW.out _ HQ8.out)).mono ?_
       rintro e w6 ⟨g6, c6, rfl, h1, h2, h3, h4⟩
       have HO := Lib.hid (own_mono (B' := W2.heap.size) h3 (by rw [World.size_alloc]; exact Nat.le_succ _))
       have HB : Hid (Below W2.heap.size W2 w6) := Lib.hid (bt HQ8.out h4)
       have HQ := Lib.hid ((h4.block W2.heap.size (by simp)).trans HN8.out)
       obtain ⟨⟨y0, y4, y5, y6⟩, z0, z1, z2, z3⟩ := HC.out w6 HB.out
       clear h1 h2 h3 h4)
    | ((refine step_push (by rfl) _ _ (by rfl) W2.heap.size _ n _ (by rfl) HO.out (some (Wd.num nn)) _ HQ.out (by rfl) (by have := HLN.out; omega) HB.out.size ?_)
       intro g7 c7 w7 h1 h2
       have HO7 := Lib.hid h1
       have HB7 := Lib.hid (HB.out.trans h2)
       obtain ⟨⟨y0, y4, y5, y6⟩, z0, z1, z2, z3⟩ := HC.out w7 HB7.out
       clear h1 h2))
  all_goals
    go_wp2
    go_ret
    have ho := HO7.out
    have e1 : n + 1 = (rs ++ [Wd.num nn]).length := by rw [List.length_append, ← HN.out]; rfl
    have e2 : (rs.map some).map wdV ++ [wdV (some (Wd.num nn))] = ((rs ++ [Wd.num nn]).map some).map wdV := by simp
    rw [e1, e2] at ho
    rw [e1]
    exact ⟨_, _, rfl, (own_cap ho).1, (own_cap ho).2, own_mono ho HBW.out.size, bt HBW.out HB7.out⟩
set_option maxHeartbeats 16000000 in
set_option maxRecDepth 100000 in
theorem wordsOf_lead (op a b imm nn label : Int) (p : Option Addr) (m c : Nat) (w : World) (hF : FormsAt w) (e0 : (op == 0) = false) (e2 : (op == 2) = false) (hl : leadsB op = true) :
    Calls Tryz.prog 29 #[.agg #[.int .i64 op, .int .i64 a, .int .i64 b, .int .i64 imm, .int .u32 nn, .int .i64 label, .slice p m c]] w (RowPost w (regsW ⟨op, a, b, imm⟩ ++ [.lab label])) := by
  have HLD := Lib.hid (fun (W : World) => leads_any op W)
  rw [hl] at HLD
  clear hl
  have HRG := Lib.hid (fun (W : World) (hW : FormsAt W) => registers_any op a b imm W hW)
  obtain ⟨rs, hrs⟩ : ∃ q, q = regsW ⟨op, a, b, imm⟩ := ⟨_, rfl⟩
  have hln := regs_len ⟨op, a, b, imm⟩
  rw [← hrs] at HRG hln ⊢
  obtain ⟨n, hn⟩ : ∃ n, n = rs.length := ⟨_, rfl⟩
  have HN := Lib.hid hn
  unfold RowPost at HRG
  rw [← hn] at HRG hln
  have HLN := Lib.hid hln
  unfold cV at HRG
  clear hn hrs hln
  obtain ⟨W2, hW2⟩ : ∃ W2, W2 = (w.alloc (.cells #[.int .i64 op, .int .i64 a, .int .i64 b, .int .i64 imm, .int .u32 nn, .int .i64 label, .slice p m c] 52)).alloc (.cells #[.int .i64 op, .int .i64 a, .int .i64 b, .int .i64 imm] 102) := ⟨_, rfl⟩
  have hB2 : Below w.heap.size w W2 := by rw [hW2]; exact (below_one w _).alloc (below_one w _).size _
  have hc1 : W2.heap[w.heap.size]? = some (.cells #[.int .i64 op, .int .i64 a, .int .i64 b, .int .i64 imm, .int .u32 nn, .int .i64 label, .slice p m c] 52 (0, 0)) := by
    rw [hW2, Below.heap_alloc _ _ _ (by simp)]; exact heap_alloc_new w _
  have hc2 : W2.heap[w.heap.size + 1]? = some (.cells #[.int .i64 op, .int .i64 a, .int .i64 b, .int .i64 imm] 102 (0, 0)) := by
    rw [hW2]; have := heap_alloc_new (w.alloc (.cells #[.int .i64 op, .int .i64 a, .int .i64 b, .int .i64 imm, .int .u32 nn, .int .i64 label, .slice p m c] 52)) (.cells #[.int .i64 op, .int .i64 a, .int .i64 b, .int .i64 imm] 102); simpa using this
  have HC : Hid (∀ W, Below W2.heap.size W2 W → (W.cell? ⟨w.heap.size, 0, none⟩ = some (.int .i64 op) ∧ W.cell? ⟨w.heap.size, 4, none⟩ = some (.int .u32 nn) ∧ W.cell? ⟨w.heap.size, 5, none⟩ = some (.int .i64 label) ∧ W.cell? ⟨w.heap.size, 6, none⟩ = some (.slice p m c)) ∧ (W.cell? ⟨w.heap.size + 1, 0, none⟩ = some (.int .i64 op) ∧ W.cell? ⟨w.heap.size + 1, 1, none⟩ = some (.int .i64 a) ∧ W.cell? ⟨w.heap.size + 1, 2, none⟩ = some (.int .i64 b) ∧ W.cell? ⟨w.heap.size + 1, 3, none⟩ = some (.int .i64 imm))) := Lib.hid (fun W hW => by
    have h1 := (hW.block _ (Array.getElem?_eq_some_iff.1 hc1).1).trans hc1
    have h2 := (hW.block _ (Array.getElem?_eq_some_iff.1 hc2).1).trans hc2
    exact ⟨⟨cell_of_block h1 rfl, cell_of_block h1 rfl, cell_of_block h1 rfl, cell_of_block h1 rfl⟩, ⟨cell_of_block h2 rfl, cell_of_block h2 rfl, cell_of_block h2 rfl, cell_of_block h2 rfl⟩⟩)
  have HFW : Hid (∀ W, Below W2.heap.size W2 W → FormsAt W) := Lib.hid (fun W hW => (hF.below hB2).below hW)
  have HBW := Lib.hid hB2
  clear hB2 hc1 hc2 hF
  go_enter Tryz.func29, Tryz.ntmps29
  go_upto_region 2 with (fail)
  rw [← hW2]
  clear hW2
  obtain ⟨⟨y0, y4, y5, y6⟩, z0, z1, z2, z3⟩ := HC.out W2 (Below.refl _ _)
  go_upto_region 7 with (
    go_at_call 57
    refine (HLD.out _).mono ?_
    rintro e w6 ⟨rfl, hw⟩
    have hw2 := hw.symm
    clear hw
    subst hw2)
  obtain ⟨w8, hw8⟩ : ∃ w8, w8 = World.drew W2 := ⟨_, rfl⟩
  have HQ8 : Hid (Below W2.heap.size W2 ((World.drew W2).alloc (.cells #[wdV (some (Wd.lab label))] 20))) := Lib.hid ((bdrewL W2).alloc (Nat.le_refl _) _)
  have HN8 : Hid (((World.drew W2).alloc (.cells #[wdV (some (Wd.lab label))] 20)).heap[W2.heap.size]? = some (.cells #[wdV (some (Wd.lab label))] 20 (0, 0))) := Lib.hid (heap_alloc_new (World.drew W2) _)
  clear hw8
  go_region_held3 (fun W => W.cell? ⟨w.heap.size, 0, none⟩ = some (.int .i64 op) ∧ W.cell? ⟨w.heap.size, 4, none⟩ = some (.int .u32 nn) ∧ W.cell? ⟨w.heap.size, 5, none⟩ = some (.int .i64 label) ∧ W.cell? ⟨w.heap.size + 1, 0, none⟩ = some (.int .i64 op) ∧ W.cell? ⟨w.heap.size + 1, 1, none⟩ = some (.int .i64 a) ∧ W.cell? ⟨w.heap.size + 1, 2, none⟩ = some (.int .i64 b) ∧ W.cell? ⟨w.heap.size + 1, 3, none⟩ = some (.int .i64 imm)) (go_keep) (first
    | (go_at_call 56
       refine (HRG.out (World.drew W2) (HFW.out _ (bdrewL W2))).mono ?_
       rintro e w6 ⟨g6, c6, rfl, h1, h2, h3, h4⟩
       have HO := Lib.hid (row_below (own_mono (B' := W2.heap.size) h3 (Nat.le_refl _)) (below_one w6 (.cells #[wdV (some (Wd.lab label))] 20)))
       have HB : Hid (Below W2.heap.size W2 (w6.alloc (.cells #[wdV (some (Wd.lab label))] 20))) := Lib.hid (((bdrewL W2).trans h4).alloc (h4.size) _)
       have HQ := Lib.hid (heap_alloc_new w6 (.cells #[wdV (some (Wd.lab label))] 20))
       obtain ⟨⟨y0, y4, y5, y6⟩, z0, z1, z2, z3⟩ := HC.out w6 ((bdrewL W2).trans h4)
       clear h1 h2 h3 h4)
    | (go_at_call 56
       refine (HRG.out ((World.drew W2).alloc (.cells #[wdV (some (Wd.lab label))] 20)) (HFW.out _ HQ8.out)).mono ?_
       rintro e w6 ⟨g6, c6, rfl, h1, h2, h3, h4⟩
       have HO := Lib.hid (own_mono (B' := W2.heap.size) h3 (by rw [World.size_alloc]; exact Nat.le_succ _))
       have HB : Hid (Below W2.heap.size W2 w6) := Lib.hid (bt HQ8.out h4)
       have HQ := Lib.hid ((h4.block W2.heap.size (by simp)).trans HN8.out)
       obtain ⟨⟨y0, y4, y5, y6⟩, z0, z1, z2, z3⟩ := HC.out w6 HB.out
       clear h1 h2 h3 h4)
    | ((refine step_push (by rfl) _ _ (by rfl) W2.heap.size _ n _ (by rfl) HO.out (some (Wd.lab label)) _ HQ.out (by rfl) (by have := HLN.out; omega) HB.out.size ?_)
       intro g7 c7 w7 h1 h2
       have HO7 := Lib.hid h1
       have HB7 := Lib.hid (HB.out.trans h2)
       obtain ⟨⟨y0, y4, y5, y6⟩, z0, z1, z2, z3⟩ := HC.out w7 HB7.out
       clear h1 h2))
  all_goals
    go_wp2
    go_ret
    have ho := HO7.out
    have e1 : n + 1 = (rs ++ [Wd.lab label]).length := by rw [List.length_append, ← HN.out]; rfl
    have e2 : (rs.map some).map wdV ++ [wdV (some (Wd.lab label))] = ((rs ++ [Wd.lab label]).map some).map wdV := by simp
    rw [e1, e2] at ho
    rw [e1]
    exact ⟨_, _, rfl, (own_cap ho).1, (own_cap ho).2, own_mono ho HBW.out.size, bt HBW.out HB7.out⟩
set_option maxHeartbeats 16000000 in
set_option maxRecDepth 100000 in
theorem wordsOf_rest (op a b imm nn label : Int) (p : Option Addr) (m c : Nat) (list : List Int) (w : World) (hF : FormsAt w) (e0 : (op == 0) = false) (e2 : (op == 2) = false) (hl : leadsB op = false) (hm : m = list.length) (hL : IntsR w (.slice p m c) list) (h4 : m ≤ 400) :
    Calls Tryz.prog 29 #[.agg #[.int .i64 op, .int .i64 a, .int .i64 b, .int .i64 imm, .int .u32 nn, .int .i64 label, .slice p m c]] w (RowPost w (codeW ⟨op, a, b, imm⟩ ++ list.map Wd.lab)) := by
  have HLD := Lib.hid (fun (W : World) => leads_any op W)
  rw [hl] at HLD
  have HRG := Lib.hid (fun (W : World) (hW : FormsAt W) => codeWords_any op a b imm W hW)
  obtain ⟨rs, hrs⟩ : ∃ q, q = codeW ⟨op, a, b, imm⟩ := ⟨_, rfl⟩
  have hln : 1 ≤ (codeW ⟨op, a, b, imm⟩).length ∧ (codeW ⟨op, a, b, imm⟩).length ≤ 5 := by
    have := regs_len ⟨op, a, b, imm⟩
    unfold codeW
    rw [List.length_append]
    split <;> simp <;> omega
  rw [← hrs] at HRG hln ⊢
  obtain ⟨n, hn⟩ : ∃ n, n = rs.length := ⟨_, rfl⟩
  have HN := Lib.hid hn
  unfold RowPost at HRG
  rw [← hn] at HRG hln
  have HLN := Lib.hid hln
  have HM := Lib.hid hm
  have HL := Lib.hid hL
  have m0 : (0 : Int) ≤ m := by omega
  have m4 : (m : Int) ≤ 400 := by omega
  unfold cV at HRG
  clear hn hrs hln hm hL hl
  obtain ⟨W2, hW2⟩ : ∃ W2, W2 = (w.alloc (.cells #[.int .i64 op, .int .i64 a, .int .i64 b, .int .i64 imm, .int .u32 nn, .int .i64 label, .slice p m c] 52)).alloc (.cells #[.int .i64 op, .int .i64 a, .int .i64 b, .int .i64 imm] 102) := ⟨_, rfl⟩
  have hB2 : Below w.heap.size w W2 := by rw [hW2]; exact (below_one w _).alloc (below_one w _).size _
  have hc1 : W2.heap[w.heap.size]? = some (.cells #[.int .i64 op, .int .i64 a, .int .i64 b, .int .i64 imm, .int .u32 nn, .int .i64 label, .slice p m c] 52 (0, 0)) := by
    rw [hW2, Below.heap_alloc _ _ _ (by simp)]; exact heap_alloc_new w _
  have hc2 : W2.heap[w.heap.size + 1]? = some (.cells #[.int .i64 op, .int .i64 a, .int .i64 b, .int .i64 imm] 102 (0, 0)) := by
    rw [hW2]; have := heap_alloc_new (w.alloc (.cells #[.int .i64 op, .int .i64 a, .int .i64 b, .int .i64 imm, .int .u32 nn, .int .i64 label, .slice p m c] 52)) (.cells #[.int .i64 op, .int .i64 a, .int .i64 b, .int .i64 imm] 102); simpa using this
  have HC : Hid (∀ W, Below W2.heap.size W2 W → (W.cell? ⟨w.heap.size, 0, none⟩ = some (.int .i64 op) ∧ W.cell? ⟨w.heap.size, 4, none⟩ = some (.int .u32 nn) ∧ W.cell? ⟨w.heap.size, 5, none⟩ = some (.int .i64 label) ∧ W.cell? ⟨w.heap.size, 6, none⟩ = some (.slice p m c)) ∧ (W.cell? ⟨w.heap.size + 1, 0, none⟩ = some (.int .i64 op) ∧ W.cell? ⟨w.heap.size + 1, 1, none⟩ = some (.int .i64 a) ∧ W.cell? ⟨w.heap.size + 1, 2, none⟩ = some (.int .i64 b) ∧ W.cell? ⟨w.heap.size + 1, 3, none⟩ = some (.int .i64 imm))) := Lib.hid (fun W hW => by
    have h1 := (hW.block _ (Array.getElem?_eq_some_iff.1 hc1).1).trans hc1
    have h2 := (hW.block _ (Array.getElem?_eq_some_iff.1 hc2).1).trans hc2
    exact ⟨⟨cell_of_block h1 rfl, cell_of_block h1 rfl, cell_of_block h1 rfl, cell_of_block h1 rfl⟩, ⟨cell_of_block h2 rfl, cell_of_block h2 rfl, cell_of_block h2 rfl, cell_of_block h2 rfl⟩⟩)
  have HFW : Hid (∀ W, Below W2.heap.size W2 W → FormsAt W) := Lib.hid (fun W hW => (hF.below hB2).below hW)
  have HBW := Lib.hid hB2
  clear hB2 hc1 hc2 hF
  go_enter Tryz.func29, Tryz.ntmps29
  go_upto_region 2 with (fail)
  rw [← hW2]
  clear hW2
  obtain ⟨⟨y0, y4, y5, y6⟩, z0, z1, z2, z3⟩ := HC.out W2 (Below.refl _ _)
  go_upto_region 9 with (first
    | (go_at_call 57
       refine (HLD.out _).mono ?_
       rintro e w6 ⟨rfl, hw⟩
       have hw2 := hw.symm
       clear hw
       subst hw2)
    | (go_at_call 58
       refine (HRG.out W2 (HFW.out _ (Below.refl _ _))).mono ?_
       rintro e w6 ⟨g6, c6, rfl, h1, h2, h3, h4⟩
       have HO : Hid (w6.ownsRow W2.heap.size 20 1 (.slice (some ⟨g6, 0, none⟩) (n + 0) c6) (n + 0) (((rs ++ (list.take 0).map Wd.lab).map some).map wdV)) := Lib.hid (by rw [List.take_zero, List.map_nil, List.append_nil, Nat.add_zero]; exact h3)
       have HB := Lib.hid h4
       clear h1 h2 h3 h4))
  clear y0 y4 y5 y6 z0 z1 z2 z3
  obtain ⟨⟨y0, y4, y5, y6⟩, z0, z1, z2, z3⟩ := HC.out w6 HB.out
  go_wp2
  go_loopw [4, 52] (fun v i wr => ∃ k g cc : Nat, k ≤ m ∧ i = .int .i64 k ∧ v = .slice (some ⟨g, 0, none⟩) (n + k) cc ∧ Hid (wr.ownsRow W2.heap.size 20 1 (.slice (some ⟨g, 0, none⟩) (n + k) cc) (n + k) (((rs ++ (list.take k).map Wd.lab).map some).map wdV)) ∧ Hid (Below W2.heap.size W2 wr)) (fun _ i _ => m - (intOf i).toNat)
  case atStart => exact ⟨0, g6, c6, Nat.zero_le _, rfl, rfl, HO, HB⟩
  case round =>
    obtain ⟨k, g, cc, hk, rfl, rfl, HOr, HBR⟩ := hrel
    have k0 : (0 : Int) ≤ k := by omega
    by_cases hkm : k < m
    · obtain ⟨bb, oo, q, rfl, hq, hbl, hcell, hc1, hc2⟩ := ints_pt ((show IntsR w (.slice p m c) list from HL.out).below (bt HBW.out HBR.out)) (show k < list.length by have := HM.out; omega)
      have k1 : (k : Int) < m := by omega
      have c1 : (m : Int) ≤ c := by have := HM.out; omega
      have c2 : (c : Int) ≤ 9223372036854775807 := by omega
      have HTK := Lib.hid (show list.take (k + 1) = list.take k ++ [q] by rw [List.take_add_one, hq]; rfl)
      have HKM := Lib.hid hkm
      clear hq hc1 hc2 hkm hk
      go_wp2_with (
        at_builtin
        refine wpList_push (by rfl) _ _ (by rfl) W2.heap.size _ (n + k) _ (by rfl) HOr.out (some (.lab q)) _ rfl (by rfl) (by have := HLN.out; omega) HBR.out.size ?_
        intro g8 p8 w8 h1 h2 h3 h4 h5
        have HO8 := Lib.hid h1
        have HB8 := Lib.hid (HBR.out.trans h3)
        clear h1 h2 h3 h4 h5)
      have e1 : ((rs ++ (list.take k).map Wd.lab).map some).map wdV ++ [wdV (some (.lab q))] = ((rs ++ (list.take (k + 1)).map Wd.lab).map some).map wdV := by rw [HTK.out]; simp
      exact ⟨⟨k + 1, g8, p8, HKM.out, by go_num, rfl, Lib.hid (e1 ▸ HO8.out), HB8⟩, by have := HKM.out; simp [intOf]; omega⟩
    · obtain rfl : m = k := by omega
      go_wp2
      go_ret
      have ho := HOr.out
      have e1 : n + m = (rs ++ list.map Wd.lab).length := by rw [List.length_append, List.length_map, ← HN.out, ← HM.out]
      rw [List.take_of_length_le (by have := HM.out; omega), e1] at ho
      rw [e1]
      exact ⟨_, _, rfl, (own_cap ho).1, (own_cap ho).2, own_mono ho HBW.out.size, bt HBW.out HBR.out⟩
theorem wordsOf_any (x : PL) (p : Option Addr) (c : Nat) (w : World) (hF : FormsAt w) (hm : mayB x = true) (hn : 0 ≤ x.n ∧ x.n < 4294967296) (hL : IntsR w (.slice p x.list.length c) x.list) :
    Calls Tryz.prog 29 #[lineV x p x.list.length c] w (RowPost w (wordsL x)) := by
  have hk := (may_list hm).2.1
  obtain ⟨op, a, b, imm, nn, label, list⟩ := x
  unfold lineV wordsL codeOf
  simp only at hk hL hn ⊢
  by_cases h0 : op = 0
  · rw [if_pos h0]; subst h0; exact wordsOf_mark a b imm nn label p list.length c w hF
  · rw [if_neg h0]
    by_cases h2 : op = 2
    · rw [if_pos h2]; subst h2; exact wordsOf_lit a b imm nn label p list.length c w hF (IntWalk.i64_in _ (by omega))
    · rw [if_neg h2]
      by_cases hl : leadsB op = true
      · rw [if_pos hl]; exact wordsOf_lead op a b imm nn label p list.length c w hF (by simpa using h0) (by simpa using h2) hl
      · rw [if_neg hl]; exact wordsOf_rest op a b imm nn label p list.length c list w hF (by simpa using h0) (by simpa using h2) (by simpa using hl) rfl hL hk
end Go.Proofs.YthojmbljlehpbaaGreatDoor.Lists
