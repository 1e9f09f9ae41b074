/- The end of a line that says something. No condition but sizes. -/
import Derived.Test.YthojmbljlehpbaaGreatDoorG30
namespace Go.Proofs.YthojmbljlehpbaaGreatDoor.Lists
open Go.RowKit Go.Proofs.YthojmbljlehpbaaGreatDoor.Relax Go.Proofs.YthojmbljlehpbaaGreatDoor.Graph
open Go.Lib hiding intOf
open Go.Proofs.YthojmbljlehpbaaGreatDoor.Enc hiding below_one bt ret_bool

variable [ItP]
omit [ItP] in
/-- Lines appended, at a step of a region that draws. -/
theorem wp_lines {w : World} {o : Oper} {a : Act} {K : Act → World → Prop} {Q : Exit → Act → World → Prop} (s x : Operand)
    (ho : o.op = .call { callee := .builtin .append, args := #[s, x], argTypes := #[22, 22] }) (B : Nat) (v : Value) (n : Nat) (ps qs : List (PL × Value)) (hs : a.eval s = v)
    (hown : w.ownsRow B 52 7 v n (flatL ps)) (ad : Addr) (m c : Nat) (hx : a.eval x = .slice (some ad) m c) (hm : m = qs.length)
    (hnews : ∀ j u, (flatL qs)[j]? = some u → w.cell? (ad.add j) = some u) (h1 : ∀ u ∈ flatL qs, u.oneCell' = true) (h64 : (n + m) * 72 ≤ 140737488355328) (hB : B ≤ w.heap.size)
    (h : ∀ v' w', w'.ownsRow B 52 7 v' (n + m) (flatL (ps ++ qs)) → w.grownBy w' v.ownBlock → K (a.put o.dst v') w') : Oper.wp Tryz.prog o a w K Q := by
  obtain ⟨i0, HI, hz0, hz1, hz2⟩ := info_parts info_lineS
  refine wp_append_own_wide w s x 22 ho B 52 i0 _ 7 72 Tryz.underlying22 HI hz0 hz1 hz2 zline_size (by omega) v n (flatL ps) hs hown ad m c (flatL qs) hx (by rw [flat_len, hm]) hnews h1 (by unfold maxLen; omega) (by omega) hB ?_
  intro v' w' h2 h3 _
  exact h v' w' (by rw [flat_app]; exact h2) h3
set_option maxHeartbeats 16000000 in
set_option maxRecDepth 100000 in
theorem endLine_few (B rb ob : Nat) (bg : Int) (s : List UInt8) (r : Rd) (vw vl : Value) (w : World) (h : RdR B rb ob s bg r vw vl w) (h0 : r.words ≠ []) (hm9 : r.words.length ≤ 403) (x : PL) (hlp : lineP r.words = some x) (hn : r.number ≤ 281474976710656) (hc : r.count + 1 ≤ 60000) (hlc : r.lines.length ≤ r.count) :
    Calls Tryz.prog 100 #[.pointer (some ⟨rb, 0, none⟩)] w (RdPost B rb ob s bg (endL r) w) := by
  have HE : Hid (endL r = nextL { r with lines := r.lines ++ [x], count := r.count + 1 }) := Lib.hid (by unfold endL; rw [if_neg h0, hlp]; simp only; rw [if_pos hc])
  have H := Lib.hid h
  have hB := h.hB
  obtain ⟨pw, cw, rfl⟩ := own_sl h.words
  have HLO := Lib.hid (lineOf_any r.words pw cw w h.laid (wds_own h.words) hm9)
  unfold LineOfPost lineV at HLO
  have hx : x = fillP r.words := by
    unfold lineP at hlp
    split at hlp
    · injection hlp with e; exact e.symm
    · cases hlp
  rw [← hx, hlp] at HLO
  obtain ⟨m, hm⟩ : ∃ m, m = r.words.length := ⟨_, rfl⟩
  have hm0 : 0 < m := by rw [hm]; exact List.length_pos_iff.2 h0
  rw [← hm] at HLO
  have hgw : ∃ g, pw = some ⟨g, 0, none⟩ := by
    obtain ⟨_, ⟨hh, _⟩ | ⟨g, cap, cur, hh, _⟩⟩ := h.words
    · injection hh with _ hh; rw [← hm] at hh; omega
    · injection hh with hh; exact ⟨g, hh⟩
  obtain ⟨g, rfl⟩ := hgw
  obtain ⟨⟨y0, y1, y2, y3, y4, y5, y6, y7, y8⟩, fz⟩ := h.cells
  rw [← hm] at y4
  have hlt := h.lt
  have m1 : (0 : Int) < m := by omega
  have HM := Lib.hid hm
  clear h fz h0 hlp hm9 hm hx
  go_enter Tryz.func100, Tryz.ntmps100
  go_upto_region 2 with (
    go_at_call 122
    refine HLO.out.mono ?_
    rintro e w6 ⟨lp, lc, rfl, hl6, hb6⟩
    have H6 := Lib.hid (H.out.below hb6)
    have HB6 : Hid (Below B w w6) := Lib.hid (hb6.mono H.out.hBw)
    have HL6 := Lib.hid (own_mono hl6 H.out.hBw)
    clear y0 y1 y2 y3 y4 y5 y6 y7 y8 hl6 hb6 hlt)
  obtain ⟨W1, hW1⟩ : ∃ W1, W1 = w6.alloc (.cells #[.int .i64 x.op, .int .i64 x.a, .int .i64 x.b, .int .i64 x.imm, .int .u32 x.n, .int .i64 x.label, .slice lp x.list.length lc] 52) := ⟨_, rfl⟩
  rw [← hW1]
  have hB61 : Below w6.heap.size w6 W1 := by rw [hW1]; exact below_one w6 _
  have H1 := Lib.hid (H6.out.below hB61)
  have HB1 : Hid (Below B w W1) := Lib.hid (HB6.out.trans (hB61.mono H6.out.hBw))
  have HL1 := Lib.hid (row_below HL6.out hB61)
  obtain ⟨q, hq⟩ : ∃ q, q = w6.heap.size := ⟨_, rfl⟩
  have hbx : W1.heap[q]? = some (.cells #[.int .i64 x.op, .int .i64 x.a, .int .i64 x.b, .int .i64 x.imm, .int .u32 x.n, .int .i64 x.label, .slice lp x.list.length lc] 52 (0, 0)) := by rw [hW1, hq]; exact heap_alloc_new w6 _
  have hqr : q ≠ rb := by have := H6.out.lt; omega
  (try rw [← hq])
  have hvq : ∀ k, vl.ownBlock = some k → q ≠ k := fun k hk => by
    obtain ⟨_, _, hh, _⟩ := H6.out.lines
    obtain ⟨_, cs, h1⟩ := own_ltG hh hk
    have := (Array.getElem?_eq_some_iff.1 h1).1
    omega
  clear hW1 hB61 hq HL6 H6 HB6
  have H1' : RdR B rb ob s bg r (.slice (some ⟨g, 0, none⟩) m cw) vl W1 := by have h := H1.out; rw [← HM.out] at h; exact h
  obtain ⟨⟨y0, y1, y2, y3, y4, y5, y6, y7, y8⟩, fz⟩ := H1'.cells
  have hlt := H1'.lt
  have f6 := fz 6
  have c1 : (r.count : Int) + 1 ≤ 60000 := by omega
  have c2 : (0 : Int) ≤ r.count := by omega
  have h2 := H1'.set (bg' := bg) (r' := { r with count := r.count + 1 }) 6 (.int .i64 ((r.count : Int) + 1)) rfl rfl rfl
  have HB2 : Hid (Below B w (W1.setCell ⟨rb, 6, none⟩ (.int .i64 ((r.count : Int) + 1)))) := Lib.hid (HB1.out.setCell (p := ⟨rb, 6, none⟩) hB _)
  have hx2 : (W1.setCell ⟨rb, 6, none⟩ (.int .i64 ((r.count : Int) + 1))).heap[q]? = _ := (set_otherL hqr).trans hbx
  have HX2 : Hid ((W1.setCell ⟨rb, 6, none⟩ (.int .i64 ((r.count : Int) + 1))).ownsRow B 3 1 (.slice lp x.list.length lc) x.list.length (x.list.map fun x => Value.int .i64 x)) := Lib.hid (own_keepG HL1.out (fun k hk => set_otherL (own_boxG HL1.out H1'.box (by decide) k hk)))
  clear fz HL1 H1' hbx HB1 H1 HLO
  go_upto_region 6 with (fail)
  clear y0 y1 y2 y3 y4 y5 y6 y7 y8 f6
  generalize W1.setCell ⟨rb, 6, none⟩ (.int .i64 ((r.count : Int) + 1)) = W2 at *
  have h2r := h2.below (bdrewL W2)
  obtain ⟨ps, p1, p2, p3⟩ := h2r.lines
  obtain ⟨pv, cv, rfl⟩ := h2.lines.form
  obtain ⟨n, hnn⟩ : ∃ n, n = r.lines.length := ⟨_, rfl⟩
  have seven : ∀ W : World, W.heap[q]? = some (.cells #[.int .i64 x.op, .int .i64 x.a, .int .i64 x.b, .int .i64 x.imm, .int .u32 x.n, .int .i64 x.label, .slice lp x.list.length lc] 52 (0, 0)) → W.cell? ⟨q, 0, none⟩ = some (.int .i64 x.op) ∧ W.cell? ⟨q, 1, none⟩ = some (.int .i64 x.a) ∧ W.cell? ⟨q, 2, none⟩ = some (.int .i64 x.b) ∧ W.cell? ⟨q, 3, none⟩ = some (.int .i64 x.imm) ∧ W.cell? ⟨q, 4, none⟩ = some (.int .u32 x.n) ∧ W.cell? ⟨q, 5, none⟩ = some (.int .i64 x.label) ∧ W.cell? ⟨q, 6, none⟩ = some (.slice lp x.list.length lc) := fun W h => ⟨cell_of_block h rfl, cell_of_block h rfl, cell_of_block h rfl, cell_of_block h rfl, cell_of_block h rfl, cell_of_block h rfl, cell_of_block h rfl⟩
  have hq2 : q < W2.heap.size := (Array.getElem?_eq_some_iff.1 hx2).1
  have hxd : W2.drew.heap[q]? = _ := ((bdrewL W2).block q hq2).trans hx2
  have hxa : (W2.drew.alloc (.cells #[.int .i64 x.op, .int .i64 x.a, .int .i64 x.b, .int .i64 x.imm, .int .u32 x.n, .int .i64 x.label, .slice lp x.list.length lc] 52)).heap[q]? = _ := (((Below.refl W2.drew.heap.size W2.drew).alloc (Nat.le_refl _) (.cells #[.int .i64 x.op, .int .i64 x.a, .int .i64 x.b, .int .i64 x.imm, .int .u32 x.n, .int .i64 x.label, .slice lp x.list.length lc] 52)).block q (Nat.lt_of_lt_of_le hq2 (bdrewL W2).size)).trans hxd
  have HSA := Lib.hid (seven _ hxa)
  have hSD := seven _ hxd
  have HPO : Hid ((W2.drew.alloc (.cells #[.int .i64 x.op, .int .i64 x.a, .int .i64 x.b, .int .i64 x.imm, .int .u32 x.n, .int .i64 x.label, .slice lp x.list.length lc] 52)).ownsRow B 52 7 (.slice pv n cv) n (flatL ps)) := Lib.hid (by rw [hnn]; exact own_belowG p2 ((Below.refl _ _).alloc (Nat.le_refl _) _))
  have HNEW : Hid (∀ j u, (flatL [(x, Value.slice lp x.list.length lc)])[j]? = some u → (W2.drew.alloc (.cells #[.int .i64 x.op, .int .i64 x.a, .int .i64 x.b, .int .i64 x.imm, .int .u32 x.n, .int .i64 x.label, .slice lp x.list.length lc] 52)).cell? ((⟨W2.heap.size, 0, none⟩ : Addr).add j) = some u) := Lib.hid (World.news_of_block (heap_alloc_new W2.drew (.cells #[.int .i64 x.op, .int .i64 x.a, .int .i64 x.b, .int .i64 x.imm, .int .u32 x.n, .int .i64 x.label, .slice lp x.list.length lc] 52)))
  have HN : Hid (n + 1 ≤ 60000) := Lib.hid (by omega)
  have HBA : Hid (B ≤ (W2.drew.alloc (.cells #[.int .i64 x.op, .int .i64 x.a, .int .i64 x.b, .int .i64 x.imm, .int .u32 x.n, .int .i64 x.label, .slice lp x.list.length lc] 52)).heap.size) := Lib.hid (Nat.le_trans h2r.hBw (((Below.refl W2.drew.heap.size W2.drew).alloc (Nat.le_refl _) (.cells #[.int .i64 x.op, .int .i64 x.a, .int .i64 x.b, .int .i64 x.imm, .int .u32 x.n, .int .i64 x.label, .slice lp x.list.length lc] 52)).size))
  have HC5 : Hid ((W2.drew.alloc (.cells #[.int .i64 x.op, .int .i64 x.a, .int .i64 x.b, .int .i64 x.imm, .int .u32 x.n, .int .i64 x.label, .slice lp x.list.length lc] 52)).cell? ⟨rb, 5, none⟩ = some (.slice pv n cv)) := Lib.hid (by rw [hnn]; exact (h2r.below ((Below.refl _ _).alloc (Nat.le_refl _) (.cells #[.int .i64 x.op, .int .i64 x.a, .int .i64 x.b, .int .i64 x.imm, .int .u32 x.n, .int .i64 x.label, .slice lp x.list.length lc] 52))).cells.1.2.2.2.2.2.1)
  have HPU : Hid (∀ V w7, w7.ownsRow B 52 7 V (n + 1) (flatL (ps ++ [(x, .slice lp x.list.length lc)])) → (W2.drew.alloc (.cells #[.int .i64 x.op, .int .i64 x.a, .int .i64 x.b, .int .i64 x.imm, .int .u32 x.n, .int .i64 x.label, .slice lp x.list.length lc] 52)).grownBy w7 (Value.slice pv n cv).ownBlock → w7.frozen? ⟨rb, 5, none⟩ = false ∧ RdR B rb ob s bg { r with lines := r.lines ++ [x], count := r.count + 1 } (.slice (some ⟨g, 0, none⟩) m cw) V (w7.setCell ⟨rb, 5, none⟩ V) ∧ Below B w (w7.setCell ⟨rb, 5, none⟩ V) ∧ (w7.cell? ⟨q, 0, none⟩ = some (.int .i64 x.op) ∧ w7.cell? ⟨q, 1, none⟩ = some (.int .i64 x.a) ∧ w7.cell? ⟨q, 2, none⟩ = some (.int .i64 x.b) ∧ w7.cell? ⟨q, 3, none⟩ = some (.int .i64 x.imm) ∧ w7.cell? ⟨q, 4, none⟩ = some (.int .u32 x.n) ∧ w7.cell? ⟨q, 5, none⟩ = some (.int .i64 x.label) ∧ w7.cell? ⟨q, 6, none⟩ = some (.slice lp x.list.length lc)) ∧ w7.cell? ⟨rb, 5, none⟩ = some (.slice pv n cv) ∧ ((w7.setCell ⟨rb, 5, none⟩ V).cell? ⟨q, 0, none⟩ = some (.int .i64 x.op) ∧ (w7.setCell ⟨rb, 5, none⟩ V).cell? ⟨q, 1, none⟩ = some (.int .i64 x.a) ∧ (w7.setCell ⟨rb, 5, none⟩ V).cell? ⟨q, 2, none⟩ = some (.int .i64 x.b) ∧ (w7.setCell ⟨rb, 5, none⟩ V).cell? ⟨q, 3, none⟩ = some (.int .i64 x.imm) ∧ (w7.setCell ⟨rb, 5, none⟩ V).cell? ⟨q, 4, none⟩ = some (.int .u32 x.n) ∧ (w7.setCell ⟨rb, 5, none⟩ V).cell? ⟨q, 5, none⟩ = some (.int .i64 x.label) ∧ (w7.setCell ⟨rb, 5, none⟩ V).cell? ⟨q, 6, none⟩ = some (.slice lp x.list.length lc))) := Lib.hid (by
    intro V w7 h1 hg
    obtain ⟨a1, a2, a3, a4⟩ := h2r.lined (r' := { r with lines := r.lines ++ [x], count := r.count + 1 }) (.cells #[.int .i64 x.op, .int .i64 x.a, .int .i64 x.b, .int .i64 x.imm, .int .u32 x.n, .int .i64 x.label, .slice lp x.list.length lc] 52) p1 p2 p3 (own_belowG HX2.out (bdrewL W2)) (by rw [hnn] at h1; exact h1) (by rw [hnn] at hg; exact hg) rfl rfl rfl
    have b7 : w7.heap[q]? = _ := (hg.block q (Array.getElem?_eq_some_iff.1 hxa).1 (fun e => hvq q (by rw [← hnn]; exact e.symm) rfl)).trans hxa
    refine ⟨a1, a2, (HB2.out.trans ((bdrewL W2).mono h2.hBw)).trans a3, seven _ b7, (a4 5).trans ?_, seven _ ((set_otherL hqr).trans b7)⟩
    rw [hnn]
    exact h2r.cells.1.2.2.2.2.2.1)
  obtain ⟨⟨y0, y1, y2, y3, y4, y5, y6, y7, y8⟩, -⟩ := h2.cells
  have hlt2 := h2.lt
  rw [← hnn] at y5
  clear h2 h2r p1 p2 p3 hvq hx2 hxd hxa HB2 HX2 seven hlt hlc hnn c1 c2 hc
  go_cut [] from 35 to 44 (fun wq => Hid (∃ vq, RdR B rb ob s bg { r with lines := r.lines ++ [x], count := r.count + 1 } (.slice (some ⟨g, 0, none⟩) m cw) vq wq ∧ Below B w wq))
  case first =>
    refine wp_region_held_drew (S := (fun W => W.cell? ⟨q, 0, none⟩ = some (.int .i64 x.op) ∧ W.cell? ⟨q, 1, none⟩ = some (.int .i64 x.a) ∧ W.cell? ⟨q, 2, none⟩ = some (.int .i64 x.b) ∧ W.cell? ⟨q, 3, none⟩ = some (.int .i64 x.imm) ∧ W.cell? ⟨q, 4, none⟩ = some (.int .u32 x.n) ∧ W.cell? ⟨q, 5, none⟩ = some (.int .i64 x.label) ∧ W.cell? ⟨q, 6, none⟩ = some (.slice lp x.list.length lc))) (by kernel_rfl) hSD (fun hHeld => ?_)
    refine wpAnyH_take (i := 0) (v := .pointer (some ⟨rb, 0, none⟩)) rfl (by kernel_rfl) (by kernel_rfl) (by kernel_rfl) (fun _ _ _ h => h) (Or.inl ⟨by kernel_rfl, (fun w hSw => by (try dsimp only at hSw); (first | (go_simp; done) | (go_simp; with_reducible rfl)))⟩) (by assumption) ?_
    refine wpAnyH_take (i := 1) (v := .pointer (some ⟨rb, 0, none⟩)) rfl (by kernel_rfl) (by kernel_rfl) (by kernel_rfl) (fun _ _ _ h => h) (Or.inl ⟨by kernel_rfl, (fun w hSw => by (try dsimp only at hSw); (first | (go_simp; done) | (go_simp; with_reducible rfl)))⟩) (by assumption) ?_
    refine wpAnyH_take (i := 2) (v := .pointer (some ⟨rb, 0, none⟩)) rfl (by kernel_rfl) (by kernel_rfl) (by kernel_rfl) (fun _ _ _ h => h) (Or.inl ⟨by kernel_rfl, (fun w hSw => by (try dsimp only at hSw); (first | (go_simp; done) | (go_simp; with_reducible rfl)))⟩) (by assumption) ?_
    refine wpAnyH_take (i := 3) (v := .pointer (some ⟨rb, 5, none⟩)) rfl (by kernel_rfl) (by kernel_rfl) (by kernel_rfl) (fun _ _ _ h => h) (Or.inl ⟨by kernel_rfl, (fun w hSw => by (try dsimp only at hSw); (first | (go_simp; done) | (go_simp; with_reducible rfl)))⟩) (by assumption) ?_
    refine wpAnyH_take (i := 5) (v := .agg #[.int .i64 x.op, .int .i64 x.a, .int .i64 x.b, .int .i64 x.imm, .int .u32 x.n, .int .i64 x.label, .slice lp x.list.length lc]) rfl (by kernel_rfl) (by kernel_rfl) (by kernel_rfl) (fun _ _ _ h => h) (Or.inl ⟨by kernel_rfl, (fun w hSw => by (try dsimp only at hSw); (first | (go_simp; done) | (go_simp; with_reducible rfl)))⟩) (by assumption) ?_
    refine wpAnyH_ready (rs := [4, 6]) (by kernel_rfl) (by simp) ?_
    refine AllReadyH.cons rfl (fun K hK => ?_) (AllReadyH.cons rfl (fun K hK => ?_) AllReadyH.nil)
    · rw [if_pos (by kernel_rfl)]
      go_simp
      refine hK.out _ _ (by assumption) (fun hHeld => ?_)
      clear hK
      refine wpAnyH_ready (rs := [6]) (by kernel_rfl) (by simp) ?_
      refine AllReadyH.cons rfl (fun K hK => ?_) AllReadyH.nil
      rw [if_pos (by kernel_rfl)]
      go_simp
      refine hK.out _ _ (HSA.out) (fun hHeld => ?_)
      clear hK
      refine wpAnyH_ready (rs := [7]) (by kernel_rfl) (by simp) ?_
      refine AllReadyH.cons rfl (fun K hK => ?_) AllReadyH.nil
      rw [if_pos (by kernel_rfl)]
      refine wp_lines _ _ (by rfl) B _ n ps [(x, .slice lp x.list.length lc)] (by rfl) HPO.out _ 1 1 (by rfl) rfl HNEW.out (by intro u hu; simp [flatL, lineCs, iv] at hu; rcases hu with rfl | rfl | rfl | rfl | rfl | rfl | rfl <;> rfl) (by have := HN.out; omega) HBA.out ?_
      intro v7 w7 h1 h2
      obtain ⟨gV, cV, rfl⟩ : ∃ gV cV, v7 = .slice (some ⟨gV, 0, none⟩) (n + 1) cV := by
        obtain ⟨_, ⟨_, hh⟩ | ⟨gV, cap, cur, hh, _⟩⟩ := h1
        · omega
        · exact ⟨gV, cap, hh⟩
      have h7 := HPU.out _ w7 h1 h2
      have hf7 := h7.1
      have H7 := Lib.hid h7.2.1
      have HB7 := Lib.hid h7.2.2.1
      have HS7 := Lib.hid h7.2.2.2.2
      have hS6 := h7.2.2.2.1
      have hc5 := h7.2.2.2.2.1
      clear h1 h2 h7 hHeld
      refine hK.out _ _ hS6 (fun hHeld => ?_)
      clear hK
      refine wpAnyH_take (i := 8) (v := .pointer (some ⟨rb, 0, none⟩)) rfl (by kernel_rfl) (by kernel_rfl) (by kernel_rfl) (fun _ _ _ h => h) (Or.inl ⟨by kernel_rfl, (fun w hSw => by (try dsimp only at hSw); (first | (go_simp; done) | (go_simp; with_reducible rfl)))⟩) (by assumption) ?_
      refine wpAnyH_take (i := 9) (v := .pointer (some ⟨rb, 5, none⟩)) rfl (by kernel_rfl) (by kernel_rfl) (by kernel_rfl) (fun _ _ _ h => h) (Or.inl ⟨by kernel_rfl, (fun w hSw => by (try dsimp only at hSw); (first | (go_simp; done) | (go_simp; with_reducible rfl)))⟩) (by assumption) ?_
      refine wpAnyH_ready (rs := [10]) (by kernel_rfl) (by simp) ?_
      refine AllReadyH.cons rfl (fun K hK => ?_) AllReadyH.nil
      rw [if_pos (by kernel_rfl)]
      go_simp
      refine hK.out _ _ HS7.out.2 (fun hHeld => ?_)
      clear hK
      refine wpAnyH_done (by kernel_rfl) ?_ _
      go_simp
      go_wp2
      go_meet
      exact Lib.hid ⟨_, H7.out, HB7.out⟩
    · rw [if_pos (by kernel_rfl)]
      go_simp
      refine hK.out _ _ (HSA.out) (fun hHeld => ?_)
      clear hK
      refine wpAnyH_ready (rs := [4]) (by kernel_rfl) (by simp) ?_
      refine AllReadyH.cons rfl (fun K hK => ?_) AllReadyH.nil
      rw [if_pos (by kernel_rfl)]
      have yy := HC5.out
      go_simp
      refine hK.out _ _ (by assumption) (fun hHeld => ?_)
      clear hK yy
      refine wpAnyH_ready (rs := [7]) (by kernel_rfl) (by simp) ?_
      refine AllReadyH.cons rfl (fun K hK => ?_) AllReadyH.nil
      rw [if_pos (by kernel_rfl)]
      refine wp_lines _ _ (by rfl) B _ n ps [(x, .slice lp x.list.length lc)] (by rfl) HPO.out _ 1 1 (by rfl) rfl HNEW.out (by intro u hu; simp [flatL, lineCs, iv] at hu; rcases hu with rfl | rfl | rfl | rfl | rfl | rfl | rfl <;> rfl) (by have := HN.out; omega) HBA.out ?_
      intro v7 w7 h1 h2
      obtain ⟨gV, cV, rfl⟩ : ∃ gV cV, v7 = .slice (some ⟨gV, 0, none⟩) (n + 1) cV := by
        obtain ⟨_, ⟨_, hh⟩ | ⟨gV, cap, cur, hh, _⟩⟩ := h1
        · omega
        · exact ⟨gV, cap, hh⟩
      have h7 := HPU.out _ w7 h1 h2
      have hf7 := h7.1
      have H7 := Lib.hid h7.2.1
      have HB7 := Lib.hid h7.2.2.1
      have HS7 := Lib.hid h7.2.2.2.2
      have hS6 := h7.2.2.2.1
      have hc5 := h7.2.2.2.2.1
      clear h1 h2 h7 hHeld
      refine hK.out _ _ hS6 (fun hHeld => ?_)
      clear hK
      refine wpAnyH_take (i := 8) (v := .pointer (some ⟨rb, 0, none⟩)) rfl (by kernel_rfl) (by kernel_rfl) (by kernel_rfl) (fun _ _ _ h => h) (Or.inl ⟨by kernel_rfl, (fun w hSw => by (try dsimp only at hSw); (first | (go_simp; done) | (go_simp; with_reducible rfl)))⟩) (by assumption) ?_
      refine wpAnyH_take (i := 9) (v := .pointer (some ⟨rb, 5, none⟩)) rfl (by kernel_rfl) (by kernel_rfl) (by kernel_rfl) (fun _ _ _ h => h) (Or.inl ⟨by kernel_rfl, (fun w hSw => by (try dsimp only at hSw); (first | (go_simp; done) | (go_simp; with_reducible rfl)))⟩) (by assumption) ?_
      refine wpAnyH_ready (rs := [10]) (by kernel_rfl) (by simp) ?_
      refine AllReadyH.cons rfl (fun K hK => ?_) AllReadyH.nil
      rw [if_pos (by kernel_rfl)]
      go_simp
      refine hK.out _ _ HS7.out.2 (fun hHeld => ?_)
      clear hK
      refine wpAnyH_done (by kernel_rfl) ?_ _
      go_simp
      go_wp2
      go_meet
      exact Lib.hid ⟨_, H7.out, HB7.out⟩
  case rest =>
    rename_i K hK
    refine hK _ _ ?_
    clear hK K
    obtain ⟨vq, hI, hBI⟩ := hcut.out
    clear hcut
    have HQ := Lib.hid (((hI.cut (r' := { r with lines := r.lines ++ [x], count := r.count + 1, words := [] }) rfl rfl rfl).set (bg' := bg) (r' := { r with lines := r.lines ++ [x], count := r.count + 1, words := [], remark := false }) 3 (.bool false) rfl rfl rfl).set (bg' := bg) (r' := nextL { r with lines := r.lines ++ [x], count := r.count + 1 }) 7 (.int .i64 ((r.number : Int) + 1)) rfl rfl rfl)
    clear y0 y1 y2 y3 y4 y5 y6 y7 y8
    obtain ⟨⟨y0, y1, y2, y3, y4, y5, y6, y7, y8⟩, fz⟩ := hI.cells
    have f3 := fz 3
    have f4 := fz 4
    have f7 := fz 7
    have hlt := hI.lt
    have HBI := Lib.hid hBI
    clear fz hI hBI
    go_wp2
    go_end0
    rw [HE.out]
    exact ⟨rfl, _, _, HQ.out, ((HBI.out.setCell (p := ⟨rb, 4, none⟩) hB _).setCell (p := ⟨rb, 3, none⟩) hB _).setCell (p := ⟨rb, 7, none⟩) hB _⟩
theorem endLine_any (B rb ob : Nat) (bg : Int) (s : List UInt8) (r : Rd) (vw vl : Value) (w : World) (h : RdR B rb ob s bg r vw vl w) (hm9 : r.words.length ≤ 403) (hn : r.number ≤ 281474976710656) (hc0 : r.count ≤ 281474976710656) (hlc : r.lines.length ≤ r.count) :
    Calls Tryz.prog 100 #[.pointer (some ⟨rb, 0, none⟩)] w (RdPost B rb ob s bg (endL r) w) := by
  by_cases h0 : r.words = []
  · exact endLine_none B rb ob bg s r vw vl w h h0 hn
  · cases hlp : lineP r.words with
    | none => exact endLine_bad B rb ob bg s r vw vl w h h0 hm9 hlp
    | some x =>
      by_cases hc : r.count + 1 ≤ 60000
      · exact endLine_few B rb ob bg s r vw vl w h h0 hm9 x hlp hn hc hlc
      · exact endLine_long B rb ob bg s r vw vl w h h0 hm9 x hlp hn hc0 hc
end Go.Proofs.YthojmbljlehpbaaGreatDoor.Lists
