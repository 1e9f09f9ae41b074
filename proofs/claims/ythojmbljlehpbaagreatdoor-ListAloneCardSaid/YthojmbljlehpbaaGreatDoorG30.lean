/- The end of a line. No condition but sizes. -/
import Derived.Test.YthojmbljlehpbaaGreatDoorG29
namespace Go.Proofs.YthojmbljlehpbaaGreatDoor.Lists
open Go.RowKit Go.Proofs.YthojmbljlehpbaaGreatDoor.Relax Go.Proofs.YthojmbljlehpbaaGreatDoor.Graph
open Go.Lib hiding intOf
open Go.Proofs.YthojmbljlehpbaaGreatDoor.Enc hiding below_one bt ret_bool

variable [ItP]
omit [ItP] in
theorem own_cutG {w : World} {B n c : Nat} {e : TypeId} {p : Option Addr} {xs : List Value} (h : w.ownsRow B e 1 (.slice p n c) n xs) : w.ownsRow B e 1 (.slice p 0 c) 0 [] := by
  obtain ⟨_, ⟨h1, _⟩ | ⟨g, cap, cur, h1, hB, hg, h2, h3, h4, _⟩⟩ := h
  · injection h1 with h1 _ h3
    subst h1 h3
    exact World.ownsRow_nil _ _ _ _
  · injection h1 with h1 _ h5
    subst h1 h5
    exact ⟨rfl, .inr ⟨g, c, cur, rfl, hB, hg, Nat.zero_le _, h3, h4, by simp⟩⟩
/-- The words are cut to none. -/
theorem RdR.cut {B rb ob n c : Nat} {s : List UInt8} {bg : Int} {r r' : Rd} {p : Option Addr} {vl : Value} {w : World} (h : RdR B rb ob s bg r (.slice p n c) vl w)
    (hc : (rdCs s ob bg r (.slice p n c) vl).setIfInBounds 4 (.slice p 0 c) = rdCs s ob bg r' (.slice p 0 c) vl) (hw : r'.words = []) (hl : r'.lines = r.lines) :
    RdR B rb ob s bg r' (.slice p 0 c) vl (w.setCell ⟨rb, 4, none⟩ (.slice p 0 c)) := by
  have hn : n = r.words.length := by
    obtain ⟨_, _, hh⟩ := own_sl h.words
    injection hh
  refine ⟨by rw [heap_setCell_same w rb 4 _ _ _ h.box, hc], ?_, by rw [hl]; exact h.lines.set h.box, ?_, h.hB, h.h8, h.laid.belowB h.h8 ((Below.refl B w).setCell (p := ⟨rb, 4, none⟩) h.hB _), h.it.set h.box⟩
  · rw [hw]
    have h1 := own_cutG (hn ▸ h.words)
    exact own_keepG h1 (fun q hq => set_otherL (own_boxG h1 h.box (by decide) q hq))
  · have h2 := h.ops
    unfold OpsAt at h2 ⊢
    exact h2.setCell (fun e => by
      obtain ⟨es, clock, hb, _⟩ := h2
      rw [e] at hb
      have := h.box
      rw [hb] at this
      injection this with this
      cases this) _
/-- A line more. -/
theorem RdR.lined {B rb ob : Nat} {s : List UInt8} {bg : Int} {r r' : Rd} {v vl V lv : Value} {x : PL} {ps : List (PL × Value)} {w w' : World} (h : RdR B rb ob s bg r v vl w) (o : Obj) (hps : ps.map (·.1) = r.lines) (hpo : w.ownsRow B 52 7 vl r.lines.length (flatL ps)) (hpl : ∀ q ∈ ps, w.ownsRow B 3 1 q.2 q.1.list.length (q.1.list.map fun x => Value.int .i64 x)) (hx : w.ownsRow B 3 1 lv x.list.length (x.list.map fun x => Value.int .i64 x))
    (h1 : w'.ownsRow B 52 7 V (r.lines.length + 1) (flatL (ps ++ [(x, lv)]))) (h2 : (w.alloc o).grownBy w' vl.ownBlock)
    (hc : (rdCs s ob bg r v vl).setIfInBounds 5 V = rdCs s ob bg r' v V) (hw : r'.words = r.words) (hl : r'.lines = r.lines ++ [x]) :
    w'.frozen? ⟨rb, 5, none⟩ = false ∧ RdR B rb ob s bg r' v V (w'.setCell ⟨rb, 5, none⟩ V) ∧ Below B w (w'.setCell ⟨rb, 5, none⟩ V) ∧ ∀ k, w'.cell? ⟨rb, k, none⟩ = w.cell? ⟨rb, k, none⟩ := by
  have hb0 := (Below.refl w.heap.size w).alloc (Nat.le_refl _) o
  have ha := h.below hb0
  have hpo' := own_belowG hpo hb0
  have hbx : w'.heap[rb]? = _ := (h2.block rb ha.lt (fun e => own_boxG hpo' ha.box (by decide) rb e.symm rfl)).trans ha.box
  have hBw : Below B w w' := ((Below.refl B w).alloc h.hBw o).grown h2 ha.hBw (fun q hq => (hpo'.lt q hq).1)
  have hop : OpsAt w' ob 49 := by
    have h3 := ha.ops
    unfold OpsAt at h3 ⊢
    refine h3.kept h2 (fun e => ?_)
    obtain ⟨_, cs, h4⟩ := own_ltG hpo' e.symm
    obtain ⟨es, clock, hb, _⟩ := h3
    rw [h4] at hb
    injection hb with hb
    cases hb
  have hin : ∀ (l : List Value) (n : Nat) (u : Value), w.ownsRow B 3 1 u n l → (w'.setCell ⟨rb, 5, none⟩ V).ownsRow B 3 1 u n l := fun l n u hu => by
    have hu1 := own_belowG hu hb0
    have hu2 := own_grownG hu1 h2 (fun k hk => own_unlikeG hu1 hpo' (by decide) k hk)
    exact own_keepG hu2 (fun q hq => set_otherL (own_boxG hu2 hbx (by decide) q hq))
  refine ⟨by simp [World.frozen?, hbx], ⟨by rw [heap_setCell_same w' rb 5 _ _ _ hbx, hc], ?_, ?_, ?_, h.hB, h.h8, h.laid.belowB h.h8 (hBw.setCell (p := ⟨rb, 5, none⟩) h.hB V), (ha.it.grown hpo' h2).set hbx⟩, hBw.setCell (p := ⟨rb, 5, none⟩) h.hB V, fun k => (h2.cell_far ⟨rb, k, none⟩ ha.lt (fun e => own_boxG hpo' ha.box (by decide) rb e.symm rfl)).trans (cell_below hb0 h.lt _)⟩
  · rw [hw]
    have hu2 := own_grownG ha.words h2 (fun k hk => own_unlikeG ha.words hpo' (by decide) k hk)
    exact own_keepG hu2 (fun q hq => set_otherL (own_boxG hu2 hbx (by decide) q hq))
  · rw [hl]
    refine ⟨ps ++ [(x, lv)], by rw [List.map_append, hps]; rfl, ?_, fun q hq => ?_⟩
    · rw [List.length_append]
      exact own_keepG h1 (fun q hq => set_otherL (own_boxG h1 hbx (by decide) q hq))
    · rcases List.mem_append.1 hq with hq | hq
      · exact hin _ _ _ (hpl q hq)
      · rw [List.mem_singleton] at hq
        subst hq
        exact hin _ _ _ hx
  · unfold OpsAt at hop ⊢
    exact hop.setCell (fun e => by
      obtain ⟨es, clock, hb, _⟩ := hop
      rw [e] at hb
      rw [hbx] at hb
      injection hb with hb
      cases hb) V
set_option maxHeartbeats 16000000 in
set_option maxRecDepth 100000 in
theorem endLine_none (B rb ob : Nat) (bg : Int) (s : List UInt8) (r : Rd) (vw vl : Value) (w : World) (h : RdR B rb ob s bg r vw vl w) (h0 : r.words = []) (hn : r.number ≤ 281474976710656) :
    Calls Tryz.prog 100 #[.pointer (some ⟨rb, 0, none⟩)] w (RdPost B rb ob s bg (endL r) w) := by
  have HE : Hid (endL r = nextL r) := Lib.hid (by unfold endL; rw [if_pos h0])
  have hB := h.hB
  obtain ⟨pw, cw, rfl⟩ := own_sl h.words
  have h' : RdR B rb ob s bg r (.slice pw 0 cw) vl w := by rw [h0] at h; exact h
  have c4 : w.cell? ⟨rb, 4, none⟩ = some (.slice pw 0 cw) := h'.cells.1.2.2.2.2.1
  have HQ := Lib.hid (((h'.cut (r' := r) rfl h0 rfl).set (bg' := bg) (r' := { r with remark := false }) 3 (.bool false) rfl rfl rfl).set (bg' := bg) (r' := nextL r) 7 (.int .i64 ((r.number : Int) + 1)) rfl h0.symm rfl)
  obtain ⟨⟨y0, y1, y2, y3, _, y5, y6, y7, y8⟩, fz⟩ := h'.cells
  have hlt := h.lt
  have f3 := fz 3
  have f4 := fz 4
  have f7 := fz 7
  have hsl : 0 ≤ cw := Nat.zero_le _
  have hnil : pw = none ∨ ∃ g, pw = some ⟨g, 0, none⟩ := by
    obtain ⟨_, ⟨hh, _⟩ | ⟨g, cap, cur, hh, _⟩⟩ := h'.words
    · injection hh with hh; exact .inl hh
    · injection hh with hh; exact .inr ⟨g, hh⟩
  clear h h' fz
  rcases hnil with rfl | ⟨g, rfl⟩ <;>
  · go_enter Tryz.func100, Tryz.ntmps100
    go_wp2
    go_end0
    rw [HE.out]
    exact ⟨rfl, _, _, HQ.out, (((Below.refl B w).setCell (p := ⟨rb, 4, none⟩) hB _).setCell (p := ⟨rb, 3, none⟩) hB _).setCell (p := ⟨rb, 7, none⟩) hB _⟩
set_option maxHeartbeats 16000000 in
set_option maxRecDepth 100000 in
theorem endLine_bad (B rb ob : Nat) (bg : Int) (s : List UInt8) (r : Rd) (vw vl : Value) (w : World) (h : RdR B rb ob s bg r vw vl w) (h0 : r.words ≠ []) (hm9 : r.words.length ≤ 403) (hlp : lineP r.words = none) :
    Calls Tryz.prog 100 #[.pointer (some ⟨rb, 0, none⟩)] w (RdPost B rb ob s bg (endL r) w) := by
  have HE : Hid (endL r = { r with wrong := true }) := Lib.hid (by unfold endL; rw [if_neg h0, hlp])
  have H := Lib.hid h
  have hB := h.hB
  obtain ⟨pw, cw, rfl⟩ := own_sl h.words
  have HLO := Lib.hid (lineOf_any r.words pw cw w h.laid (wds_own h.words) hm9)
  unfold LineOfPost lineV at HLO
  rw [hlp] at HLO
  obtain ⟨x, hx⟩ : ∃ x, x = fillP r.words := ⟨_, rfl⟩
  rw [← hx] at HLO
  obtain ⟨m, hm⟩ : ∃ m, m = r.words.length := ⟨_, rfl⟩
  have hm0 : 0 < m := by rw [hm]; exact List.length_pos_iff.2 h0
  rw [← hm] at HLO
  have hgw : ∃ g, pw = some ⟨g, 0, none⟩ := by
    obtain ⟨_, ⟨hh, _⟩ | ⟨g, cap, cur, hh, _⟩⟩ := h.words
    · injection hh with _ hh; rw [← hm] at hh; omega
    · injection hh with hh; exact ⟨g, hh⟩
  obtain ⟨g, rfl⟩ := hgw
  obtain ⟨⟨y0, y1, y2, y3, y4, y5, y6, y7, y8⟩, fz⟩ := h.cells
  rw [← hm] at y4
  have hlt := h.lt
  have m1 : (0 : Int) < m := by omega
  have HM := Lib.hid hm
  clear h fz h0 hlp hm9 hm hx
  go_enter Tryz.func100, Tryz.ntmps100
  go_upto_region 2 with (
    go_at_call 122
    refine HLO.out.mono ?_
    rintro e w6 ⟨lp, lc, rfl, hl6, hb6⟩
    have H6 := Lib.hid (H.out.below hb6)
    have HB6 : Hid (Below B w w6) := Lib.hid (hb6.mono H.out.hBw)
    have HL6 := Lib.hid (own_mono hl6 H.out.hBw)
    clear y0 y1 y2 y3 y4 y5 y6 y7 y8 hl6 hb6 hlt)
  obtain ⟨W1, hW1⟩ : ∃ W1, W1 = w6.alloc (.cells #[.int .i64 x.op, .int .i64 x.a, .int .i64 x.b, .int .i64 x.imm, .int .u32 x.n, .int .i64 x.label, .slice lp x.list.length lc] 52) := ⟨_, rfl⟩
  rw [← hW1]
  have hB61 : Below w6.heap.size w6 W1 := by rw [hW1]; exact below_one w6 _
  have H1 := Lib.hid (H6.out.below hB61)
  have HB1 : Hid (Below B w W1) := Lib.hid (HB6.out.trans (hB61.mono H6.out.hBw))
  have HL1 := Lib.hid (row_below HL6.out hB61)
  obtain ⟨q, hq⟩ : ∃ q, q = w6.heap.size := ⟨_, rfl⟩
  have hbx : W1.heap[q]? = some (.cells #[.int .i64 x.op, .int .i64 x.a, .int .i64 x.b, .int .i64 x.imm, .int .u32 x.n, .int .i64 x.label, .slice lp x.list.length lc] 52 (0, 0)) := by rw [hW1, hq]; exact heap_alloc_new w6 _
  have hqr : q ≠ rb := by have := H6.out.lt; omega
  (try rw [← hq])
  clear hW1 hB61 hq HL6 H6 HB6
  have H1' : RdR B rb ob s bg r (.slice (some ⟨g, 0, none⟩) m cw) vl W1 := by have h := H1.out; rw [← HM.out] at h; exact h
  have HQ := Lib.hid (H1.out.set (bg' := bg) (r' := { r with wrong := true }) 8 (.bool true) rfl rfl rfl)
  obtain ⟨⟨y0, y1, y2, y3, y4, y5, y6, y7, y8⟩, fz⟩ := H1'.cells
  have hlt := H1'.lt
  have f8 := fz 8
  clear fz H1' hbx hqr
  go_wp2
  go_end0
  rw [HE.out]
  exact ⟨rfl, _, _, HQ.out, HB1.out.setCell (p := ⟨rb, 8, none⟩) hB _⟩
set_option maxHeartbeats 16000000 in
set_option maxRecDepth 100000 in
theorem endLine_long (B rb ob : Nat) (bg : Int) (s : List UInt8) (r : Rd) (vw vl : Value) (w : World) (h : RdR B rb ob s bg r vw vl w) (h0 : r.words ≠ []) (hm9 : r.words.length ≤ 403) (x : PL) (hlp : lineP r.words = some x) (hn : r.number ≤ 281474976710656) (hc0 : r.count ≤ 281474976710656) (hc : ¬ r.count + 1 ≤ 60000) :
    Calls Tryz.prog 100 #[.pointer (some ⟨rb, 0, none⟩)] w (RdPost B rb ob s bg (endL r) w) := by
  have HE : Hid (endL r = nextL { r with count := r.count + 1 }) := Lib.hid (by unfold endL; rw [if_neg h0, hlp]; simp only; rw [if_neg hc])
  have H := Lib.hid h
  have hB := h.hB
  obtain ⟨pw, cw, rfl⟩ := own_sl h.words
  have HLO := Lib.hid (lineOf_any r.words pw cw w h.laid (wds_own h.words) hm9)
  unfold LineOfPost lineV at HLO
  rw [hlp] at HLO
  clear hlp
  obtain ⟨x, hx⟩ : ∃ x, x = fillP r.words := ⟨_, rfl⟩
  rw [← hx] at HLO
  obtain ⟨m, hm⟩ : ∃ m, m = r.words.length := ⟨_, rfl⟩
  have hm0 : 0 < m := by rw [hm]; exact List.length_pos_iff.2 h0
  rw [← hm] at HLO
  have hgw : ∃ g, pw = some ⟨g, 0, none⟩ := by
    obtain ⟨_, ⟨hh, _⟩ | ⟨g, cap, cur, hh, _⟩⟩ := h.words
    · injection hh with _ hh; rw [← hm] at hh; omega
    · injection hh with hh; exact ⟨g, hh⟩
  obtain ⟨g, rfl⟩ := hgw
  obtain ⟨⟨y0, y1, y2, y3, y4, y5, y6, y7, y8⟩, fz⟩ := h.cells
  rw [← hm] at y4
  have hlt := h.lt
  have m1 : (0 : Int) < m := by omega
  have HM := Lib.hid hm
  clear h fz h0 hm9 hm hx
  go_enter Tryz.func100, Tryz.ntmps100
  go_upto_region 2 with (
    go_at_call 122
    refine HLO.out.mono ?_
    rintro e w6 ⟨lp, lc, rfl, hl6, hb6⟩
    have H6 := Lib.hid (H.out.below hb6)
    have HB6 : Hid (Below B w w6) := Lib.hid (hb6.mono H.out.hBw)
    have HL6 := Lib.hid (own_mono hl6 H.out.hBw)
    clear y0 y1 y2 y3 y4 y5 y6 y7 y8 hl6 hb6 hlt)
  obtain ⟨W1, hW1⟩ : ∃ W1, W1 = w6.alloc (.cells #[.int .i64 x.op, .int .i64 x.a, .int .i64 x.b, .int .i64 x.imm, .int .u32 x.n, .int .i64 x.label, .slice lp x.list.length lc] 52) := ⟨_, rfl⟩
  rw [← hW1]
  have hB61 : Below w6.heap.size w6 W1 := by rw [hW1]; exact below_one w6 _
  have H1 := Lib.hid (H6.out.below hB61)
  have HB1 : Hid (Below B w W1) := Lib.hid (HB6.out.trans (hB61.mono H6.out.hBw))
  have HL1 := Lib.hid (row_below HL6.out hB61)
  obtain ⟨q, hq⟩ : ∃ q, q = w6.heap.size := ⟨_, rfl⟩
  have hbx : W1.heap[q]? = some (.cells #[.int .i64 x.op, .int .i64 x.a, .int .i64 x.b, .int .i64 x.imm, .int .u32 x.n, .int .i64 x.label, .slice lp x.list.length lc] 52 (0, 0)) := by rw [hW1, hq]; exact heap_alloc_new w6 _
  have hqr : q ≠ rb := by have := H6.out.lt; omega
  (try rw [← hq])
  clear hW1 hB61 hq HL6 H6 HB6
  have H1' : RdR B rb ob s bg r (.slice (some ⟨g, 0, none⟩) m cw) vl W1 := by have h := H1.out; rw [← HM.out] at h; exact h
  have HQ := Lib.hid ((((H1'.set (bg' := bg) (r' := { r with count := r.count + 1 }) 6 (.int .i64 ((r.count : Int) + 1)) rfl rfl rfl).cut (r' := { r with count := r.count + 1, words := [] }) rfl rfl rfl).set (bg' := bg) (r' := { r with count := r.count + 1, words := [], remark := false }) 3 (.bool false) rfl rfl rfl).set (bg' := bg) (r' := nextL { r with count := r.count + 1 }) 7 (.int .i64 ((r.number : Int) + 1)) rfl rfl rfl)
  obtain ⟨⟨y0, y1, y2, y3, y4, y5, y6, y7, y8⟩, fz⟩ := H1'.cells
  have hlt := H1'.lt
  have f3 := fz 3
  have f4 := fz 4
  have f6 := fz 6
  have f7 := fz 7
  have c1 : ¬ ((r.count : Int) + 1 ≤ 60000) := by omega
  have c2 : (0 : Int) ≤ r.count := by omega
  clear fz H1' hbx hqr
  go_wp2
  go_end0
  rw [HE.out]
  exact ⟨rfl, _, _, HQ.out, (((HB1.out.setCell (p := ⟨rb, 6, none⟩) hB _).setCell (p := ⟨rb, 4, none⟩) hB _).setCell (p := ⟨rb, 3, none⟩) hB _).setCell (p := ⟨rb, 7, none⟩) hB _⟩
end Go.Proofs.YthojmbljlehpbaaGreatDoor.Lists
