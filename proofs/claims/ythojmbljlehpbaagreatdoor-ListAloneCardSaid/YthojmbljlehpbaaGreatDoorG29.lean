/- The end of a word. No condition but sizes. -/
import Derived.Test.YthojmbljlehpbaaGreatDoorG28
import Derived.Deep.RegionHeld3
namespace Go.Proofs.YthojmbljlehpbaaGreatDoor.Lists
open Go.RowKit Go.Proofs.YthojmbljlehpbaaGreatDoor.Relax Go.Proofs.YthojmbljlehpbaaGreatDoor.Graph
open Go.Lib hiding intOf
open Go.Proofs.YthojmbljlehpbaaGreatDoor.Enc hiding below_one bt ret_bool

variable [ItP]
omit [ItP] in
/-- A word more, at a step of a region that draws; what grew is named. -/
theorem step_pushG {w : World} {ops : Array Oper} {o : Oper} {a : Act} {K : Act → World → Prop} {Q : Exit → Act → World → Prop} {E : Prop} (hgd : o.guard = none) (s x : Operand)
    (ho : o.op = .call { callee := .builtin .append, args := #[s, x], argTypes := #[59, 59] }) (B : Nat) (v : Value) (n : Nat) (xs : List Value) (hs : a.eval s = v)
    (hown : w.ownsRow B 20 1 v n xs) (y : Option Wd) (q : Nat) (hq : w.heap[q]? = some (.cells #[wdV y] 20 (0, 0))) (hx : a.eval x = .slice (some ⟨q, 0, none⟩) 1 1) (hn : n ≤ 1000000) (hB : B ≤ w.heap.size)
    (h : ∀ g cap w', w'.ownsRow B 20 1 (.slice (some ⟨g, 0, none⟩) (n + 1) cap) (n + 1) (xs ++ [wdV y]) → w.grownBy w' v.ownBlock → K (a.put o.dst (.slice (some ⟨g, 0, none⟩) (n + 1) cap)) w') :
    if Region.wanted o (yielded ops a.tmps) = true then Oper.wp Tryz.prog o a w K Q else E := by
  obtain ⟨i0, HI, hz0, hz1, hz2⟩ := info_parts info_any
  refine step_append_lies _ hgd s x 59 ho B 20 i0 _ 1 16 Tryz.underlying59 HI hz0 hz1 hz2 rfl (by omega) v n xs hs hown ⟨q, 0, none⟩ 1 1 [wdV y] hx rfl (World.news_of_block hq) (fun u hu => ?_) (by omega) (by unfold maxLen; omega) (by omega) hB _ rfl ?_
  · rw [List.mem_singleton.1 hu]; exact wdV_one y
  · intro g cap w' h1 h2 _ _
    exact h g cap w' h1 h2
theorem RdR.pushed {B rb ob : Nat} {s : List UInt8} {bg : Int} {r r' : Rd} {v vl V : Value} {w w' : World} (h : RdR B rb ob s bg r v vl w) (o : Obj) (y : Option Wd)
    (h1 : w'.ownsRow B 20 1 V (r.words.length + 1) (r.words.map wdV ++ [wdV y])) (h2 : (w.alloc o).grownBy w' v.ownBlock)
    (hc : (rdCs s ob bg r v vl).setIfInBounds 4 V = rdCs s ob bg r' V vl) (hw : r'.words = r.words ++ [y]) (hl : r'.lines = r.lines) :
    w'.frozen? ⟨rb, 4, none⟩ = false ∧ RdR B rb ob s bg r' V vl (w'.setCell ⟨rb, 4, none⟩ V) ∧ Below B w (w'.setCell ⟨rb, 4, none⟩ V) ∧ ∀ k, w'.cell? ⟨rb, k, none⟩ = w.cell? ⟨rb, k, none⟩ := by
  have hb0 := (Below.refl w.heap.size w).alloc (Nat.le_refl _) o
  have ha := h.below ((Below.refl w.heap.size w).alloc (Nat.le_refl _) o)
  have hbx : w'.heap[rb]? = _ := (h2.block rb ha.lt (fun e => own_boxG ha.words ha.box (by decide) rb e.symm rfl)).trans ha.box
  have hBw : Below B w w' := ((Below.refl B w).alloc h.hBw o).grown h2 ha.hBw (fun q hq => (ha.words.lt q hq).1)
  have hop : OpsAt w' ob 49 := by
    have h3 := ha.ops
    unfold OpsAt at h3 ⊢
    refine h3.kept h2 (fun e => ?_)
    obtain ⟨_, cs, h4⟩ := own_ltG ha.words e.symm
    obtain ⟨es, clock, hb, _⟩ := h3
    rw [h4] at hb
    injection hb with hb
    cases hb
  refine ⟨by simp [World.frozen?, hbx], ⟨by rw [heap_setCell_same w' rb 4 _ _ _ hbx, hc], ?_, ?_, ?_, h.hB, h.h8, h.laid.belowB h.h8 (hBw.setCell (p := ⟨rb, 4, none⟩) h.hB V), (ha.it.grown ha.words h2).set hbx⟩, hBw.setCell (p := ⟨rb, 4, none⟩) h.hB V, fun k => (h2.cell_far ⟨rb, k, none⟩ ha.lt (fun e => own_boxG ha.words ha.box (by decide) rb e.symm rfl)).trans (cell_below hb0 h.lt _)⟩
  · rw [hw, List.length_append, List.map_append]
    exact own_keepG h1 (fun q hq => set_otherL (own_boxG h1 hbx (by decide) q hq))
  · rw [hl]
    exact (ha.lines.grown ha.words h2).set hbx
  · unfold OpsAt at hop ⊢
    exact hop.setCell (fun e => by
      obtain ⟨es, clock, hb, _⟩ := hop
      rw [e] at hb
      rw [hbx] at hb
      injection hb with hb
      cases hb) V
omit [ItP] in
theorem wdV_cells (x : Option Wd) : (wdV x).cells = #[wdV x] := by
  rcases x with _ | (_ | _ | _ | _ | _) <;> rfl
set_option maxHeartbeats 16000000 in
set_option maxRecDepth 100000 in
theorem endWord_none (B rb ob at_ : Nat) (s : List UInt8) (r : Rd) (vw vl : Value) (w : World) (h : RdR B rb ob s (-1) r vw vl w) (hc : r.cur = none) :
    Calls Tryz.prog 99 #[.pointer (some ⟨rb, 0, none⟩), .int .i64 (at_ : Int)] w (RdPost B rb ob s (-1) (endW r) w) := by
  have H := Lib.hid h
  have HE : Hid (endW r = r) := Lib.hid (by unfold endW; rw [hc])
  obtain ⟨⟨y0, y1, y2, y3, y4, y5, y6, y7, y8⟩, _⟩ := h.cells
  have hlt := h.lt
  clear h hc
  go_enter Tryz.func99, Tryz.ntmps99
  go_wp2
  go_end0
  rw [HE.out]
  exact ⟨rfl, _, _, H.out, Below.refl _ _⟩
set_option maxHeartbeats 16000000 in
set_option maxRecDepth 100000 in
theorem endWord_many (B rb ob at_ b : Nat) (s : List UInt8) (r : Rd) (vw vl : Value) (w : World) (h : RdR B rb ob s (b : Int) r vw vl w) (ws : List UInt8) (hc : r.cur = some ws) (hm : ¬ r.words.length ≤ 402) (hm9 : r.words.length ≤ 403) :
    Calls Tryz.prog 99 #[.pointer (some ⟨rb, 0, none⟩), .int .i64 (at_ : Int)] w (RdPost B rb ob s (-1) (endW r) w) := by
  have HE : Hid (endW r = { r with cur := none }) := Lib.hid (by unfold endW; rw [hc]; simp only; rw [if_neg hm])
  have HQ := Lib.hid (h.set (bg' := -1) (r' := { r with cur := none }) 2 (.int .i64 (-1)) rfl rfl rfl)
  have hB := h.hB
  obtain ⟨pw, cw, rfl⟩ := own_sl h.words
  obtain ⟨⟨y0, y1, y2, y3, y4, y5, y6, y7, y8⟩, fz⟩ := h.cells
  have hlt := h.lt
  obtain ⟨m, hmm⟩ : ∃ m, m = r.words.length := ⟨_, rfl⟩
  rw [← hmm] at y4 HQ hm hm9
  have m1 : ¬ ((m : Int) ≤ 402) := by omega
  have b1 : ((b : Int) == -1) = false := by simp
  have b2 : ¬ ((b : Int) = -1) := by omega
  have f2 := fz 2
  clear h hc hm hm9 hmm fz
  go_enter Tryz.func99, Tryz.ntmps99
  go_wp2
  go_end0
  rw [HE.out]
  exact ⟨rfl, _, _, HQ.out, (Below.refl B w).setCell (p := ⟨rb, 2, none⟩) hB _⟩
set_option maxHeartbeats 16000000 in
set_option maxRecDepth 100000 in
theorem endWord_none_ (B rb ob at_ b : Nat) (s : List UInt8) (r : Rd) (vw vl : Value) (w : World) (h : RdR B rb ob s (b : Int) r vw vl w) (hba : b < at_) (has : at_ ≤ s.length) (hs : s.length ≤ 281474976710656) (ws : List UInt8) (hws : ws = (s.take at_).drop b) (hwp : wordP ws = none) (hc : r.cur = some ws) (hm : r.words.length ≤ 402) :
    Calls Tryz.prog 99 #[.pointer (some ⟨rb, 0, none⟩), .int .i64 (at_ : Int)] w (RdPost B rb ob s (-1) (endW r) w) := by
  have HE : Hid (endW r = { r with cur := none, words := r.words ++ [none] }) := Lib.hid (by unfold endW; rw [hc]; simp only; rw [if_pos hm, hwp])
  have HW := Lib.hid (wordOf_any ws (by rw [hws, List.length_drop, List.length_take]; omega) ob (World.drew w) (h.below (bdrewL w)).laid (h.below (bdrewL w)).ops)
  rw [hwp] at HW
  have HX : Hid ((⟨s.toArray⟩ : ByteArray).extract b at_ = ⟨ws.toArray⟩) := Lib.hid (by rw [ext_cut, hws])
  unfold WordPost wdV at HW
  have H := Lib.hid h
  have hB := h.hB
  obtain ⟨pw, cw, rfl⟩ := own_sl h.words
  obtain ⟨⟨y0, y1, y2, y3, y4, y5, y6, y7, y8⟩, fz⟩ := h.cells
  have hlt := h.lt
  obtain ⟨m, hmm⟩ : ∃ m, m = r.words.length := ⟨_, rfl⟩
  have HM := Lib.hid hmm
  rw [← hmm] at y4 hm
  have HOW : Hid (w.ownsRow B 20 1 (.slice pw m cw) m (r.words.map wdV)) := Lib.hid (by rw [hmm]; exact h.words)
  have m1 : (m : Int) ≤ 402 := by omega
  have m0 : (0 : Int) ≤ m := by omega
  have b0 : (0 : Int) ≤ b := by omega
  have b1 : ((b : Int) == -1) = false := by simp
  have b2 : ¬ ((b : Int) = -1) := by omega
  have a1 : (b : Int) ≤ at_ := by omega
  have hsz : (⟨s.toArray⟩ : ByteArray).size = s.length := by show s.toArray.size = _; simp
  have a2 : (at_ : Int) ≤ ((⟨s.toArray⟩ : ByteArray).size : Int) := by rw [hsz]; omega
  have a3 : (at_ : Int) ≤ (s.length : Int) := by omega
  have HML := Lib.hid hm
  have HPU : Hid (∀ w6, RdR B rb ob s (b : Int) r (.slice pw r.words.length cw) vl w6 → ∀ g7 c7 w7, w7.ownsRow B 20 1 (.slice (some ⟨g7, 0, none⟩) (m + 1) c7) (m + 1) (r.words.map wdV ++ [wdV none]) → (w6.alloc (.cells #[.nilIface] 20)).grownBy w7 (Value.slice pw m cw).ownBlock → w7.frozen? ⟨rb, 4, none⟩ = false ∧ RdR B rb ob s (b : Int) { r with cur := none, words := r.words ++ [none] } (.slice (some ⟨g7, 0, none⟩) (m + 1) c7) vl (w7.setCell ⟨rb, 4, none⟩ (.slice (some ⟨g7, 0, none⟩) (m + 1) c7)) ∧ Below B w6 (w7.setCell ⟨rb, 4, none⟩ (.slice (some ⟨g7, 0, none⟩) (m + 1) c7)) ∧ ∀ k, w7.cell? ⟨rb, k, none⟩ = w6.cell? ⟨rb, k, none⟩) := Lib.hid (by
    intro w6 h6 g7 c7 w7 h1 h2
    exact h6.pushed (.cells #[.nilIface] 20) none (by rw [← hmm]; exact h1) (by rw [← hmm]; exact h2) rfl rfl rfl)
  clear h hc hm hmm fz hws hsz hwp
  go_enter Tryz.func99, Tryz.ntmps99
  go_upto_region 2 with (fail)
  go_cut [] from 15 to 41 (fun wq => Hid (∃ vw, RdR B rb ob s (b : Int) { r with cur := none, words := r.words ++ [none] } vw vl wq ∧ Below B w wq))
  case first =>
    refine wp_region_held_drew (S := (fun W => W.cell? ⟨rb, 0, none⟩ = some (.string ⟨s.toArray⟩) ∧ W.cell? ⟨rb, 1, none⟩ = some (.map (some ob)) ∧ W.cell? ⟨rb, 2, none⟩ = some (.int .i64 (b : Int)))) (by kernel_rfl) ⟨y0, y1, y2⟩ (fun hHeld => ?_)
    refine wpAnyH_take (i := 0) (v := .pointer (some ⟨rb, 0, none⟩)) rfl (by kernel_rfl) (by kernel_rfl) (by kernel_rfl) (fun _ _ _ h => h) (Or.inl ⟨by kernel_rfl, (fun w hSw => by (try dsimp only at hSw); obtain ⟨q0, q1, q2⟩ := hSw; (first | (go_simp; done) | (go_simp; with_reducible rfl)))⟩) (by assumption) ?_
    refine wpAnyH_take (i := 1) (v := .pointer (some ⟨rb, 0, none⟩)) rfl (by kernel_rfl) (by kernel_rfl) (by kernel_rfl) (fun _ _ _ h => h) (Or.inl ⟨by kernel_rfl, (fun w hSw => by (try dsimp only at hSw); obtain ⟨q0, q1, q2⟩ := hSw; (first | (go_simp; done) | (go_simp; with_reducible rfl)))⟩) (by assumption) ?_
    refine wpAnyH_take (i := 2) (v := .pointer (some ⟨rb, 0, none⟩)) rfl (by kernel_rfl) (by kernel_rfl) (by kernel_rfl) (fun _ _ _ h => h) (Or.inl ⟨by kernel_rfl, (fun w hSw => by (try dsimp only at hSw); obtain ⟨q0, q1, q2⟩ := hSw; (first | (go_simp; done) | (go_simp; with_reducible rfl)))⟩) (by assumption) ?_
    refine wpAnyH_take (i := 3) (v := .pointer (some ⟨rb, 4, none⟩)) rfl (by kernel_rfl) (by kernel_rfl) (by kernel_rfl) (fun _ _ _ h => h) (Or.inl ⟨by kernel_rfl, (fun w hSw => by (try dsimp only at hSw); obtain ⟨q0, q1, q2⟩ := hSw; (first | (go_simp; done) | (go_simp; with_reducible rfl)))⟩) (by assumption) ?_
    refine wpAnyH_take (i := 5) (v := .pointer (some ⟨rb, 0, none⟩)) rfl (by kernel_rfl) (by kernel_rfl) (by kernel_rfl) (fun _ _ _ h => h) (Or.inl ⟨by kernel_rfl, (fun w hSw => by (try dsimp only at hSw); obtain ⟨q0, q1, q2⟩ := hSw; (first | (go_simp; done) | (go_simp; with_reducible rfl)))⟩) (by assumption) ?_
    refine wpAnyH_take (i := 6) (v := .pointer (some ⟨rb, 0, none⟩)) rfl (by kernel_rfl) (by kernel_rfl) (by kernel_rfl) (fun _ _ _ h => h) (Or.inl ⟨by kernel_rfl, (fun w hSw => by (try dsimp only at hSw); obtain ⟨q0, q1, q2⟩ := hSw; (first | (go_simp; done) | (go_simp; with_reducible rfl)))⟩) (by assumption) ?_
    refine wpAnyH_take (i := 7) (v := .pointer (some ⟨rb, 0, none⟩)) rfl (by kernel_rfl) (by kernel_rfl) (by kernel_rfl) (fun _ _ _ h => h) (Or.inl ⟨by kernel_rfl, (fun w hSw => by (try dsimp only at hSw); obtain ⟨q0, q1, q2⟩ := hSw; (first | (go_simp; done) | (go_simp; with_reducible rfl)))⟩) (by assumption) ?_
    refine wpAnyH_take (i := 8) (v := .string ⟨s.toArray⟩) rfl (by kernel_rfl) (by kernel_rfl) (by kernel_rfl) (fun _ _ _ h => h) (Or.inl ⟨by kernel_rfl, (fun w hSw => by (try dsimp only at hSw); obtain ⟨q0, q1, q2⟩ := hSw; (first | (go_simp; done) | (go_simp; with_reducible rfl)))⟩) (by assumption) ?_
    refine wpAnyH_take (i := 9) (v := .pointer (some ⟨rb, 0, none⟩)) rfl (by kernel_rfl) (by kernel_rfl) (by kernel_rfl) (fun _ _ _ h => h) (Or.inl ⟨by kernel_rfl, (fun w hSw => by (try dsimp only at hSw); obtain ⟨q0, q1, q2⟩ := hSw; (first | (go_simp; done) | (go_simp; with_reducible rfl)))⟩) (by assumption) ?_
    refine wpAnyH_take (i := 10) (v := .pointer (some ⟨rb, 0, none⟩)) rfl (by kernel_rfl) (by kernel_rfl) (by kernel_rfl) (fun _ _ _ h => h) (Or.inl ⟨by kernel_rfl, (fun w hSw => by (try dsimp only at hSw); obtain ⟨q0, q1, q2⟩ := hSw; (first | (go_simp; done) | (go_simp; with_reducible rfl)))⟩) (by assumption) ?_
    refine wpAnyH_take (i := 11) (v := .pointer (some ⟨rb, 2, none⟩)) rfl (by kernel_rfl) (by kernel_rfl) (by kernel_rfl) (fun _ _ _ h => h) (Or.inl ⟨by kernel_rfl, (fun w hSw => by (try dsimp only at hSw); obtain ⟨q0, q1, q2⟩ := hSw; (first | (go_simp; done) | (go_simp; with_reducible rfl)))⟩) (by assumption) ?_
    refine wpAnyH_take (i := 12) (v := .int .i64 (b : Int)) rfl (by kernel_rfl) (by kernel_rfl) (by kernel_rfl) (fun _ _ _ h => h) (Or.inl ⟨by kernel_rfl, (fun w hSw => by (try dsimp only at hSw); obtain ⟨q0, q1, q2⟩ := hSw; (first | (go_simp; done) | (go_simp; with_reducible rfl)))⟩) (by assumption) ?_
    refine wpAnyH_take (i := 13) (v := .int .i64 (at_ : Int)) rfl (by kernel_rfl) (by kernel_rfl) (by kernel_rfl) (fun _ _ _ h => h) (Or.inl ⟨by kernel_rfl, (fun w hSw => by (try dsimp only at hSw); obtain ⟨q0, q1, q2⟩ := hSw; (first | (go_simp; done) | (go_simp; with_reducible rfl)))⟩) (by assumption) ?_
    refine wpAnyH_take (i := 14) (v := .string ⟨ws.toArray⟩) rfl (by kernel_rfl) (by kernel_rfl) (by kernel_rfl) (fun _ _ _ h => h) (Or.inl ⟨by kernel_rfl, (fun w hSw => by go_simp; rw [HX.out])⟩) (by assumption) ?_
    refine wpAnyH_take (i := 15) (v := .pointer (some ⟨rb, 0, none⟩)) rfl (by kernel_rfl) (by kernel_rfl) (by kernel_rfl) (fun _ _ _ h => h) (Or.inl ⟨by kernel_rfl, (fun w hSw => by (try dsimp only at hSw); obtain ⟨q0, q1, q2⟩ := hSw; (first | (go_simp; done) | (go_simp; with_reducible rfl)))⟩) (by assumption) ?_
    refine wpAnyH_take (i := 16) (v := .pointer (some ⟨rb, 0, none⟩)) rfl (by kernel_rfl) (by kernel_rfl) (by kernel_rfl) (fun _ _ _ h => h) (Or.inl ⟨by kernel_rfl, (fun w hSw => by (try dsimp only at hSw); obtain ⟨q0, q1, q2⟩ := hSw; (first | (go_simp; done) | (go_simp; with_reducible rfl)))⟩) (by assumption) ?_
    refine wpAnyH_take (i := 17) (v := .pointer (some ⟨rb, 1, none⟩)) rfl (by kernel_rfl) (by kernel_rfl) (by kernel_rfl) (fun _ _ _ h => h) (Or.inl ⟨by kernel_rfl, (fun w hSw => by (try dsimp only at hSw); obtain ⟨q0, q1, q2⟩ := hSw; (first | (go_simp; done) | (go_simp; with_reducible rfl)))⟩) (by assumption) ?_
    refine wpAnyH_take (i := 18) (v := .map (some ob)) rfl (by kernel_rfl) (by kernel_rfl) (by kernel_rfl) (fun _ _ _ h => h) (Or.inl ⟨by kernel_rfl, (fun w hSw => by (try dsimp only at hSw); obtain ⟨q0, q1, q2⟩ := hSw; (first | (go_simp; done) | (go_simp; with_reducible rfl)))⟩) (by assumption) ?_
    refine wpAnyH_ready (rs := [4, 19]) (by kernel_rfl) (by simp) ?_
    refine AllReadyH.cons rfl (fun K hK => ?_) (AllReadyH.cons rfl (fun K hK => ?_) AllReadyH.nil)
    · rw [if_pos (by kernel_rfl)]
      go_simp
      refine hK.out _ _ (by assumption) (fun hHeld => ?_)
      clear hK
      refine wpAnyH_ready (rs := [19]) (by kernel_rfl) (by simp) ?_
      refine AllReadyH.cons rfl (fun K hK => ?_) AllReadyH.nil
      rw [if_pos (by kernel_rfl)]
      go_simp
      refine HW.out.mono ?_
      rintro e w6 ⟨rfl, hb6⟩
      have H6 := Lib.hid (H.out.below (bt (bdrewL w) hb6))
      have HB6 : Hid (Below B w w6) := Lib.hid ((bt (bdrewL w) hb6).mono H.out.hBw)
      have HO6 := Lib.hid (row_below HOW.out (bt (bdrewL w) hb6))
      have hl6 := H6.out.lt
      clear y0 y1 y2 y3 y4 y5 y6 y7 y8 hHeld
      obtain ⟨⟨y0, y1, y2, y3, y4', y5, y6, y7, y8⟩, fz⟩ := H6.out.cells
      have y4 : w6.cell? ⟨rb, 4, none⟩ = some (.slice pw m cw) := by rw [HM.out]; exact y4'
      clear hb6 y4' fz
      refine hK.out _ _ ⟨y0, y1, y2⟩ (fun hHeld => ?_)
      clear hK
      refine wpAnyH_ready (rs := [20]) (by kernel_rfl) (by simp) ?_
      refine AllReadyH.cons rfl (fun K hK => ?_) AllReadyH.nil
      rw [if_pos (by kernel_rfl)]
      go_simp
      refine hK.out _ _ ?_ (fun hHeld => ?_)
      · exact ⟨(World.cell?_alloc_lt _ _ _ hl6).trans y0, (World.cell?_alloc_lt _ _ _ hl6).trans y1, (World.cell?_alloc_lt _ _ _ hl6).trans y2⟩
      clear hK
      refine wpAnyH_ready (rs := [21]) (by kernel_rfl) (by simp) ?_
      refine AllReadyH.cons rfl (fun K hK => ?_) AllReadyH.nil
      refine step_pushG (by rfl) _ _ (by rfl) B _ m _ (by rfl) (row_below HO6.out (below_one w6 _)) none _ (heap_alloc_new w6 _) (by rfl) (by have := HML.out; omega) (by have := H6.out.hBw; simp; omega) ?_
      intro g7 c7 w7 h1 h2
      have h7 := HPU.out w6 H6.out g7 c7 w7 h1 h2
      have hf7 := h7.1
      have H7 := Lib.hid h7.2.1
      have HB7 := Lib.hid (HB6.out.trans h7.2.2.1)
      have z0 := (h7.2.2.2 0).trans y0
      have z1 := (h7.2.2.2 1).trans y1
      have z2 := (h7.2.2.2 2).trans y2
      have z4 := (h7.2.2.2 4).trans y4
      clear h1 h2 h7 hHeld
      refine hK.out _ _ ⟨z0, z1, z2⟩ (fun hHeld => ?_)
      clear hK
      refine wpAnyH_take (i := 22) (v := .pointer (some ⟨rb, 0, none⟩)) rfl (by kernel_rfl) (by kernel_rfl) (by kernel_rfl) (fun _ _ _ h => h) (Or.inl ⟨by kernel_rfl, (fun w hSw => by (try dsimp only at hSw); obtain ⟨q0, q1, q2⟩ := hSw; (first | (go_simp; done) | (go_simp; with_reducible rfl)))⟩) (by assumption) ?_
      refine wpAnyH_take (i := 23) (v := .pointer (some ⟨rb, 4, none⟩)) rfl (by kernel_rfl) (by kernel_rfl) (by kernel_rfl) (fun _ _ _ h => h) (Or.inl ⟨by kernel_rfl, (fun w hSw => by (try dsimp only at hSw); obtain ⟨q0, q1, q2⟩ := hSw; (first | (go_simp; done) | (go_simp; with_reducible rfl)))⟩) (by assumption) ?_
      refine wpAnyH_ready (rs := [24]) (by kernel_rfl) (by simp) ?_
      refine AllReadyH.cons rfl (fun K hK => ?_) AllReadyH.nil
      rw [if_pos (by kernel_rfl)]
      go_simp
      refine hK.out _ _ ?_ (fun hHeld => ?_)
      · obtain ⟨⟨q0, q1, q2, _⟩, _⟩ := H7.out.cells
        exact ⟨q0, q1, q2⟩
      clear hK
      refine wpAnyH_done (by kernel_rfl) ?_ _
      go_simp
      go_wp2
      go_meet
      exact Lib.hid ⟨_, H7.out, HB7.out⟩
    · rw [if_pos (by kernel_rfl)]
      go_simp
      refine HW.out.mono ?_
      rintro e w6 ⟨rfl, hb6⟩
      have H6 := Lib.hid (H.out.below (bt (bdrewL w) hb6))
      have HB6 : Hid (Below B w w6) := Lib.hid ((bt (bdrewL w) hb6).mono H.out.hBw)
      have HO6 := Lib.hid (row_below HOW.out (bt (bdrewL w) hb6))
      have hl6 := H6.out.lt
      clear y0 y1 y2 y3 y4 y5 y6 y7 y8 hHeld
      obtain ⟨⟨y0, y1, y2, y3, y4', y5, y6, y7, y8⟩, fz⟩ := H6.out.cells
      have y4 : w6.cell? ⟨rb, 4, none⟩ = some (.slice pw m cw) := by rw [HM.out]; exact y4'
      clear hb6 y4' fz
      refine hK.out _ _ ⟨y0, y1, y2⟩ (fun hHeld => ?_)
      clear hK
      refine wpAnyH_ready (rs := [4, 20]) (by kernel_rfl) (by simp) ?_
      refine AllReadyH.cons rfl (fun K hK => ?_) (AllReadyH.cons rfl (fun K hK => ?_) AllReadyH.nil)
      · rw [if_pos (by kernel_rfl)]
        go_simp
        refine hK.out _ _ (by assumption) (fun hHeld => ?_)
        clear hK
        refine wpAnyH_ready (rs := [20]) (by kernel_rfl) (by simp) ?_
        refine AllReadyH.cons rfl (fun K hK => ?_) AllReadyH.nil
        rw [if_pos (by kernel_rfl)]
        go_simp
        refine hK.out _ _ ?_ (fun hHeld => ?_)
        · exact ⟨(World.cell?_alloc_lt _ _ _ hl6).trans y0, (World.cell?_alloc_lt _ _ _ hl6).trans y1, (World.cell?_alloc_lt _ _ _ hl6).trans y2⟩
        clear hK
        refine wpAnyH_ready (rs := [21]) (by kernel_rfl) (by simp) ?_
        refine AllReadyH.cons rfl (fun K hK => ?_) AllReadyH.nil
        refine step_pushG (by rfl) _ _ (by rfl) B _ m _ (by rfl) (row_below HO6.out (below_one w6 _)) none _ (heap_alloc_new w6 _) (by rfl) (by have := HML.out; omega) (by have := H6.out.hBw; simp; omega) ?_
        intro g7 c7 w7 h1 h2
        have h7 := HPU.out w6 H6.out g7 c7 w7 h1 h2
        have hf7 := h7.1
        have H7 := Lib.hid h7.2.1
        have HB7 := Lib.hid (HB6.out.trans h7.2.2.1)
        have z0 := (h7.2.2.2 0).trans y0
        have z1 := (h7.2.2.2 1).trans y1
        have z2 := (h7.2.2.2 2).trans y2
        have z4 := (h7.2.2.2 4).trans y4
        clear h1 h2 h7 hHeld
        refine hK.out _ _ ⟨z0, z1, z2⟩ (fun hHeld => ?_)
        clear hK
        refine wpAnyH_take (i := 22) (v := .pointer (some ⟨rb, 0, none⟩)) rfl (by kernel_rfl) (by kernel_rfl) (by kernel_rfl) (fun _ _ _ h => h) (Or.inl ⟨by kernel_rfl, (fun w hSw => by (try dsimp only at hSw); obtain ⟨q0, q1, q2⟩ := hSw; (first | (go_simp; done) | (go_simp; with_reducible rfl)))⟩) (by assumption) ?_
        refine wpAnyH_take (i := 23) (v := .pointer (some ⟨rb, 4, none⟩)) rfl (by kernel_rfl) (by kernel_rfl) (by kernel_rfl) (fun _ _ _ h => h) (Or.inl ⟨by kernel_rfl, (fun w hSw => by (try dsimp only at hSw); obtain ⟨q0, q1, q2⟩ := hSw; (first | (go_simp; done) | (go_simp; with_reducible rfl)))⟩) (by assumption) ?_
        refine wpAnyH_ready (rs := [24]) (by kernel_rfl) (by simp) ?_
        refine AllReadyH.cons rfl (fun K hK => ?_) AllReadyH.nil
        rw [if_pos (by kernel_rfl)]
        go_simp
        refine hK.out _ _ ?_ (fun hHeld => ?_)
        · obtain ⟨⟨q0, q1, q2, _⟩, _⟩ := H7.out.cells
          exact ⟨q0, q1, q2⟩
        clear hK
        refine wpAnyH_done (by kernel_rfl) ?_ _
        go_simp
        go_wp2
        go_meet
        exact Lib.hid ⟨_, H7.out, HB7.out⟩
      · rw [if_pos (by kernel_rfl)]
        go_simp
        refine hK.out _ _ ?_ (fun hHeld => ?_)
        · exact ⟨(World.cell?_alloc_lt _ _ _ hl6).trans y0, (World.cell?_alloc_lt _ _ _ hl6).trans y1, (World.cell?_alloc_lt _ _ _ hl6).trans y2⟩
        clear hK
        refine wpAnyH_ready (rs := [4]) (by kernel_rfl) (by simp) ?_
        refine AllReadyH.cons rfl (fun K hK => ?_) AllReadyH.nil
        rw [if_pos (by kernel_rfl)]
        have yy : (w6.alloc (.cells #[.nilIface] 20)).cell? ⟨rb, 4, none⟩ = _ := (World.cell?_alloc_lt _ _ _ hl6).trans y4
        go_simp
        refine hK.out _ _ (by assumption) (fun hHeld => ?_)
        clear hK yy
        refine wpAnyH_ready (rs := [21]) (by kernel_rfl) (by simp) ?_
        refine AllReadyH.cons rfl (fun K hK => ?_) AllReadyH.nil
        refine step_pushG (by rfl) _ _ (by rfl) B _ m _ (by rfl) (row_below HO6.out (below_one w6 _)) none _ (heap_alloc_new w6 _) (by rfl) (by have := HML.out; omega) (by have := H6.out.hBw; simp; omega) ?_
        intro g7 c7 w7 h1 h2
        have h7 := HPU.out w6 H6.out g7 c7 w7 h1 h2
        have hf7 := h7.1
        have H7 := Lib.hid h7.2.1
        have HB7 := Lib.hid (HB6.out.trans h7.2.2.1)
        have z0 := (h7.2.2.2 0).trans y0
        have z1 := (h7.2.2.2 1).trans y1
        have z2 := (h7.2.2.2 2).trans y2
        have z4 := (h7.2.2.2 4).trans y4
        clear h1 h2 h7 hHeld
        refine hK.out _ _ ⟨z0, z1, z2⟩ (fun hHeld => ?_)
        clear hK
        refine wpAnyH_take (i := 22) (v := .pointer (some ⟨rb, 0, none⟩)) rfl (by kernel_rfl) (by kernel_rfl) (by kernel_rfl) (fun _ _ _ h => h) (Or.inl ⟨by kernel_rfl, (fun w hSw => by (try dsimp only at hSw); obtain ⟨q0, q1, q2⟩ := hSw; (first | (go_simp; done) | (go_simp; with_reducible rfl)))⟩) (by assumption) ?_
        refine wpAnyH_take (i := 23) (v := .pointer (some ⟨rb, 4, none⟩)) rfl (by kernel_rfl) (by kernel_rfl) (by kernel_rfl) (fun _ _ _ h => h) (Or.inl ⟨by kernel_rfl, (fun w hSw => by (try dsimp only at hSw); obtain ⟨q0, q1, q2⟩ := hSw; (first | (go_simp; done) | (go_simp; with_reducible rfl)))⟩) (by assumption) ?_
        refine wpAnyH_ready (rs := [24]) (by kernel_rfl) (by simp) ?_
        refine AllReadyH.cons rfl (fun K hK => ?_) AllReadyH.nil
        rw [if_pos (by kernel_rfl)]
        go_simp
        refine hK.out _ _ ?_ (fun hHeld => ?_)
        · obtain ⟨⟨q0, q1, q2, _⟩, _⟩ := H7.out.cells
          exact ⟨q0, q1, q2⟩
        clear hK
        refine wpAnyH_done (by kernel_rfl) ?_ _
        go_simp
        go_wp2
        go_meet
        exact Lib.hid ⟨_, H7.out, HB7.out⟩
  case rest =>
    rename_i K hK
    refine hK _ _ ?_
    clear hK K
    obtain ⟨vq, hI⟩ := hcut.out
    clear hcut
    have HQ := Lib.hid (hI.1.set (bg' := -1) (r' := { r with cur := none, words := r.words ++ [none] }) 2 (.int .i64 (-1)) rfl rfl rfl)
    have HBQ := Lib.hid hI.2
    clear y0 y1 y2 y3 y4 y5 y6 y7 y8
    obtain ⟨⟨y0, y1, y2, y3, y4, y5, y6, y7, y8⟩, fz⟩ := hI.1.cells
    have f2 := fz 2
    have hlt := hI.1.lt
    clear fz hI
    go_wp2
    go_end0
    rw [HE.out]
    exact ⟨rfl, _, _, HQ.out, HBQ.out.setCell (p := ⟨rb, 2, none⟩) hB _⟩
set_option maxHeartbeats 16000000 in
set_option maxRecDepth 100000 in
theorem endWord_name_ (B rb ob at_ b : Nat) (s : List UInt8) (r : Rd) (vw vl : Value) (w : World) (h : RdR B rb ob s (b : Int) r vw vl w) (hba : b < at_) (has : at_ ≤ s.length) (hs : s.length ≤ 281474976710656) (ws : List UInt8) (hws : ws = (s.take at_).drop b) (n : Int) (hwp : wordP ws = (some (.name n))) (hc : r.cur = some ws) (hm : r.words.length ≤ 402) :
    Calls Tryz.prog 99 #[.pointer (some ⟨rb, 0, none⟩), .int .i64 (at_ : Int)] w (RdPost B rb ob s (-1) (endW r) w) := by
  have HE : Hid (endW r = { r with cur := none, words := r.words ++ [(some (.name n))] }) := Lib.hid (by unfold endW; rw [hc]; simp only; rw [if_pos hm, hwp])
  have HW := Lib.hid (wordOf_any ws (by rw [hws, List.length_drop, List.length_take]; omega) ob (World.drew w) (h.below (bdrewL w)).laid (h.below (bdrewL w)).ops)
  rw [hwp] at HW
  have HX : Hid ((⟨s.toArray⟩ : ByteArray).extract b at_ = ⟨ws.toArray⟩) := Lib.hid (by rw [ext_cut, hws])
  unfold WordPost wdV at HW
  have H := Lib.hid h
  have hB := h.hB
  obtain ⟨pw, cw, rfl⟩ := own_sl h.words
  obtain ⟨⟨y0, y1, y2, y3, y4, y5, y6, y7, y8⟩, fz⟩ := h.cells
  have hlt := h.lt
  obtain ⟨m, hmm⟩ : ∃ m, m = r.words.length := ⟨_, rfl⟩
  have HM := Lib.hid hmm
  rw [← hmm] at y4 hm
  have HOW : Hid (w.ownsRow B 20 1 (.slice pw m cw) m (r.words.map wdV)) := Lib.hid (by rw [hmm]; exact h.words)
  have m1 : (m : Int) ≤ 402 := by omega
  have m0 : (0 : Int) ≤ m := by omega
  have b0 : (0 : Int) ≤ b := by omega
  have b1 : ((b : Int) == -1) = false := by simp
  have b2 : ¬ ((b : Int) = -1) := by omega
  have a1 : (b : Int) ≤ at_ := by omega
  have hsz : (⟨s.toArray⟩ : ByteArray).size = s.length := by show s.toArray.size = _; simp
  have a2 : (at_ : Int) ≤ ((⟨s.toArray⟩ : ByteArray).size : Int) := by rw [hsz]; omega
  have a3 : (at_ : Int) ≤ (s.length : Int) := by omega
  have HML := Lib.hid hm
  have HPU : Hid (∀ w6, RdR B rb ob s (b : Int) r (.slice pw r.words.length cw) vl w6 → ∀ g7 c7 w7, w7.ownsRow B 20 1 (.slice (some ⟨g7, 0, none⟩) (m + 1) c7) (m + 1) (r.words.map wdV ++ [wdV (some (.name n))]) → (w6.alloc (.cells #[.iface 131 (.int .i64 n)] 20)).grownBy w7 (Value.slice pw m cw).ownBlock → w7.frozen? ⟨rb, 4, none⟩ = false ∧ RdR B rb ob s (b : Int) { r with cur := none, words := r.words ++ [(some (.name n))] } (.slice (some ⟨g7, 0, none⟩) (m + 1) c7) vl (w7.setCell ⟨rb, 4, none⟩ (.slice (some ⟨g7, 0, none⟩) (m + 1) c7)) ∧ Below B w6 (w7.setCell ⟨rb, 4, none⟩ (.slice (some ⟨g7, 0, none⟩) (m + 1) c7)) ∧ ∀ k, w7.cell? ⟨rb, k, none⟩ = w6.cell? ⟨rb, k, none⟩) := Lib.hid (by
    intro w6 h6 g7 c7 w7 h1 h2
    exact h6.pushed (.cells #[.iface 131 (.int .i64 n)] 20) (some (.name n)) (by rw [← hmm]; exact h1) (by rw [← hmm]; exact h2) rfl rfl rfl)
  clear h hc hm hmm fz hws hsz hwp
  go_enter Tryz.func99, Tryz.ntmps99
  go_upto_region 2 with (fail)
  go_cut [] from 15 to 41 (fun wq => Hid (∃ vw, RdR B rb ob s (b : Int) { r with cur := none, words := r.words ++ [(some (.name n))] } vw vl wq ∧ Below B w wq))
  case first =>
    refine wp_region_held_drew (S := (fun W => W.cell? ⟨rb, 0, none⟩ = some (.string ⟨s.toArray⟩) ∧ W.cell? ⟨rb, 1, none⟩ = some (.map (some ob)) ∧ W.cell? ⟨rb, 2, none⟩ = some (.int .i64 (b : Int)))) (by kernel_rfl) ⟨y0, y1, y2⟩ (fun hHeld => ?_)
    refine wpAnyH_take (i := 0) (v := .pointer (some ⟨rb, 0, none⟩)) rfl (by kernel_rfl) (by kernel_rfl) (by kernel_rfl) (fun _ _ _ h => h) (Or.inl ⟨by kernel_rfl, (fun w hSw => by (try dsimp only at hSw); obtain ⟨q0, q1, q2⟩ := hSw; (first | (go_simp; done) | (go_simp; with_reducible rfl)))⟩) (by assumption) ?_
    refine wpAnyH_take (i := 1) (v := .pointer (some ⟨rb, 0, none⟩)) rfl (by kernel_rfl) (by kernel_rfl) (by kernel_rfl) (fun _ _ _ h => h) (Or.inl ⟨by kernel_rfl, (fun w hSw => by (try dsimp only at hSw); obtain ⟨q0, q1, q2⟩ := hSw; (first | (go_simp; done) | (go_simp; with_reducible rfl)))⟩) (by assumption) ?_
    refine wpAnyH_take (i := 2) (v := .pointer (some ⟨rb, 0, none⟩)) rfl (by kernel_rfl) (by kernel_rfl) (by kernel_rfl) (fun _ _ _ h => h) (Or.inl ⟨by kernel_rfl, (fun w hSw => by (try dsimp only at hSw); obtain ⟨q0, q1, q2⟩ := hSw; (first | (go_simp; done) | (go_simp; with_reducible rfl)))⟩) (by assumption) ?_
    refine wpAnyH_take (i := 3) (v := .pointer (some ⟨rb, 4, none⟩)) rfl (by kernel_rfl) (by kernel_rfl) (by kernel_rfl) (fun _ _ _ h => h) (Or.inl ⟨by kernel_rfl, (fun w hSw => by (try dsimp only at hSw); obtain ⟨q0, q1, q2⟩ := hSw; (first | (go_simp; done) | (go_simp; with_reducible rfl)))⟩) (by assumption) ?_
    refine wpAnyH_take (i := 5) (v := .pointer (some ⟨rb, 0, none⟩)) rfl (by kernel_rfl) (by kernel_rfl) (by kernel_rfl) (fun _ _ _ h => h) (Or.inl ⟨by kernel_rfl, (fun w hSw => by (try dsimp only at hSw); obtain ⟨q0, q1, q2⟩ := hSw; (first | (go_simp; done) | (go_simp; with_reducible rfl)))⟩) (by assumption) ?_
    refine wpAnyH_take (i := 6) (v := .pointer (some ⟨rb, 0, none⟩)) rfl (by kernel_rfl) (by kernel_rfl) (by kernel_rfl) (fun _ _ _ h => h) (Or.inl ⟨by kernel_rfl, (fun w hSw => by (try dsimp only at hSw); obtain ⟨q0, q1, q2⟩ := hSw; (first | (go_simp; done) | (go_simp; with_reducible rfl)))⟩) (by assumption) ?_
    refine wpAnyH_take (i := 7) (v := .pointer (some ⟨rb, 0, none⟩)) rfl (by kernel_rfl) (by kernel_rfl) (by kernel_rfl) (fun _ _ _ h => h) (Or.inl ⟨by kernel_rfl, (fun w hSw => by (try dsimp only at hSw); obtain ⟨q0, q1, q2⟩ := hSw; (first | (go_simp; done) | (go_simp; with_reducible rfl)))⟩) (by assumption) ?_
    refine wpAnyH_take (i := 8) (v := .string ⟨s.toArray⟩) rfl (by kernel_rfl) (by kernel_rfl) (by kernel_rfl) (fun _ _ _ h => h) (Or.inl ⟨by kernel_rfl, (fun w hSw => by (try dsimp only at hSw); obtain ⟨q0, q1, q2⟩ := hSw; (first | (go_simp; done) | (go_simp; with_reducible rfl)))⟩) (by assumption) ?_
    refine wpAnyH_take (i := 9) (v := .pointer (some ⟨rb, 0, none⟩)) rfl (by kernel_rfl) (by kernel_rfl) (by kernel_rfl) (fun _ _ _ h => h) (Or.inl ⟨by kernel_rfl, (fun w hSw => by (try dsimp only at hSw); obtain ⟨q0, q1, q2⟩ := hSw; (first | (go_simp; done) | (go_simp; with_reducible rfl)))⟩) (by assumption) ?_
    refine wpAnyH_take (i := 10) (v := .pointer (some ⟨rb, 0, none⟩)) rfl (by kernel_rfl) (by kernel_rfl) (by kernel_rfl) (fun _ _ _ h => h) (Or.inl ⟨by kernel_rfl, (fun w hSw => by (try dsimp only at hSw); obtain ⟨q0, q1, q2⟩ := hSw; (first | (go_simp; done) | (go_simp; with_reducible rfl)))⟩) (by assumption) ?_
    refine wpAnyH_take (i := 11) (v := .pointer (some ⟨rb, 2, none⟩)) rfl (by kernel_rfl) (by kernel_rfl) (by kernel_rfl) (fun _ _ _ h => h) (Or.inl ⟨by kernel_rfl, (fun w hSw => by (try dsimp only at hSw); obtain ⟨q0, q1, q2⟩ := hSw; (first | (go_simp; done) | (go_simp; with_reducible rfl)))⟩) (by assumption) ?_
    refine wpAnyH_take (i := 12) (v := .int .i64 (b : Int)) rfl (by kernel_rfl) (by kernel_rfl) (by kernel_rfl) (fun _ _ _ h => h) (Or.inl ⟨by kernel_rfl, (fun w hSw => by (try dsimp only at hSw); obtain ⟨q0, q1, q2⟩ := hSw; (first | (go_simp; done) | (go_simp; with_reducible rfl)))⟩) (by assumption) ?_
    refine wpAnyH_take (i := 13) (v := .int .i64 (at_ : Int)) rfl (by kernel_rfl) (by kernel_rfl) (by kernel_rfl) (fun _ _ _ h => h) (Or.inl ⟨by kernel_rfl, (fun w hSw => by (try dsimp only at hSw); obtain ⟨q0, q1, q2⟩ := hSw; (first | (go_simp; done) | (go_simp; with_reducible rfl)))⟩) (by assumption) ?_
    refine wpAnyH_take (i := 14) (v := .string ⟨ws.toArray⟩) rfl (by kernel_rfl) (by kernel_rfl) (by kernel_rfl) (fun _ _ _ h => h) (Or.inl ⟨by kernel_rfl, (fun w hSw => by go_simp; rw [HX.out])⟩) (by assumption) ?_
    refine wpAnyH_take (i := 15) (v := .pointer (some ⟨rb, 0, none⟩)) rfl (by kernel_rfl) (by kernel_rfl) (by kernel_rfl) (fun _ _ _ h => h) (Or.inl ⟨by kernel_rfl, (fun w hSw => by (try dsimp only at hSw); obtain ⟨q0, q1, q2⟩ := hSw; (first | (go_simp; done) | (go_simp; with_reducible rfl)))⟩) (by assumption) ?_
    refine wpAnyH_take (i := 16) (v := .pointer (some ⟨rb, 0, none⟩)) rfl (by kernel_rfl) (by kernel_rfl) (by kernel_rfl) (fun _ _ _ h => h) (Or.inl ⟨by kernel_rfl, (fun w hSw => by (try dsimp only at hSw); obtain ⟨q0, q1, q2⟩ := hSw; (first | (go_simp; done) | (go_simp; with_reducible rfl)))⟩) (by assumption) ?_
    refine wpAnyH_take (i := 17) (v := .pointer (some ⟨rb, 1, none⟩)) rfl (by kernel_rfl) (by kernel_rfl) (by kernel_rfl) (fun _ _ _ h => h) (Or.inl ⟨by kernel_rfl, (fun w hSw => by (try dsimp only at hSw); obtain ⟨q0, q1, q2⟩ := hSw; (first | (go_simp; done) | (go_simp; with_reducible rfl)))⟩) (by assumption) ?_
    refine wpAnyH_take (i := 18) (v := .map (some ob)) rfl (by kernel_rfl) (by kernel_rfl) (by kernel_rfl) (fun _ _ _ h => h) (Or.inl ⟨by kernel_rfl, (fun w hSw => by (try dsimp only at hSw); obtain ⟨q0, q1, q2⟩ := hSw; (first | (go_simp; done) | (go_simp; with_reducible rfl)))⟩) (by assumption) ?_
    refine wpAnyH_ready (rs := [4, 19]) (by kernel_rfl) (by simp) ?_
    refine AllReadyH.cons rfl (fun K hK => ?_) (AllReadyH.cons rfl (fun K hK => ?_) AllReadyH.nil)
    · rw [if_pos (by kernel_rfl)]
      go_simp
      refine hK.out _ _ (by assumption) (fun hHeld => ?_)
      clear hK
      refine wpAnyH_ready (rs := [19]) (by kernel_rfl) (by simp) ?_
      refine AllReadyH.cons rfl (fun K hK => ?_) AllReadyH.nil
      rw [if_pos (by kernel_rfl)]
      go_simp
      refine HW.out.mono ?_
      rintro e w6 ⟨rfl, hb6⟩
      have H6 := Lib.hid (H.out.below (bt (bdrewL w) hb6))
      have HB6 : Hid (Below B w w6) := Lib.hid ((bt (bdrewL w) hb6).mono H.out.hBw)
      have HO6 := Lib.hid (row_below HOW.out (bt (bdrewL w) hb6))
      have hl6 := H6.out.lt
      clear y0 y1 y2 y3 y4 y5 y6 y7 y8 hHeld
      obtain ⟨⟨y0, y1, y2, y3, y4', y5, y6, y7, y8⟩, fz⟩ := H6.out.cells
      have y4 : w6.cell? ⟨rb, 4, none⟩ = some (.slice pw m cw) := by rw [HM.out]; exact y4'
      clear hb6 y4' fz
      refine hK.out _ _ ⟨y0, y1, y2⟩ (fun hHeld => ?_)
      clear hK
      refine wpAnyH_ready (rs := [20]) (by kernel_rfl) (by simp) ?_
      refine AllReadyH.cons rfl (fun K hK => ?_) AllReadyH.nil
      rw [if_pos (by kernel_rfl)]
      go_simp
      refine hK.out _ _ ?_ (fun hHeld => ?_)
      · exact ⟨(World.cell?_alloc_lt _ _ _ hl6).trans y0, (World.cell?_alloc_lt _ _ _ hl6).trans y1, (World.cell?_alloc_lt _ _ _ hl6).trans y2⟩
      clear hK
      refine wpAnyH_ready (rs := [21]) (by kernel_rfl) (by simp) ?_
      refine AllReadyH.cons rfl (fun K hK => ?_) AllReadyH.nil
      refine step_pushG (by rfl) _ _ (by rfl) B _ m _ (by rfl) (row_below HO6.out (below_one w6 _)) (some (.name n)) _ (heap_alloc_new w6 _) (by rfl) (by have := HML.out; omega) (by have := H6.out.hBw; simp; omega) ?_
      intro g7 c7 w7 h1 h2
      have h7 := HPU.out w6 H6.out g7 c7 w7 h1 h2
      have hf7 := h7.1
      have H7 := Lib.hid h7.2.1
      have HB7 := Lib.hid (HB6.out.trans h7.2.2.1)
      have z0 := (h7.2.2.2 0).trans y0
      have z1 := (h7.2.2.2 1).trans y1
      have z2 := (h7.2.2.2 2).trans y2
      have z4 := (h7.2.2.2 4).trans y4
      clear h1 h2 h7 hHeld
      refine hK.out _ _ ⟨z0, z1, z2⟩ (fun hHeld => ?_)
      clear hK
      refine wpAnyH_take (i := 22) (v := .pointer (some ⟨rb, 0, none⟩)) rfl (by kernel_rfl) (by kernel_rfl) (by kernel_rfl) (fun _ _ _ h => h) (Or.inl ⟨by kernel_rfl, (fun w hSw => by (try dsimp only at hSw); obtain ⟨q0, q1, q2⟩ := hSw; (first | (go_simp; done) | (go_simp; with_reducible rfl)))⟩) (by assumption) ?_
      refine wpAnyH_take (i := 23) (v := .pointer (some ⟨rb, 4, none⟩)) rfl (by kernel_rfl) (by kernel_rfl) (by kernel_rfl) (fun _ _ _ h => h) (Or.inl ⟨by kernel_rfl, (fun w hSw => by (try dsimp only at hSw); obtain ⟨q0, q1, q2⟩ := hSw; (first | (go_simp; done) | (go_simp; with_reducible rfl)))⟩) (by assumption) ?_
      refine wpAnyH_ready (rs := [24]) (by kernel_rfl) (by simp) ?_
      refine AllReadyH.cons rfl (fun K hK => ?_) AllReadyH.nil
      rw [if_pos (by kernel_rfl)]
      go_simp
      refine hK.out _ _ ?_ (fun hHeld => ?_)
      · obtain ⟨⟨q0, q1, q2, _⟩, _⟩ := H7.out.cells
        exact ⟨q0, q1, q2⟩
      clear hK
      refine wpAnyH_done (by kernel_rfl) ?_ _
      go_simp
      go_wp2
      go_meet
      exact Lib.hid ⟨_, H7.out, HB7.out⟩
    · rw [if_pos (by kernel_rfl)]
      go_simp
      refine HW.out.mono ?_
      rintro e w6 ⟨rfl, hb6⟩
      have H6 := Lib.hid (H.out.below (bt (bdrewL w) hb6))
      have HB6 : Hid (Below B w w6) := Lib.hid ((bt (bdrewL w) hb6).mono H.out.hBw)
      have HO6 := Lib.hid (row_below HOW.out (bt (bdrewL w) hb6))
      have hl6 := H6.out.lt
      clear y0 y1 y2 y3 y4 y5 y6 y7 y8 hHeld
      obtain ⟨⟨y0, y1, y2, y3, y4', y5, y6, y7, y8⟩, fz⟩ := H6.out.cells
      have y4 : w6.cell? ⟨rb, 4, none⟩ = some (.slice pw m cw) := by rw [HM.out]; exact y4'
      clear hb6 y4' fz
      refine hK.out _ _ ⟨y0, y1, y2⟩ (fun hHeld => ?_)
      clear hK
      refine wpAnyH_ready (rs := [4, 20]) (by kernel_rfl) (by simp) ?_
      refine AllReadyH.cons rfl (fun K hK => ?_) (AllReadyH.cons rfl (fun K hK => ?_) AllReadyH.nil)
      · rw [if_pos (by kernel_rfl)]
        go_simp
        refine hK.out _ _ (by assumption) (fun hHeld => ?_)
        clear hK
        refine wpAnyH_ready (rs := [20]) (by kernel_rfl) (by simp) ?_
        refine AllReadyH.cons rfl (fun K hK => ?_) AllReadyH.nil
        rw [if_pos (by kernel_rfl)]
        go_simp
        refine hK.out _ _ ?_ (fun hHeld => ?_)
        · exact ⟨(World.cell?_alloc_lt _ _ _ hl6).trans y0, (World.cell?_alloc_lt _ _ _ hl6).trans y1, (World.cell?_alloc_lt _ _ _ hl6).trans y2⟩
        clear hK
        refine wpAnyH_ready (rs := [21]) (by kernel_rfl) (by simp) ?_
        refine AllReadyH.cons rfl (fun K hK => ?_) AllReadyH.nil
        refine step_pushG (by rfl) _ _ (by rfl) B _ m _ (by rfl) (row_below HO6.out (below_one w6 _)) (some (.name n)) _ (heap_alloc_new w6 _) (by rfl) (by have := HML.out; omega) (by have := H6.out.hBw; simp; omega) ?_
        intro g7 c7 w7 h1 h2
        have h7 := HPU.out w6 H6.out g7 c7 w7 h1 h2
        have hf7 := h7.1
        have H7 := Lib.hid h7.2.1
        have HB7 := Lib.hid (HB6.out.trans h7.2.2.1)
        have z0 := (h7.2.2.2 0).trans y0
        have z1 := (h7.2.2.2 1).trans y1
        have z2 := (h7.2.2.2 2).trans y2
        have z4 := (h7.2.2.2 4).trans y4
        clear h1 h2 h7 hHeld
        refine hK.out _ _ ⟨z0, z1, z2⟩ (fun hHeld => ?_)
        clear hK
        refine wpAnyH_take (i := 22) (v := .pointer (some ⟨rb, 0, none⟩)) rfl (by kernel_rfl) (by kernel_rfl) (by kernel_rfl) (fun _ _ _ h => h) (Or.inl ⟨by kernel_rfl, (fun w hSw => by (try dsimp only at hSw); obtain ⟨q0, q1, q2⟩ := hSw; (first | (go_simp; done) | (go_simp; with_reducible rfl)))⟩) (by assumption) ?_
        refine wpAnyH_take (i := 23) (v := .pointer (some ⟨rb, 4, none⟩)) rfl (by kernel_rfl) (by kernel_rfl) (by kernel_rfl) (fun _ _ _ h => h) (Or.inl ⟨by kernel_rfl, (fun w hSw => by (try dsimp only at hSw); obtain ⟨q0, q1, q2⟩ := hSw; (first | (go_simp; done) | (go_simp; with_reducible rfl)))⟩) (by assumption) ?_
        refine wpAnyH_ready (rs := [24]) (by kernel_rfl) (by simp) ?_
        refine AllReadyH.cons rfl (fun K hK => ?_) AllReadyH.nil
        rw [if_pos (by kernel_rfl)]
        go_simp
        refine hK.out _ _ ?_ (fun hHeld => ?_)
        · obtain ⟨⟨q0, q1, q2, _⟩, _⟩ := H7.out.cells
          exact ⟨q0, q1, q2⟩
        clear hK
        refine wpAnyH_done (by kernel_rfl) ?_ _
        go_simp
        go_wp2
        go_meet
        exact Lib.hid ⟨_, H7.out, HB7.out⟩
      · rw [if_pos (by kernel_rfl)]
        go_simp
        refine hK.out _ _ ?_ (fun hHeld => ?_)
        · exact ⟨(World.cell?_alloc_lt _ _ _ hl6).trans y0, (World.cell?_alloc_lt _ _ _ hl6).trans y1, (World.cell?_alloc_lt _ _ _ hl6).trans y2⟩
        clear hK
        refine wpAnyH_ready (rs := [4]) (by kernel_rfl) (by simp) ?_
        refine AllReadyH.cons rfl (fun K hK => ?_) AllReadyH.nil
        rw [if_pos (by kernel_rfl)]
        have yy : (w6.alloc (.cells #[.iface 131 (.int .i64 n)] 20)).cell? ⟨rb, 4, none⟩ = _ := (World.cell?_alloc_lt _ _ _ hl6).trans y4
        go_simp
        refine hK.out _ _ (by assumption) (fun hHeld => ?_)
        clear hK yy
        refine wpAnyH_ready (rs := [21]) (by kernel_rfl) (by simp) ?_
        refine AllReadyH.cons rfl (fun K hK => ?_) AllReadyH.nil
        refine step_pushG (by rfl) _ _ (by rfl) B _ m _ (by rfl) (row_below HO6.out (below_one w6 _)) (some (.name n)) _ (heap_alloc_new w6 _) (by rfl) (by have := HML.out; omega) (by have := H6.out.hBw; simp; omega) ?_
        intro g7 c7 w7 h1 h2
        have h7 := HPU.out w6 H6.out g7 c7 w7 h1 h2
        have hf7 := h7.1
        have H7 := Lib.hid h7.2.1
        have HB7 := Lib.hid (HB6.out.trans h7.2.2.1)
        have z0 := (h7.2.2.2 0).trans y0
        have z1 := (h7.2.2.2 1).trans y1
        have z2 := (h7.2.2.2 2).trans y2
        have z4 := (h7.2.2.2 4).trans y4
        clear h1 h2 h7 hHeld
        refine hK.out _ _ ⟨z0, z1, z2⟩ (fun hHeld => ?_)
        clear hK
        refine wpAnyH_take (i := 22) (v := .pointer (some ⟨rb, 0, none⟩)) rfl (by kernel_rfl) (by kernel_rfl) (by kernel_rfl) (fun _ _ _ h => h) (Or.inl ⟨by kernel_rfl, (fun w hSw => by (try dsimp only at hSw); obtain ⟨q0, q1, q2⟩ := hSw; (first | (go_simp; done) | (go_simp; with_reducible rfl)))⟩) (by assumption) ?_
        refine wpAnyH_take (i := 23) (v := .pointer (some ⟨rb, 4, none⟩)) rfl (by kernel_rfl) (by kernel_rfl) (by kernel_rfl) (fun _ _ _ h => h) (Or.inl ⟨by kernel_rfl, (fun w hSw => by (try dsimp only at hSw); obtain ⟨q0, q1, q2⟩ := hSw; (first | (go_simp; done) | (go_simp; with_reducible rfl)))⟩) (by assumption) ?_
        refine wpAnyH_ready (rs := [24]) (by kernel_rfl) (by simp) ?_
        refine AllReadyH.cons rfl (fun K hK => ?_) AllReadyH.nil
        rw [if_pos (by kernel_rfl)]
        go_simp
        refine hK.out _ _ ?_ (fun hHeld => ?_)
        · obtain ⟨⟨q0, q1, q2, _⟩, _⟩ := H7.out.cells
          exact ⟨q0, q1, q2⟩
        clear hK
        refine wpAnyH_done (by kernel_rfl) ?_ _
        go_simp
        go_wp2
        go_meet
        exact Lib.hid ⟨_, H7.out, HB7.out⟩
  case rest =>
    rename_i K hK
    refine hK _ _ ?_
    clear hK K
    obtain ⟨vq, hI⟩ := hcut.out
    clear hcut
    have HQ := Lib.hid (hI.1.set (bg' := -1) (r' := { r with cur := none, words := r.words ++ [(some (.name n))] }) 2 (.int .i64 (-1)) rfl rfl rfl)
    have HBQ := Lib.hid hI.2
    clear y0 y1 y2 y3 y4 y5 y6 y7 y8
    obtain ⟨⟨y0, y1, y2, y3, y4, y5, y6, y7, y8⟩, fz⟩ := hI.1.cells
    have f2 := fz 2
    have hlt := hI.1.lt
    clear fz hI
    go_wp2
    go_end0
    rw [HE.out]
    exact ⟨rfl, _, _, HQ.out, HBQ.out.setCell (p := ⟨rb, 2, none⟩) hB _⟩
set_option maxHeartbeats 16000000 in
set_option maxRecDepth 100000 in
theorem endWord_reg_ (B rb ob at_ b : Nat) (s : List UInt8) (r : Rd) (vw vl : Value) (w : World) (h : RdR B rb ob s (b : Int) r vw vl w) (hba : b < at_) (has : at_ ≤ s.length) (hs : s.length ≤ 281474976710656) (ws : List UInt8) (hws : ws = (s.take at_).drop b) (n : Int) (hwp : wordP ws = (some (.reg n))) (hc : r.cur = some ws) (hm : r.words.length ≤ 402) :
    Calls Tryz.prog 99 #[.pointer (some ⟨rb, 0, none⟩), .int .i64 (at_ : Int)] w (RdPost B rb ob s (-1) (endW r) w) := by
  have HE : Hid (endW r = { r with cur := none, words := r.words ++ [(some (.reg n))] }) := Lib.hid (by unfold endW; rw [hc]; simp only; rw [if_pos hm, hwp])
  have HW := Lib.hid (wordOf_any ws (by rw [hws, List.length_drop, List.length_take]; omega) ob (World.drew w) (h.below (bdrewL w)).laid (h.below (bdrewL w)).ops)
  rw [hwp] at HW
  have HX : Hid ((⟨s.toArray⟩ : ByteArray).extract b at_ = ⟨ws.toArray⟩) := Lib.hid (by rw [ext_cut, hws])
  unfold WordPost wdV at HW
  have H := Lib.hid h
  have hB := h.hB
  obtain ⟨pw, cw, rfl⟩ := own_sl h.words
  obtain ⟨⟨y0, y1, y2, y3, y4, y5, y6, y7, y8⟩, fz⟩ := h.cells
  have hlt := h.lt
  obtain ⟨m, hmm⟩ : ∃ m, m = r.words.length := ⟨_, rfl⟩
  have HM := Lib.hid hmm
  rw [← hmm] at y4 hm
  have HOW : Hid (w.ownsRow B 20 1 (.slice pw m cw) m (r.words.map wdV)) := Lib.hid (by rw [hmm]; exact h.words)
  have m1 : (m : Int) ≤ 402 := by omega
  have m0 : (0 : Int) ≤ m := by omega
  have b0 : (0 : Int) ≤ b := by omega
  have b1 : ((b : Int) == -1) = false := by simp
  have b2 : ¬ ((b : Int) = -1) := by omega
  have a1 : (b : Int) ≤ at_ := by omega
  have hsz : (⟨s.toArray⟩ : ByteArray).size = s.length := by show s.toArray.size = _; simp
  have a2 : (at_ : Int) ≤ ((⟨s.toArray⟩ : ByteArray).size : Int) := by rw [hsz]; omega
  have a3 : (at_ : Int) ≤ (s.length : Int) := by omega
  have HML := Lib.hid hm
  have HPU : Hid (∀ w6, RdR B rb ob s (b : Int) r (.slice pw r.words.length cw) vl w6 → ∀ g7 c7 w7, w7.ownsRow B 20 1 (.slice (some ⟨g7, 0, none⟩) (m + 1) c7) (m + 1) (r.words.map wdV ++ [wdV (some (.reg n))]) → (w6.alloc (.cells #[.iface 133 (.int .i64 n)] 20)).grownBy w7 (Value.slice pw m cw).ownBlock → w7.frozen? ⟨rb, 4, none⟩ = false ∧ RdR B rb ob s (b : Int) { r with cur := none, words := r.words ++ [(some (.reg n))] } (.slice (some ⟨g7, 0, none⟩) (m + 1) c7) vl (w7.setCell ⟨rb, 4, none⟩ (.slice (some ⟨g7, 0, none⟩) (m + 1) c7)) ∧ Below B w6 (w7.setCell ⟨rb, 4, none⟩ (.slice (some ⟨g7, 0, none⟩) (m + 1) c7)) ∧ ∀ k, w7.cell? ⟨rb, k, none⟩ = w6.cell? ⟨rb, k, none⟩) := Lib.hid (by
    intro w6 h6 g7 c7 w7 h1 h2
    exact h6.pushed (.cells #[.iface 133 (.int .i64 n)] 20) (some (.reg n)) (by rw [← hmm]; exact h1) (by rw [← hmm]; exact h2) rfl rfl rfl)
  clear h hc hm hmm fz hws hsz hwp
  go_enter Tryz.func99, Tryz.ntmps99
  go_upto_region 2 with (fail)
  go_cut [] from 15 to 41 (fun wq => Hid (∃ vw, RdR B rb ob s (b : Int) { r with cur := none, words := r.words ++ [(some (.reg n))] } vw vl wq ∧ Below B w wq))
  case first =>
    refine wp_region_held_drew (S := (fun W => W.cell? ⟨rb, 0, none⟩ = some (.string ⟨s.toArray⟩) ∧ W.cell? ⟨rb, 1, none⟩ = some (.map (some ob)) ∧ W.cell? ⟨rb, 2, none⟩ = some (.int .i64 (b : Int)))) (by kernel_rfl) ⟨y0, y1, y2⟩ (fun hHeld => ?_)
    refine wpAnyH_take (i := 0) (v := .pointer (some ⟨rb, 0, none⟩)) rfl (by kernel_rfl) (by kernel_rfl) (by kernel_rfl) (fun _ _ _ h => h) (Or.inl ⟨by kernel_rfl, (fun w hSw => by (try dsimp only at hSw); obtain ⟨q0, q1, q2⟩ := hSw; (first | (go_simp; done) | (go_simp; with_reducible rfl)))⟩) (by assumption) ?_
    refine wpAnyH_take (i := 1) (v := .pointer (some ⟨rb, 0, none⟩)) rfl (by kernel_rfl) (by kernel_rfl) (by kernel_rfl) (fun _ _ _ h => h) (Or.inl ⟨by kernel_rfl, (fun w hSw => by (try dsimp only at hSw); obtain ⟨q0, q1, q2⟩ := hSw; (first | (go_simp; done) | (go_simp; with_reducible rfl)))⟩) (by assumption) ?_
    refine wpAnyH_take (i := 2) (v := .pointer (some ⟨rb, 0, none⟩)) rfl (by kernel_rfl) (by kernel_rfl) (by kernel_rfl) (fun _ _ _ h => h) (Or.inl ⟨by kernel_rfl, (fun w hSw => by (try dsimp only at hSw); obtain ⟨q0, q1, q2⟩ := hSw; (first | (go_simp; done) | (go_simp; with_reducible rfl)))⟩) (by assumption) ?_
    refine wpAnyH_take (i := 3) (v := .pointer (some ⟨rb, 4, none⟩)) rfl (by kernel_rfl) (by kernel_rfl) (by kernel_rfl) (fun _ _ _ h => h) (Or.inl ⟨by kernel_rfl, (fun w hSw => by (try dsimp only at hSw); obtain ⟨q0, q1, q2⟩ := hSw; (first | (go_simp; done) | (go_simp; with_reducible rfl)))⟩) (by assumption) ?_
    refine wpAnyH_take (i := 5) (v := .pointer (some ⟨rb, 0, none⟩)) rfl (by kernel_rfl) (by kernel_rfl) (by kernel_rfl) (fun _ _ _ h => h) (Or.inl ⟨by kernel_rfl, (fun w hSw => by (try dsimp only at hSw); obtain ⟨q0, q1, q2⟩ := hSw; (first | (go_simp; done) | (go_simp; with_reducible rfl)))⟩) (by assumption) ?_
    refine wpAnyH_take (i := 6) (v := .pointer (some ⟨rb, 0, none⟩)) rfl (by kernel_rfl) (by kernel_rfl) (by kernel_rfl) (fun _ _ _ h => h) (Or.inl ⟨by kernel_rfl, (fun w hSw => by (try dsimp only at hSw); obtain ⟨q0, q1, q2⟩ := hSw; (first | (go_simp; done) | (go_simp; with_reducible rfl)))⟩) (by assumption) ?_
    refine wpAnyH_take (i := 7) (v := .pointer (some ⟨rb, 0, none⟩)) rfl (by kernel_rfl) (by kernel_rfl) (by kernel_rfl) (fun _ _ _ h => h) (Or.inl ⟨by kernel_rfl, (fun w hSw => by (try dsimp only at hSw); obtain ⟨q0, q1, q2⟩ := hSw; (first | (go_simp; done) | (go_simp; with_reducible rfl)))⟩) (by assumption) ?_
    refine wpAnyH_take (i := 8) (v := .string ⟨s.toArray⟩) rfl (by kernel_rfl) (by kernel_rfl) (by kernel_rfl) (fun _ _ _ h => h) (Or.inl ⟨by kernel_rfl, (fun w hSw => by (try dsimp only at hSw); obtain ⟨q0, q1, q2⟩ := hSw; (first | (go_simp; done) | (go_simp; with_reducible rfl)))⟩) (by assumption) ?_
    refine wpAnyH_take (i := 9) (v := .pointer (some ⟨rb, 0, none⟩)) rfl (by kernel_rfl) (by kernel_rfl) (by kernel_rfl) (fun _ _ _ h => h) (Or.inl ⟨by kernel_rfl, (fun w hSw => by (try dsimp only at hSw); obtain ⟨q0, q1, q2⟩ := hSw; (first | (go_simp; done) | (go_simp; with_reducible rfl)))⟩) (by assumption) ?_
    refine wpAnyH_take (i := 10) (v := .pointer (some ⟨rb, 0, none⟩)) rfl (by kernel_rfl) (by kernel_rfl) (by kernel_rfl) (fun _ _ _ h => h) (Or.inl ⟨by kernel_rfl, (fun w hSw => by (try dsimp only at hSw); obtain ⟨q0, q1, q2⟩ := hSw; (first | (go_simp; done) | (go_simp; with_reducible rfl)))⟩) (by assumption) ?_
    refine wpAnyH_take (i := 11) (v := .pointer (some ⟨rb, 2, none⟩)) rfl (by kernel_rfl) (by kernel_rfl) (by kernel_rfl) (fun _ _ _ h => h) (Or.inl ⟨by kernel_rfl, (fun w hSw => by (try dsimp only at hSw); obtain ⟨q0, q1, q2⟩ := hSw; (first | (go_simp; done) | (go_simp; with_reducible rfl)))⟩) (by assumption) ?_
    refine wpAnyH_take (i := 12) (v := .int .i64 (b : Int)) rfl (by kernel_rfl) (by kernel_rfl) (by kernel_rfl) (fun _ _ _ h => h) (Or.inl ⟨by kernel_rfl, (fun w hSw => by (try dsimp only at hSw); obtain ⟨q0, q1, q2⟩ := hSw; (first | (go_simp; done) | (go_simp; with_reducible rfl)))⟩) (by assumption) ?_
    refine wpAnyH_take (i := 13) (v := .int .i64 (at_ : Int)) rfl (by kernel_rfl) (by kernel_rfl) (by kernel_rfl) (fun _ _ _ h => h) (Or.inl ⟨by kernel_rfl, (fun w hSw => by (try dsimp only at hSw); obtain ⟨q0, q1, q2⟩ := hSw; (first | (go_simp; done) | (go_simp; with_reducible rfl)))⟩) (by assumption) ?_
    refine wpAnyH_take (i := 14) (v := .string ⟨ws.toArray⟩) rfl (by kernel_rfl) (by kernel_rfl) (by kernel_rfl) (fun _ _ _ h => h) (Or.inl ⟨by kernel_rfl, (fun w hSw => by go_simp; rw [HX.out])⟩) (by assumption) ?_
    refine wpAnyH_take (i := 15) (v := .pointer (some ⟨rb, 0, none⟩)) rfl (by kernel_rfl) (by kernel_rfl) (by kernel_rfl) (fun _ _ _ h => h) (Or.inl ⟨by kernel_rfl, (fun w hSw => by (try dsimp only at hSw); obtain ⟨q0, q1, q2⟩ := hSw; (first | (go_simp; done) | (go_simp; with_reducible rfl)))⟩) (by assumption) ?_
    refine wpAnyH_take (i := 16) (v := .pointer (some ⟨rb, 0, none⟩)) rfl (by kernel_rfl) (by kernel_rfl) (by kernel_rfl) (fun _ _ _ h => h) (Or.inl ⟨by kernel_rfl, (fun w hSw => by (try dsimp only at hSw); obtain ⟨q0, q1, q2⟩ := hSw; (first | (go_simp; done) | (go_simp; with_reducible rfl)))⟩) (by assumption) ?_
    refine wpAnyH_take (i := 17) (v := .pointer (some ⟨rb, 1, none⟩)) rfl (by kernel_rfl) (by kernel_rfl) (by kernel_rfl) (fun _ _ _ h => h) (Or.inl ⟨by kernel_rfl, (fun w hSw => by (try dsimp only at hSw); obtain ⟨q0, q1, q2⟩ := hSw; (first | (go_simp; done) | (go_simp; with_reducible rfl)))⟩) (by assumption) ?_
    refine wpAnyH_take (i := 18) (v := .map (some ob)) rfl (by kernel_rfl) (by kernel_rfl) (by kernel_rfl) (fun _ _ _ h => h) (Or.inl ⟨by kernel_rfl, (fun w hSw => by (try dsimp only at hSw); obtain ⟨q0, q1, q2⟩ := hSw; (first | (go_simp; done) | (go_simp; with_reducible rfl)))⟩) (by assumption) ?_
    refine wpAnyH_ready (rs := [4, 19]) (by kernel_rfl) (by simp) ?_
    refine AllReadyH.cons rfl (fun K hK => ?_) (AllReadyH.cons rfl (fun K hK => ?_) AllReadyH.nil)
    · rw [if_pos (by kernel_rfl)]
      go_simp
      refine hK.out _ _ (by assumption) (fun hHeld => ?_)
      clear hK
      refine wpAnyH_ready (rs := [19]) (by kernel_rfl) (by simp) ?_
      refine AllReadyH.cons rfl (fun K hK => ?_) AllReadyH.nil
      rw [if_pos (by kernel_rfl)]
      go_simp
      refine HW.out.mono ?_
      rintro e w6 ⟨rfl, hb6⟩
      have H6 := Lib.hid (H.out.below (bt (bdrewL w) hb6))
      have HB6 : Hid (Below B w w6) := Lib.hid ((bt (bdrewL w) hb6).mono H.out.hBw)
      have HO6 := Lib.hid (row_below HOW.out (bt (bdrewL w) hb6))
      have hl6 := H6.out.lt
      clear y0 y1 y2 y3 y4 y5 y6 y7 y8 hHeld
      obtain ⟨⟨y0, y1, y2, y3, y4', y5, y6, y7, y8⟩, fz⟩ := H6.out.cells
      have y4 : w6.cell? ⟨rb, 4, none⟩ = some (.slice pw m cw) := by rw [HM.out]; exact y4'
      clear hb6 y4' fz
      refine hK.out _ _ ⟨y0, y1, y2⟩ (fun hHeld => ?_)
      clear hK
      refine wpAnyH_ready (rs := [20]) (by kernel_rfl) (by simp) ?_
      refine AllReadyH.cons rfl (fun K hK => ?_) AllReadyH.nil
      rw [if_pos (by kernel_rfl)]
      go_simp
      refine hK.out _ _ ?_ (fun hHeld => ?_)
      · exact ⟨(World.cell?_alloc_lt _ _ _ hl6).trans y0, (World.cell?_alloc_lt _ _ _ hl6).trans y1, (World.cell?_alloc_lt _ _ _ hl6).trans y2⟩
      clear hK
      refine wpAnyH_ready (rs := [21]) (by kernel_rfl) (by simp) ?_
      refine AllReadyH.cons rfl (fun K hK => ?_) AllReadyH.nil
      refine step_pushG (by rfl) _ _ (by rfl) B _ m _ (by rfl) (row_below HO6.out (below_one w6 _)) (some (.reg n)) _ (heap_alloc_new w6 _) (by rfl) (by have := HML.out; omega) (by have := H6.out.hBw; simp; omega) ?_
      intro g7 c7 w7 h1 h2
      have h7 := HPU.out w6 H6.out g7 c7 w7 h1 h2
      have hf7 := h7.1
      have H7 := Lib.hid h7.2.1
      have HB7 := Lib.hid (HB6.out.trans h7.2.2.1)
      have z0 := (h7.2.2.2 0).trans y0
      have z1 := (h7.2.2.2 1).trans y1
      have z2 := (h7.2.2.2 2).trans y2
      have z4 := (h7.2.2.2 4).trans y4
      clear h1 h2 h7 hHeld
      refine hK.out _ _ ⟨z0, z1, z2⟩ (fun hHeld => ?_)
      clear hK
      refine wpAnyH_take (i := 22) (v := .pointer (some ⟨rb, 0, none⟩)) rfl (by kernel_rfl) (by kernel_rfl) (by kernel_rfl) (fun _ _ _ h => h) (Or.inl ⟨by kernel_rfl, (fun w hSw => by (try dsimp only at hSw); obtain ⟨q0, q1, q2⟩ := hSw; (first | (go_simp; done) | (go_simp; with_reducible rfl)))⟩) (by assumption) ?_
      refine wpAnyH_take (i := 23) (v := .pointer (some ⟨rb, 4, none⟩)) rfl (by kernel_rfl) (by kernel_rfl) (by kernel_rfl) (fun _ _ _ h => h) (Or.inl ⟨by kernel_rfl, (fun w hSw => by (try dsimp only at hSw); obtain ⟨q0, q1, q2⟩ := hSw; (first | (go_simp; done) | (go_simp; with_reducible rfl)))⟩) (by assumption) ?_
      refine wpAnyH_ready (rs := [24]) (by kernel_rfl) (by simp) ?_
      refine AllReadyH.cons rfl (fun K hK => ?_) AllReadyH.nil
      rw [if_pos (by kernel_rfl)]
      go_simp
      refine hK.out _ _ ?_ (fun hHeld => ?_)
      · obtain ⟨⟨q0, q1, q2, _⟩, _⟩ := H7.out.cells
        exact ⟨q0, q1, q2⟩
      clear hK
      refine wpAnyH_done (by kernel_rfl) ?_ _
      go_simp
      go_wp2
      go_meet
      exact Lib.hid ⟨_, H7.out, HB7.out⟩
    · rw [if_pos (by kernel_rfl)]
      go_simp
      refine HW.out.mono ?_
      rintro e w6 ⟨rfl, hb6⟩
      have H6 := Lib.hid (H.out.below (bt (bdrewL w) hb6))
      have HB6 : Hid (Below B w w6) := Lib.hid ((bt (bdrewL w) hb6).mono H.out.hBw)
      have HO6 := Lib.hid (row_below HOW.out (bt (bdrewL w) hb6))
      have hl6 := H6.out.lt
      clear y0 y1 y2 y3 y4 y5 y6 y7 y8 hHeld
      obtain ⟨⟨y0, y1, y2, y3, y4', y5, y6, y7, y8⟩, fz⟩ := H6.out.cells
      have y4 : w6.cell? ⟨rb, 4, none⟩ = some (.slice pw m cw) := by rw [HM.out]; exact y4'
      clear hb6 y4' fz
      refine hK.out _ _ ⟨y0, y1, y2⟩ (fun hHeld => ?_)
      clear hK
      refine wpAnyH_ready (rs := [4, 20]) (by kernel_rfl) (by simp) ?_
      refine AllReadyH.cons rfl (fun K hK => ?_) (AllReadyH.cons rfl (fun K hK => ?_) AllReadyH.nil)
      · rw [if_pos (by kernel_rfl)]
        go_simp
        refine hK.out _ _ (by assumption) (fun hHeld => ?_)
        clear hK
        refine wpAnyH_ready (rs := [20]) (by kernel_rfl) (by simp) ?_
        refine AllReadyH.cons rfl (fun K hK => ?_) AllReadyH.nil
        rw [if_pos (by kernel_rfl)]
        go_simp
        refine hK.out _ _ ?_ (fun hHeld => ?_)
        · exact ⟨(World.cell?_alloc_lt _ _ _ hl6).trans y0, (World.cell?_alloc_lt _ _ _ hl6).trans y1, (World.cell?_alloc_lt _ _ _ hl6).trans y2⟩
        clear hK
        refine wpAnyH_ready (rs := [21]) (by kernel_rfl) (by simp) ?_
        refine AllReadyH.cons rfl (fun K hK => ?_) AllReadyH.nil
        refine step_pushG (by rfl) _ _ (by rfl) B _ m _ (by rfl) (row_below HO6.out (below_one w6 _)) (some (.reg n)) _ (heap_alloc_new w6 _) (by rfl) (by have := HML.out; omega) (by have := H6.out.hBw; simp; omega) ?_
        intro g7 c7 w7 h1 h2
        have h7 := HPU.out w6 H6.out g7 c7 w7 h1 h2
        have hf7 := h7.1
        have H7 := Lib.hid h7.2.1
        have HB7 := Lib.hid (HB6.out.trans h7.2.2.1)
        have z0 := (h7.2.2.2 0).trans y0
        have z1 := (h7.2.2.2 1).trans y1
        have z2 := (h7.2.2.2 2).trans y2
        have z4 := (h7.2.2.2 4).trans y4
        clear h1 h2 h7 hHeld
        refine hK.out _ _ ⟨z0, z1, z2⟩ (fun hHeld => ?_)
        clear hK
        refine wpAnyH_take (i := 22) (v := .pointer (some ⟨rb, 0, none⟩)) rfl (by kernel_rfl) (by kernel_rfl) (by kernel_rfl) (fun _ _ _ h => h) (Or.inl ⟨by kernel_rfl, (fun w hSw => by (try dsimp only at hSw); obtain ⟨q0, q1, q2⟩ := hSw; (first | (go_simp; done) | (go_simp; with_reducible rfl)))⟩) (by assumption) ?_
        refine wpAnyH_take (i := 23) (v := .pointer (some ⟨rb, 4, none⟩)) rfl (by kernel_rfl) (by kernel_rfl) (by kernel_rfl) (fun _ _ _ h => h) (Or.inl ⟨by kernel_rfl, (fun w hSw => by (try dsimp only at hSw); obtain ⟨q0, q1, q2⟩ := hSw; (first | (go_simp; done) | (go_simp; with_reducible rfl)))⟩) (by assumption) ?_
        refine wpAnyH_ready (rs := [24]) (by kernel_rfl) (by simp) ?_
        refine AllReadyH.cons rfl (fun K hK => ?_) AllReadyH.nil
        rw [if_pos (by kernel_rfl)]
        go_simp
        refine hK.out _ _ ?_ (fun hHeld => ?_)
        · obtain ⟨⟨q0, q1, q2, _⟩, _⟩ := H7.out.cells
          exact ⟨q0, q1, q2⟩
        clear hK
        refine wpAnyH_done (by kernel_rfl) ?_ _
        go_simp
        go_wp2
        go_meet
        exact Lib.hid ⟨_, H7.out, HB7.out⟩
      · rw [if_pos (by kernel_rfl)]
        go_simp
        refine hK.out _ _ ?_ (fun hHeld => ?_)
        · exact ⟨(World.cell?_alloc_lt _ _ _ hl6).trans y0, (World.cell?_alloc_lt _ _ _ hl6).trans y1, (World.cell?_alloc_lt _ _ _ hl6).trans y2⟩
        clear hK
        refine wpAnyH_ready (rs := [4]) (by kernel_rfl) (by simp) ?_
        refine AllReadyH.cons rfl (fun K hK => ?_) AllReadyH.nil
        rw [if_pos (by kernel_rfl)]
        have yy : (w6.alloc (.cells #[.iface 133 (.int .i64 n)] 20)).cell? ⟨rb, 4, none⟩ = _ := (World.cell?_alloc_lt _ _ _ hl6).trans y4
        go_simp
        refine hK.out _ _ (by assumption) (fun hHeld => ?_)
        clear hK yy
        refine wpAnyH_ready (rs := [21]) (by kernel_rfl) (by simp) ?_
        refine AllReadyH.cons rfl (fun K hK => ?_) AllReadyH.nil
        refine step_pushG (by rfl) _ _ (by rfl) B _ m _ (by rfl) (row_below HO6.out (below_one w6 _)) (some (.reg n)) _ (heap_alloc_new w6 _) (by rfl) (by have := HML.out; omega) (by have := H6.out.hBw; simp; omega) ?_
        intro g7 c7 w7 h1 h2
        have h7 := HPU.out w6 H6.out g7 c7 w7 h1 h2
        have hf7 := h7.1
        have H7 := Lib.hid h7.2.1
        have HB7 := Lib.hid (HB6.out.trans h7.2.2.1)
        have z0 := (h7.2.2.2 0).trans y0
        have z1 := (h7.2.2.2 1).trans y1
        have z2 := (h7.2.2.2 2).trans y2
        have z4 := (h7.2.2.2 4).trans y4
        clear h1 h2 h7 hHeld
        refine hK.out _ _ ⟨z0, z1, z2⟩ (fun hHeld => ?_)
        clear hK
        refine wpAnyH_take (i := 22) (v := .pointer (some ⟨rb, 0, none⟩)) rfl (by kernel_rfl) (by kernel_rfl) (by kernel_rfl) (fun _ _ _ h => h) (Or.inl ⟨by kernel_rfl, (fun w hSw => by (try dsimp only at hSw); obtain ⟨q0, q1, q2⟩ := hSw; (first | (go_simp; done) | (go_simp; with_reducible rfl)))⟩) (by assumption) ?_
        refine wpAnyH_take (i := 23) (v := .pointer (some ⟨rb, 4, none⟩)) rfl (by kernel_rfl) (by kernel_rfl) (by kernel_rfl) (fun _ _ _ h => h) (Or.inl ⟨by kernel_rfl, (fun w hSw => by (try dsimp only at hSw); obtain ⟨q0, q1, q2⟩ := hSw; (first | (go_simp; done) | (go_simp; with_reducible rfl)))⟩) (by assumption) ?_
        refine wpAnyH_ready (rs := [24]) (by kernel_rfl) (by simp) ?_
        refine AllReadyH.cons rfl (fun K hK => ?_) AllReadyH.nil
        rw [if_pos (by kernel_rfl)]
        go_simp
        refine hK.out _ _ ?_ (fun hHeld => ?_)
        · obtain ⟨⟨q0, q1, q2, _⟩, _⟩ := H7.out.cells
          exact ⟨q0, q1, q2⟩
        clear hK
        refine wpAnyH_done (by kernel_rfl) ?_ _
        go_simp
        go_wp2
        go_meet
        exact Lib.hid ⟨_, H7.out, HB7.out⟩
  case rest =>
    rename_i K hK
    refine hK _ _ ?_
    clear hK K
    obtain ⟨vq, hI⟩ := hcut.out
    clear hcut
    have HQ := Lib.hid (hI.1.set (bg' := -1) (r' := { r with cur := none, words := r.words ++ [(some (.reg n))] }) 2 (.int .i64 (-1)) rfl rfl rfl)
    have HBQ := Lib.hid hI.2
    clear y0 y1 y2 y3 y4 y5 y6 y7 y8
    obtain ⟨⟨y0, y1, y2, y3, y4, y5, y6, y7, y8⟩, fz⟩ := hI.1.cells
    have f2 := fz 2
    have hlt := hI.1.lt
    clear fz hI
    go_wp2
    go_end0
    rw [HE.out]
    exact ⟨rfl, _, _, HQ.out, HBQ.out.setCell (p := ⟨rb, 2, none⟩) hB _⟩
set_option maxHeartbeats 16000000 in
set_option maxRecDepth 100000 in
theorem endWord_lab_ (B rb ob at_ b : Nat) (s : List UInt8) (r : Rd) (vw vl : Value) (w : World) (h : RdR B rb ob s (b : Int) r vw vl w) (hba : b < at_) (has : at_ ≤ s.length) (hs : s.length ≤ 281474976710656) (ws : List UInt8) (hws : ws = (s.take at_).drop b) (n : Int) (hwp : wordP ws = (some (.lab n))) (hc : r.cur = some ws) (hm : r.words.length ≤ 402) :
    Calls Tryz.prog 99 #[.pointer (some ⟨rb, 0, none⟩), .int .i64 (at_ : Int)] w (RdPost B rb ob s (-1) (endW r) w) := by
  have HE : Hid (endW r = { r with cur := none, words := r.words ++ [(some (.lab n))] }) := Lib.hid (by unfold endW; rw [hc]; simp only; rw [if_pos hm, hwp])
  have HW := Lib.hid (wordOf_any ws (by rw [hws, List.length_drop, List.length_take]; omega) ob (World.drew w) (h.below (bdrewL w)).laid (h.below (bdrewL w)).ops)
  rw [hwp] at HW
  have HX : Hid ((⟨s.toArray⟩ : ByteArray).extract b at_ = ⟨ws.toArray⟩) := Lib.hid (by rw [ext_cut, hws])
  unfold WordPost wdV at HW
  have H := Lib.hid h
  have hB := h.hB
  obtain ⟨pw, cw, rfl⟩ := own_sl h.words
  obtain ⟨⟨y0, y1, y2, y3, y4, y5, y6, y7, y8⟩, fz⟩ := h.cells
  have hlt := h.lt
  obtain ⟨m, hmm⟩ : ∃ m, m = r.words.length := ⟨_, rfl⟩
  have HM := Lib.hid hmm
  rw [← hmm] at y4 hm
  have HOW : Hid (w.ownsRow B 20 1 (.slice pw m cw) m (r.words.map wdV)) := Lib.hid (by rw [hmm]; exact h.words)
  have m1 : (m : Int) ≤ 402 := by omega
  have m0 : (0 : Int) ≤ m := by omega
  have b0 : (0 : Int) ≤ b := by omega
  have b1 : ((b : Int) == -1) = false := by simp
  have b2 : ¬ ((b : Int) = -1) := by omega
  have a1 : (b : Int) ≤ at_ := by omega
  have hsz : (⟨s.toArray⟩ : ByteArray).size = s.length := by show s.toArray.size = _; simp
  have a2 : (at_ : Int) ≤ ((⟨s.toArray⟩ : ByteArray).size : Int) := by rw [hsz]; omega
  have a3 : (at_ : Int) ≤ (s.length : Int) := by omega
  have HML := Lib.hid hm
  have HPU : Hid (∀ w6, RdR B rb ob s (b : Int) r (.slice pw r.words.length cw) vl w6 → ∀ g7 c7 w7, w7.ownsRow B 20 1 (.slice (some ⟨g7, 0, none⟩) (m + 1) c7) (m + 1) (r.words.map wdV ++ [wdV (some (.lab n))]) → (w6.alloc (.cells #[.iface 107 (.int .i64 n)] 20)).grownBy w7 (Value.slice pw m cw).ownBlock → w7.frozen? ⟨rb, 4, none⟩ = false ∧ RdR B rb ob s (b : Int) { r with cur := none, words := r.words ++ [(some (.lab n))] } (.slice (some ⟨g7, 0, none⟩) (m + 1) c7) vl (w7.setCell ⟨rb, 4, none⟩ (.slice (some ⟨g7, 0, none⟩) (m + 1) c7)) ∧ Below B w6 (w7.setCell ⟨rb, 4, none⟩ (.slice (some ⟨g7, 0, none⟩) (m + 1) c7)) ∧ ∀ k, w7.cell? ⟨rb, k, none⟩ = w6.cell? ⟨rb, k, none⟩) := Lib.hid (by
    intro w6 h6 g7 c7 w7 h1 h2
    exact h6.pushed (.cells #[.iface 107 (.int .i64 n)] 20) (some (.lab n)) (by rw [← hmm]; exact h1) (by rw [← hmm]; exact h2) rfl rfl rfl)
  clear h hc hm hmm fz hws hsz hwp
  go_enter Tryz.func99, Tryz.ntmps99
  go_upto_region 2 with (fail)
  go_cut [] from 15 to 41 (fun wq => Hid (∃ vw, RdR B rb ob s (b : Int) { r with cur := none, words := r.words ++ [(some (.lab n))] } vw vl wq ∧ Below B w wq))
  case first =>
    refine wp_region_held_drew (S := (fun W => W.cell? ⟨rb, 0, none⟩ = some (.string ⟨s.toArray⟩) ∧ W.cell? ⟨rb, 1, none⟩ = some (.map (some ob)) ∧ W.cell? ⟨rb, 2, none⟩ = some (.int .i64 (b : Int)))) (by kernel_rfl) ⟨y0, y1, y2⟩ (fun hHeld => ?_)
    refine wpAnyH_take (i := 0) (v := .pointer (some ⟨rb, 0, none⟩)) rfl (by kernel_rfl) (by kernel_rfl) (by kernel_rfl) (fun _ _ _ h => h) (Or.inl ⟨by kernel_rfl, (fun w hSw => by (try dsimp only at hSw); obtain ⟨q0, q1, q2⟩ := hSw; (first | (go_simp; done) | (go_simp; with_reducible rfl)))⟩) (by assumption) ?_
    refine wpAnyH_take (i := 1) (v := .pointer (some ⟨rb, 0, none⟩)) rfl (by kernel_rfl) (by kernel_rfl) (by kernel_rfl) (fun _ _ _ h => h) (Or.inl ⟨by kernel_rfl, (fun w hSw => by (try dsimp only at hSw); obtain ⟨q0, q1, q2⟩ := hSw; (first | (go_simp; done) | (go_simp; with_reducible rfl)))⟩) (by assumption) ?_
    refine wpAnyH_take (i := 2) (v := .pointer (some ⟨rb, 0, none⟩)) rfl (by kernel_rfl) (by kernel_rfl) (by kernel_rfl) (fun _ _ _ h => h) (Or.inl ⟨by kernel_rfl, (fun w hSw => by (try dsimp only at hSw); obtain ⟨q0, q1, q2⟩ := hSw; (first | (go_simp; done) | (go_simp; with_reducible rfl)))⟩) (by assumption) ?_
    refine wpAnyH_take (i := 3) (v := .pointer (some ⟨rb, 4, none⟩)) rfl (by kernel_rfl) (by kernel_rfl) (by kernel_rfl) (fun _ _ _ h => h) (Or.inl ⟨by kernel_rfl, (fun w hSw => by (try dsimp only at hSw); obtain ⟨q0, q1, q2⟩ := hSw; (first | (go_simp; done) | (go_simp; with_reducible rfl)))⟩) (by assumption) ?_
    refine wpAnyH_take (i := 5) (v := .pointer (some ⟨rb, 0, none⟩)) rfl (by kernel_rfl) (by kernel_rfl) (by kernel_rfl) (fun _ _ _ h => h) (Or.inl ⟨by kernel_rfl, (fun w hSw => by (try dsimp only at hSw); obtain ⟨q0, q1, q2⟩ := hSw; (first | (go_simp; done) | (go_simp; with_reducible rfl)))⟩) (by assumption) ?_
    refine wpAnyH_take (i := 6) (v := .pointer (some ⟨rb, 0, none⟩)) rfl (by kernel_rfl) (by kernel_rfl) (by kernel_rfl) (fun _ _ _ h => h) (Or.inl ⟨by kernel_rfl, (fun w hSw => by (try dsimp only at hSw); obtain ⟨q0, q1, q2⟩ := hSw; (first | (go_simp; done) | (go_simp; with_reducible rfl)))⟩) (by assumption) ?_
    refine wpAnyH_take (i := 7) (v := .pointer (some ⟨rb, 0, none⟩)) rfl (by kernel_rfl) (by kernel_rfl) (by kernel_rfl) (fun _ _ _ h => h) (Or.inl ⟨by kernel_rfl, (fun w hSw => by (try dsimp only at hSw); obtain ⟨q0, q1, q2⟩ := hSw; (first | (go_simp; done) | (go_simp; with_reducible rfl)))⟩) (by assumption) ?_
    refine wpAnyH_take (i := 8) (v := .string ⟨s.toArray⟩) rfl (by kernel_rfl) (by kernel_rfl) (by kernel_rfl) (fun _ _ _ h => h) (Or.inl ⟨by kernel_rfl, (fun w hSw => by (try dsimp only at hSw); obtain ⟨q0, q1, q2⟩ := hSw; (first | (go_simp; done) | (go_simp; with_reducible rfl)))⟩) (by assumption) ?_
    refine wpAnyH_take (i := 9) (v := .pointer (some ⟨rb, 0, none⟩)) rfl (by kernel_rfl) (by kernel_rfl) (by kernel_rfl) (fun _ _ _ h => h) (Or.inl ⟨by kernel_rfl, (fun w hSw => by (try dsimp only at hSw); obtain ⟨q0, q1, q2⟩ := hSw; (first | (go_simp; done) | (go_simp; with_reducible rfl)))⟩) (by assumption) ?_
    refine wpAnyH_take (i := 10) (v := .pointer (some ⟨rb, 0, none⟩)) rfl (by kernel_rfl) (by kernel_rfl) (by kernel_rfl) (fun _ _ _ h => h) (Or.inl ⟨by kernel_rfl, (fun w hSw => by (try dsimp only at hSw); obtain ⟨q0, q1, q2⟩ := hSw; (first | (go_simp; done) | (go_simp; with_reducible rfl)))⟩) (by assumption) ?_
    refine wpAnyH_take (i := 11) (v := .pointer (some ⟨rb, 2, none⟩)) rfl (by kernel_rfl) (by kernel_rfl) (by kernel_rfl) (fun _ _ _ h => h) (Or.inl ⟨by kernel_rfl, (fun w hSw => by (try dsimp only at hSw); obtain ⟨q0, q1, q2⟩ := hSw; (first | (go_simp; done) | (go_simp; with_reducible rfl)))⟩) (by assumption) ?_
    refine wpAnyH_take (i := 12) (v := .int .i64 (b : Int)) rfl (by kernel_rfl) (by kernel_rfl) (by kernel_rfl) (fun _ _ _ h => h) (Or.inl ⟨by kernel_rfl, (fun w hSw => by (try dsimp only at hSw); obtain ⟨q0, q1, q2⟩ := hSw; (first | (go_simp; done) | (go_simp; with_reducible rfl)))⟩) (by assumption) ?_
    refine wpAnyH_take (i := 13) (v := .int .i64 (at_ : Int)) rfl (by kernel_rfl) (by kernel_rfl) (by kernel_rfl) (fun _ _ _ h => h) (Or.inl ⟨by kernel_rfl, (fun w hSw => by (try dsimp only at hSw); obtain ⟨q0, q1, q2⟩ := hSw; (first | (go_simp; done) | (go_simp; with_reducible rfl)))⟩) (by assumption) ?_
    refine wpAnyH_take (i := 14) (v := .string ⟨ws.toArray⟩) rfl (by kernel_rfl) (by kernel_rfl) (by kernel_rfl) (fun _ _ _ h => h) (Or.inl ⟨by kernel_rfl, (fun w hSw => by go_simp; rw [HX.out])⟩) (by assumption) ?_
    refine wpAnyH_take (i := 15) (v := .pointer (some ⟨rb, 0, none⟩)) rfl (by kernel_rfl) (by kernel_rfl) (by kernel_rfl) (fun _ _ _ h => h) (Or.inl ⟨by kernel_rfl, (fun w hSw => by (try dsimp only at hSw); obtain ⟨q0, q1, q2⟩ := hSw; (first | (go_simp; done) | (go_simp; with_reducible rfl)))⟩) (by assumption) ?_
    refine wpAnyH_take (i := 16) (v := .pointer (some ⟨rb, 0, none⟩)) rfl (by kernel_rfl) (by kernel_rfl) (by kernel_rfl) (fun _ _ _ h => h) (Or.inl ⟨by kernel_rfl, (fun w hSw => by (try dsimp only at hSw); obtain ⟨q0, q1, q2⟩ := hSw; (first | (go_simp; done) | (go_simp; with_reducible rfl)))⟩) (by assumption) ?_
    refine wpAnyH_take (i := 17) (v := .pointer (some ⟨rb, 1, none⟩)) rfl (by kernel_rfl) (by kernel_rfl) (by kernel_rfl) (fun _ _ _ h => h) (Or.inl ⟨by kernel_rfl, (fun w hSw => by (try dsimp only at hSw); obtain ⟨q0, q1, q2⟩ := hSw; (first | (go_simp; done) | (go_simp; with_reducible rfl)))⟩) (by assumption) ?_
    refine wpAnyH_take (i := 18) (v := .map (some ob)) rfl (by kernel_rfl) (by kernel_rfl) (by kernel_rfl) (fun _ _ _ h => h) (Or.inl ⟨by kernel_rfl, (fun w hSw => by (try dsimp only at hSw); obtain ⟨q0, q1, q2⟩ := hSw; (first | (go_simp; done) | (go_simp; with_reducible rfl)))⟩) (by assumption) ?_
    refine wpAnyH_ready (rs := [4, 19]) (by kernel_rfl) (by simp) ?_
    refine AllReadyH.cons rfl (fun K hK => ?_) (AllReadyH.cons rfl (fun K hK => ?_) AllReadyH.nil)
    · rw [if_pos (by kernel_rfl)]
      go_simp
      refine hK.out _ _ (by assumption) (fun hHeld => ?_)
      clear hK
      refine wpAnyH_ready (rs := [19]) (by kernel_rfl) (by simp) ?_
      refine AllReadyH.cons rfl (fun K hK => ?_) AllReadyH.nil
      rw [if_pos (by kernel_rfl)]
      go_simp
      refine HW.out.mono ?_
      rintro e w6 ⟨rfl, hb6⟩
      have H6 := Lib.hid (H.out.below (bt (bdrewL w) hb6))
      have HB6 : Hid (Below B w w6) := Lib.hid ((bt (bdrewL w) hb6).mono H.out.hBw)
      have HO6 := Lib.hid (row_below HOW.out (bt (bdrewL w) hb6))
      have hl6 := H6.out.lt
      clear y0 y1 y2 y3 y4 y5 y6 y7 y8 hHeld
      obtain ⟨⟨y0, y1, y2, y3, y4', y5, y6, y7, y8⟩, fz⟩ := H6.out.cells
      have y4 : w6.cell? ⟨rb, 4, none⟩ = some (.slice pw m cw) := by rw [HM.out]; exact y4'
      clear hb6 y4' fz
      refine hK.out _ _ ⟨y0, y1, y2⟩ (fun hHeld => ?_)
      clear hK
      refine wpAnyH_ready (rs := [20]) (by kernel_rfl) (by simp) ?_
      refine AllReadyH.cons rfl (fun K hK => ?_) AllReadyH.nil
      rw [if_pos (by kernel_rfl)]
      go_simp
      refine hK.out _ _ ?_ (fun hHeld => ?_)
      · exact ⟨(World.cell?_alloc_lt _ _ _ hl6).trans y0, (World.cell?_alloc_lt _ _ _ hl6).trans y1, (World.cell?_alloc_lt _ _ _ hl6).trans y2⟩
      clear hK
      refine wpAnyH_ready (rs := [21]) (by kernel_rfl) (by simp) ?_
      refine AllReadyH.cons rfl (fun K hK => ?_) AllReadyH.nil
      refine step_pushG (by rfl) _ _ (by rfl) B _ m _ (by rfl) (row_below HO6.out (below_one w6 _)) (some (.lab n)) _ (heap_alloc_new w6 _) (by rfl) (by have := HML.out; omega) (by have := H6.out.hBw; simp; omega) ?_
      intro g7 c7 w7 h1 h2
      have h7 := HPU.out w6 H6.out g7 c7 w7 h1 h2
      have hf7 := h7.1
      have H7 := Lib.hid h7.2.1
      have HB7 := Lib.hid (HB6.out.trans h7.2.2.1)
      have z0 := (h7.2.2.2 0).trans y0
      have z1 := (h7.2.2.2 1).trans y1
      have z2 := (h7.2.2.2 2).trans y2
      have z4 := (h7.2.2.2 4).trans y4
      clear h1 h2 h7 hHeld
      refine hK.out _ _ ⟨z0, z1, z2⟩ (fun hHeld => ?_)
      clear hK
      refine wpAnyH_take (i := 22) (v := .pointer (some ⟨rb, 0, none⟩)) rfl (by kernel_rfl) (by kernel_rfl) (by kernel_rfl) (fun _ _ _ h => h) (Or.inl ⟨by kernel_rfl, (fun w hSw => by (try dsimp only at hSw); obtain ⟨q0, q1, q2⟩ := hSw; (first | (go_simp; done) | (go_simp; with_reducible rfl)))⟩) (by assumption) ?_
      refine wpAnyH_take (i := 23) (v := .pointer (some ⟨rb, 4, none⟩)) rfl (by kernel_rfl) (by kernel_rfl) (by kernel_rfl) (fun _ _ _ h => h) (Or.inl ⟨by kernel_rfl, (fun w hSw => by (try dsimp only at hSw); obtain ⟨q0, q1, q2⟩ := hSw; (first | (go_simp; done) | (go_simp; with_reducible rfl)))⟩) (by assumption) ?_
      refine wpAnyH_ready (rs := [24]) (by kernel_rfl) (by simp) ?_
      refine AllReadyH.cons rfl (fun K hK => ?_) AllReadyH.nil
      rw [if_pos (by kernel_rfl)]
      go_simp
      refine hK.out _ _ ?_ (fun hHeld => ?_)
      · obtain ⟨⟨q0, q1, q2, _⟩, _⟩ := H7.out.cells
        exact ⟨q0, q1, q2⟩
      clear hK
      refine wpAnyH_done (by kernel_rfl) ?_ _
      go_simp
      go_wp2
      go_meet
      exact Lib.hid ⟨_, H7.out, HB7.out⟩
    · rw [if_pos (by kernel_rfl)]
      go_simp
      refine HW.out.mono ?_
      rintro e w6 ⟨rfl, hb6⟩
      have H6 := Lib.hid (H.out.below (bt (bdrewL w) hb6))
      have HB6 : Hid (Below B w w6) := Lib.hid ((bt (bdrewL w) hb6).mono H.out.hBw)
      have HO6 := Lib.hid (row_below HOW.out (bt (bdrewL w) hb6))
      have hl6 := H6.out.lt
      clear y0 y1 y2 y3 y4 y5 y6 y7 y8 hHeld
      obtain ⟨⟨y0, y1, y2, y3, y4', y5, y6, y7, y8⟩, fz⟩ := H6.out.cells
      have y4 : w6.cell? ⟨rb, 4, none⟩ = some (.slice pw m cw) := by rw [HM.out]; exact y4'
      clear hb6 y4' fz
      refine hK.out _ _ ⟨y0, y1, y2⟩ (fun hHeld => ?_)
      clear hK
      refine wpAnyH_ready (rs := [4, 20]) (by kernel_rfl) (by simp) ?_
      refine AllReadyH.cons rfl (fun K hK => ?_) (AllReadyH.cons rfl (fun K hK => ?_) AllReadyH.nil)
      · rw [if_pos (by kernel_rfl)]
        go_simp
        refine hK.out _ _ (by assumption) (fun hHeld => ?_)
        clear hK
        refine wpAnyH_ready (rs := [20]) (by kernel_rfl) (by simp) ?_
        refine AllReadyH.cons rfl (fun K hK => ?_) AllReadyH.nil
        rw [if_pos (by kernel_rfl)]
        go_simp
        refine hK.out _ _ ?_ (fun hHeld => ?_)
        · exact ⟨(World.cell?_alloc_lt _ _ _ hl6).trans y0, (World.cell?_alloc_lt _ _ _ hl6).trans y1, (World.cell?_alloc_lt _ _ _ hl6).trans y2⟩
        clear hK
        refine wpAnyH_ready (rs := [21]) (by kernel_rfl) (by simp) ?_
        refine AllReadyH.cons rfl (fun K hK => ?_) AllReadyH.nil
        refine step_pushG (by rfl) _ _ (by rfl) B _ m _ (by rfl) (row_below HO6.out (below_one w6 _)) (some (.lab n)) _ (heap_alloc_new w6 _) (by rfl) (by have := HML.out; omega) (by have := H6.out.hBw; simp; omega) ?_
        intro g7 c7 w7 h1 h2
        have h7 := HPU.out w6 H6.out g7 c7 w7 h1 h2
        have hf7 := h7.1
        have H7 := Lib.hid h7.2.1
        have HB7 := Lib.hid (HB6.out.trans h7.2.2.1)
        have z0 := (h7.2.2.2 0).trans y0
        have z1 := (h7.2.2.2 1).trans y1
        have z2 := (h7.2.2.2 2).trans y2
        have z4 := (h7.2.2.2 4).trans y4
        clear h1 h2 h7 hHeld
        refine hK.out _ _ ⟨z0, z1, z2⟩ (fun hHeld => ?_)
        clear hK
        refine wpAnyH_take (i := 22) (v := .pointer (some ⟨rb, 0, none⟩)) rfl (by kernel_rfl) (by kernel_rfl) (by kernel_rfl) (fun _ _ _ h => h) (Or.inl ⟨by kernel_rfl, (fun w hSw => by (try dsimp only at hSw); obtain ⟨q0, q1, q2⟩ := hSw; (first | (go_simp; done) | (go_simp; with_reducible rfl)))⟩) (by assumption) ?_
        refine wpAnyH_take (i := 23) (v := .pointer (some ⟨rb, 4, none⟩)) rfl (by kernel_rfl) (by kernel_rfl) (by kernel_rfl) (fun _ _ _ h => h) (Or.inl ⟨by kernel_rfl, (fun w hSw => by (try dsimp only at hSw); obtain ⟨q0, q1, q2⟩ := hSw; (first | (go_simp; done) | (go_simp; with_reducible rfl)))⟩) (by assumption) ?_
        refine wpAnyH_ready (rs := [24]) (by kernel_rfl) (by simp) ?_
        refine AllReadyH.cons rfl (fun K hK => ?_) AllReadyH.nil
        rw [if_pos (by kernel_rfl)]
        go_simp
        refine hK.out _ _ ?_ (fun hHeld => ?_)
        · obtain ⟨⟨q0, q1, q2, _⟩, _⟩ := H7.out.cells
          exact ⟨q0, q1, q2⟩
        clear hK
        refine wpAnyH_done (by kernel_rfl) ?_ _
        go_simp
        go_wp2
        go_meet
        exact Lib.hid ⟨_, H7.out, HB7.out⟩
      · rw [if_pos (by kernel_rfl)]
        go_simp
        refine hK.out _ _ ?_ (fun hHeld => ?_)
        · exact ⟨(World.cell?_alloc_lt _ _ _ hl6).trans y0, (World.cell?_alloc_lt _ _ _ hl6).trans y1, (World.cell?_alloc_lt _ _ _ hl6).trans y2⟩
        clear hK
        refine wpAnyH_ready (rs := [4]) (by kernel_rfl) (by simp) ?_
        refine AllReadyH.cons rfl (fun K hK => ?_) AllReadyH.nil
        rw [if_pos (by kernel_rfl)]
        have yy : (w6.alloc (.cells #[.iface 107 (.int .i64 n)] 20)).cell? ⟨rb, 4, none⟩ = _ := (World.cell?_alloc_lt _ _ _ hl6).trans y4
        go_simp
        refine hK.out _ _ (by assumption) (fun hHeld => ?_)
        clear hK yy
        refine wpAnyH_ready (rs := [21]) (by kernel_rfl) (by simp) ?_
        refine AllReadyH.cons rfl (fun K hK => ?_) AllReadyH.nil
        refine step_pushG (by rfl) _ _ (by rfl) B _ m _ (by rfl) (row_below HO6.out (below_one w6 _)) (some (.lab n)) _ (heap_alloc_new w6 _) (by rfl) (by have := HML.out; omega) (by have := H6.out.hBw; simp; omega) ?_
        intro g7 c7 w7 h1 h2
        have h7 := HPU.out w6 H6.out g7 c7 w7 h1 h2
        have hf7 := h7.1
        have H7 := Lib.hid h7.2.1
        have HB7 := Lib.hid (HB6.out.trans h7.2.2.1)
        have z0 := (h7.2.2.2 0).trans y0
        have z1 := (h7.2.2.2 1).trans y1
        have z2 := (h7.2.2.2 2).trans y2
        have z4 := (h7.2.2.2 4).trans y4
        clear h1 h2 h7 hHeld
        refine hK.out _ _ ⟨z0, z1, z2⟩ (fun hHeld => ?_)
        clear hK
        refine wpAnyH_take (i := 22) (v := .pointer (some ⟨rb, 0, none⟩)) rfl (by kernel_rfl) (by kernel_rfl) (by kernel_rfl) (fun _ _ _ h => h) (Or.inl ⟨by kernel_rfl, (fun w hSw => by (try dsimp only at hSw); obtain ⟨q0, q1, q2⟩ := hSw; (first | (go_simp; done) | (go_simp; with_reducible rfl)))⟩) (by assumption) ?_
        refine wpAnyH_take (i := 23) (v := .pointer (some ⟨rb, 4, none⟩)) rfl (by kernel_rfl) (by kernel_rfl) (by kernel_rfl) (fun _ _ _ h => h) (Or.inl ⟨by kernel_rfl, (fun w hSw => by (try dsimp only at hSw); obtain ⟨q0, q1, q2⟩ := hSw; (first | (go_simp; done) | (go_simp; with_reducible rfl)))⟩) (by assumption) ?_
        refine wpAnyH_ready (rs := [24]) (by kernel_rfl) (by simp) ?_
        refine AllReadyH.cons rfl (fun K hK => ?_) AllReadyH.nil
        rw [if_pos (by kernel_rfl)]
        go_simp
        refine hK.out _ _ ?_ (fun hHeld => ?_)
        · obtain ⟨⟨q0, q1, q2, _⟩, _⟩ := H7.out.cells
          exact ⟨q0, q1, q2⟩
        clear hK
        refine wpAnyH_done (by kernel_rfl) ?_ _
        go_simp
        go_wp2
        go_meet
        exact Lib.hid ⟨_, H7.out, HB7.out⟩
  case rest =>
    rename_i K hK
    refine hK _ _ ?_
    clear hK K
    obtain ⟨vq, hI⟩ := hcut.out
    clear hcut
    have HQ := Lib.hid (hI.1.set (bg' := -1) (r' := { r with cur := none, words := r.words ++ [(some (.lab n))] }) 2 (.int .i64 (-1)) rfl rfl rfl)
    have HBQ := Lib.hid hI.2
    clear y0 y1 y2 y3 y4 y5 y6 y7 y8
    obtain ⟨⟨y0, y1, y2, y3, y4, y5, y6, y7, y8⟩, fz⟩ := hI.1.cells
    have f2 := fz 2
    have hlt := hI.1.lt
    clear fz hI
    go_wp2
    go_end0
    rw [HE.out]
    exact ⟨rfl, _, _, HQ.out, HBQ.out.setCell (p := ⟨rb, 2, none⟩) hB _⟩
set_option maxHeartbeats 16000000 in
set_option maxRecDepth 100000 in
theorem endWord_mark_ (B rb ob at_ b : Nat) (s : List UInt8) (r : Rd) (vw vl : Value) (w : World) (h : RdR B rb ob s (b : Int) r vw vl w) (hba : b < at_) (has : at_ ≤ s.length) (hs : s.length ≤ 281474976710656) (ws : List UInt8) (hws : ws = (s.take at_).drop b) (n : Int) (hwp : wordP ws = (some (.mark n))) (hc : r.cur = some ws) (hm : r.words.length ≤ 402) :
    Calls Tryz.prog 99 #[.pointer (some ⟨rb, 0, none⟩), .int .i64 (at_ : Int)] w (RdPost B rb ob s (-1) (endW r) w) := by
  have HE : Hid (endW r = { r with cur := none, words := r.words ++ [(some (.mark n))] }) := Lib.hid (by unfold endW; rw [hc]; simp only; rw [if_pos hm, hwp])
  have HW := Lib.hid (wordOf_any ws (by rw [hws, List.length_drop, List.length_take]; omega) ob (World.drew w) (h.below (bdrewL w)).laid (h.below (bdrewL w)).ops)
  rw [hwp] at HW
  have HX : Hid ((⟨s.toArray⟩ : ByteArray).extract b at_ = ⟨ws.toArray⟩) := Lib.hid (by rw [ext_cut, hws])
  unfold WordPost wdV at HW
  have H := Lib.hid h
  have hB := h.hB
  obtain ⟨pw, cw, rfl⟩ := own_sl h.words
  obtain ⟨⟨y0, y1, y2, y3, y4, y5, y6, y7, y8⟩, fz⟩ := h.cells
  have hlt := h.lt
  obtain ⟨m, hmm⟩ : ∃ m, m = r.words.length := ⟨_, rfl⟩
  have HM := Lib.hid hmm
  rw [← hmm] at y4 hm
  have HOW : Hid (w.ownsRow B 20 1 (.slice pw m cw) m (r.words.map wdV)) := Lib.hid (by rw [hmm]; exact h.words)
  have m1 : (m : Int) ≤ 402 := by omega
  have m0 : (0 : Int) ≤ m := by omega
  have b0 : (0 : Int) ≤ b := by omega
  have b1 : ((b : Int) == -1) = false := by simp
  have b2 : ¬ ((b : Int) = -1) := by omega
  have a1 : (b : Int) ≤ at_ := by omega
  have hsz : (⟨s.toArray⟩ : ByteArray).size = s.length := by show s.toArray.size = _; simp
  have a2 : (at_ : Int) ≤ ((⟨s.toArray⟩ : ByteArray).size : Int) := by rw [hsz]; omega
  have a3 : (at_ : Int) ≤ (s.length : Int) := by omega
  have HML := Lib.hid hm
  have HPU : Hid (∀ w6, RdR B rb ob s (b : Int) r (.slice pw r.words.length cw) vl w6 → ∀ g7 c7 w7, w7.ownsRow B 20 1 (.slice (some ⟨g7, 0, none⟩) (m + 1) c7) (m + 1) (r.words.map wdV ++ [wdV (some (.mark n))]) → (w6.alloc (.cells #[.iface 103 (.int .i64 n)] 20)).grownBy w7 (Value.slice pw m cw).ownBlock → w7.frozen? ⟨rb, 4, none⟩ = false ∧ RdR B rb ob s (b : Int) { r with cur := none, words := r.words ++ [(some (.mark n))] } (.slice (some ⟨g7, 0, none⟩) (m + 1) c7) vl (w7.setCell ⟨rb, 4, none⟩ (.slice (some ⟨g7, 0, none⟩) (m + 1) c7)) ∧ Below B w6 (w7.setCell ⟨rb, 4, none⟩ (.slice (some ⟨g7, 0, none⟩) (m + 1) c7)) ∧ ∀ k, w7.cell? ⟨rb, k, none⟩ = w6.cell? ⟨rb, k, none⟩) := Lib.hid (by
    intro w6 h6 g7 c7 w7 h1 h2
    exact h6.pushed (.cells #[.iface 103 (.int .i64 n)] 20) (some (.mark n)) (by rw [← hmm]; exact h1) (by rw [← hmm]; exact h2) rfl rfl rfl)
  clear h hc hm hmm fz hws hsz hwp
  go_enter Tryz.func99, Tryz.ntmps99
  go_upto_region 2 with (fail)
  go_cut [] from 15 to 41 (fun wq => Hid (∃ vw, RdR B rb ob s (b : Int) { r with cur := none, words := r.words ++ [(some (.mark n))] } vw vl wq ∧ Below B w wq))
  case first =>
    refine wp_region_held_drew (S := (fun W => W.cell? ⟨rb, 0, none⟩ = some (.string ⟨s.toArray⟩) ∧ W.cell? ⟨rb, 1, none⟩ = some (.map (some ob)) ∧ W.cell? ⟨rb, 2, none⟩ = some (.int .i64 (b : Int)))) (by kernel_rfl) ⟨y0, y1, y2⟩ (fun hHeld => ?_)
    refine wpAnyH_take (i := 0) (v := .pointer (some ⟨rb, 0, none⟩)) rfl (by kernel_rfl) (by kernel_rfl) (by kernel_rfl) (fun _ _ _ h => h) (Or.inl ⟨by kernel_rfl, (fun w hSw => by (try dsimp only at hSw); obtain ⟨q0, q1, q2⟩ := hSw; (first | (go_simp; done) | (go_simp; with_reducible rfl)))⟩) (by assumption) ?_
    refine wpAnyH_take (i := 1) (v := .pointer (some ⟨rb, 0, none⟩)) rfl (by kernel_rfl) (by kernel_rfl) (by kernel_rfl) (fun _ _ _ h => h) (Or.inl ⟨by kernel_rfl, (fun w hSw => by (try dsimp only at hSw); obtain ⟨q0, q1, q2⟩ := hSw; (first | (go_simp; done) | (go_simp; with_reducible rfl)))⟩) (by assumption) ?_
    refine wpAnyH_take (i := 2) (v := .pointer (some ⟨rb, 0, none⟩)) rfl (by kernel_rfl) (by kernel_rfl) (by kernel_rfl) (fun _ _ _ h => h) (Or.inl ⟨by kernel_rfl, (fun w hSw => by (try dsimp only at hSw); obtain ⟨q0, q1, q2⟩ := hSw; (first | (go_simp; done) | (go_simp; with_reducible rfl)))⟩) (by assumption) ?_
    refine wpAnyH_take (i := 3) (v := .pointer (some ⟨rb, 4, none⟩)) rfl (by kernel_rfl) (by kernel_rfl) (by kernel_rfl) (fun _ _ _ h => h) (Or.inl ⟨by kernel_rfl, (fun w hSw => by (try dsimp only at hSw); obtain ⟨q0, q1, q2⟩ := hSw; (first | (go_simp; done) | (go_simp; with_reducible rfl)))⟩) (by assumption) ?_
    refine wpAnyH_take (i := 5) (v := .pointer (some ⟨rb, 0, none⟩)) rfl (by kernel_rfl) (by kernel_rfl) (by kernel_rfl) (fun _ _ _ h => h) (Or.inl ⟨by kernel_rfl, (fun w hSw => by (try dsimp only at hSw); obtain ⟨q0, q1, q2⟩ := hSw; (first | (go_simp; done) | (go_simp; with_reducible rfl)))⟩) (by assumption) ?_
    refine wpAnyH_take (i := 6) (v := .pointer (some ⟨rb, 0, none⟩)) rfl (by kernel_rfl) (by kernel_rfl) (by kernel_rfl) (fun _ _ _ h => h) (Or.inl ⟨by kernel_rfl, (fun w hSw => by (try dsimp only at hSw); obtain ⟨q0, q1, q2⟩ := hSw; (first | (go_simp; done) | (go_simp; with_reducible rfl)))⟩) (by assumption) ?_
    refine wpAnyH_take (i := 7) (v := .pointer (some ⟨rb, 0, none⟩)) rfl (by kernel_rfl) (by kernel_rfl) (by kernel_rfl) (fun _ _ _ h => h) (Or.inl ⟨by kernel_rfl, (fun w hSw => by (try dsimp only at hSw); obtain ⟨q0, q1, q2⟩ := hSw; (first | (go_simp; done) | (go_simp; with_reducible rfl)))⟩) (by assumption) ?_
    refine wpAnyH_take (i := 8) (v := .string ⟨s.toArray⟩) rfl (by kernel_rfl) (by kernel_rfl) (by kernel_rfl) (fun _ _ _ h => h) (Or.inl ⟨by kernel_rfl, (fun w hSw => by (try dsimp only at hSw); obtain ⟨q0, q1, q2⟩ := hSw; (first | (go_simp; done) | (go_simp; with_reducible rfl)))⟩) (by assumption) ?_
    refine wpAnyH_take (i := 9) (v := .pointer (some ⟨rb, 0, none⟩)) rfl (by kernel_rfl) (by kernel_rfl) (by kernel_rfl) (fun _ _ _ h => h) (Or.inl ⟨by kernel_rfl, (fun w hSw => by (try dsimp only at hSw); obtain ⟨q0, q1, q2⟩ := hSw; (first | (go_simp; done) | (go_simp; with_reducible rfl)))⟩) (by assumption) ?_
    refine wpAnyH_take (i := 10) (v := .pointer (some ⟨rb, 0, none⟩)) rfl (by kernel_rfl) (by kernel_rfl) (by kernel_rfl) (fun _ _ _ h => h) (Or.inl ⟨by kernel_rfl, (fun w hSw => by (try dsimp only at hSw); obtain ⟨q0, q1, q2⟩ := hSw; (first | (go_simp; done) | (go_simp; with_reducible rfl)))⟩) (by assumption) ?_
    refine wpAnyH_take (i := 11) (v := .pointer (some ⟨rb, 2, none⟩)) rfl (by kernel_rfl) (by kernel_rfl) (by kernel_rfl) (fun _ _ _ h => h) (Or.inl ⟨by kernel_rfl, (fun w hSw => by (try dsimp only at hSw); obtain ⟨q0, q1, q2⟩ := hSw; (first | (go_simp; done) | (go_simp; with_reducible rfl)))⟩) (by assumption) ?_
    refine wpAnyH_take (i := 12) (v := .int .i64 (b : Int)) rfl (by kernel_rfl) (by kernel_rfl) (by kernel_rfl) (fun _ _ _ h => h) (Or.inl ⟨by kernel_rfl, (fun w hSw => by (try dsimp only at hSw); obtain ⟨q0, q1, q2⟩ := hSw; (first | (go_simp; done) | (go_simp; with_reducible rfl)))⟩) (by assumption) ?_
    refine wpAnyH_take (i := 13) (v := .int .i64 (at_ : Int)) rfl (by kernel_rfl) (by kernel_rfl) (by kernel_rfl) (fun _ _ _ h => h) (Or.inl ⟨by kernel_rfl, (fun w hSw => by (try dsimp only at hSw); obtain ⟨q0, q1, q2⟩ := hSw; (first | (go_simp; done) | (go_simp; with_reducible rfl)))⟩) (by assumption) ?_
    refine wpAnyH_take (i := 14) (v := .string ⟨ws.toArray⟩) rfl (by kernel_rfl) (by kernel_rfl) (by kernel_rfl) (fun _ _ _ h => h) (Or.inl ⟨by kernel_rfl, (fun w hSw => by go_simp; rw [HX.out])⟩) (by assumption) ?_
    refine wpAnyH_take (i := 15) (v := .pointer (some ⟨rb, 0, none⟩)) rfl (by kernel_rfl) (by kernel_rfl) (by kernel_rfl) (fun _ _ _ h => h) (Or.inl ⟨by kernel_rfl, (fun w hSw => by (try dsimp only at hSw); obtain ⟨q0, q1, q2⟩ := hSw; (first | (go_simp; done) | (go_simp; with_reducible rfl)))⟩) (by assumption) ?_
    refine wpAnyH_take (i := 16) (v := .pointer (some ⟨rb, 0, none⟩)) rfl (by kernel_rfl) (by kernel_rfl) (by kernel_rfl) (fun _ _ _ h => h) (Or.inl ⟨by kernel_rfl, (fun w hSw => by (try dsimp only at hSw); obtain ⟨q0, q1, q2⟩ := hSw; (first | (go_simp; done) | (go_simp; with_reducible rfl)))⟩) (by assumption) ?_
    refine wpAnyH_take (i := 17) (v := .pointer (some ⟨rb, 1, none⟩)) rfl (by kernel_rfl) (by kernel_rfl) (by kernel_rfl) (fun _ _ _ h => h) (Or.inl ⟨by kernel_rfl, (fun w hSw => by (try dsimp only at hSw); obtain ⟨q0, q1, q2⟩ := hSw; (first | (go_simp; done) | (go_simp; with_reducible rfl)))⟩) (by assumption) ?_
    refine wpAnyH_take (i := 18) (v := .map (some ob)) rfl (by kernel_rfl) (by kernel_rfl) (by kernel_rfl) (fun _ _ _ h => h) (Or.inl ⟨by kernel_rfl, (fun w hSw => by (try dsimp only at hSw); obtain ⟨q0, q1, q2⟩ := hSw; (first | (go_simp; done) | (go_simp; with_reducible rfl)))⟩) (by assumption) ?_
    refine wpAnyH_ready (rs := [4, 19]) (by kernel_rfl) (by simp) ?_
    refine AllReadyH.cons rfl (fun K hK => ?_) (AllReadyH.cons rfl (fun K hK => ?_) AllReadyH.nil)
    · rw [if_pos (by kernel_rfl)]
      go_simp
      refine hK.out _ _ (by assumption) (fun hHeld => ?_)
      clear hK
      refine wpAnyH_ready (rs := [19]) (by kernel_rfl) (by simp) ?_
      refine AllReadyH.cons rfl (fun K hK => ?_) AllReadyH.nil
      rw [if_pos (by kernel_rfl)]
      go_simp
      refine HW.out.mono ?_
      rintro e w6 ⟨rfl, hb6⟩
      have H6 := Lib.hid (H.out.below (bt (bdrewL w) hb6))
      have HB6 : Hid (Below B w w6) := Lib.hid ((bt (bdrewL w) hb6).mono H.out.hBw)
      have HO6 := Lib.hid (row_below HOW.out (bt (bdrewL w) hb6))
      have hl6 := H6.out.lt
      clear y0 y1 y2 y3 y4 y5 y6 y7 y8 hHeld
      obtain ⟨⟨y0, y1, y2, y3, y4', y5, y6, y7, y8⟩, fz⟩ := H6.out.cells
      have y4 : w6.cell? ⟨rb, 4, none⟩ = some (.slice pw m cw) := by rw [HM.out]; exact y4'
      clear hb6 y4' fz
      refine hK.out _ _ ⟨y0, y1, y2⟩ (fun hHeld => ?_)
      clear hK
      refine wpAnyH_ready (rs := [20]) (by kernel_rfl) (by simp) ?_
      refine AllReadyH.cons rfl (fun K hK => ?_) AllReadyH.nil
      rw [if_pos (by kernel_rfl)]
      go_simp
      refine hK.out _ _ ?_ (fun hHeld => ?_)
      · exact ⟨(World.cell?_alloc_lt _ _ _ hl6).trans y0, (World.cell?_alloc_lt _ _ _ hl6).trans y1, (World.cell?_alloc_lt _ _ _ hl6).trans y2⟩
      clear hK
      refine wpAnyH_ready (rs := [21]) (by kernel_rfl) (by simp) ?_
      refine AllReadyH.cons rfl (fun K hK => ?_) AllReadyH.nil
      refine step_pushG (by rfl) _ _ (by rfl) B _ m _ (by rfl) (row_below HO6.out (below_one w6 _)) (some (.mark n)) _ (heap_alloc_new w6 _) (by rfl) (by have := HML.out; omega) (by have := H6.out.hBw; simp; omega) ?_
      intro g7 c7 w7 h1 h2
      have h7 := HPU.out w6 H6.out g7 c7 w7 h1 h2
      have hf7 := h7.1
      have H7 := Lib.hid h7.2.1
      have HB7 := Lib.hid (HB6.out.trans h7.2.2.1)
      have z0 := (h7.2.2.2 0).trans y0
      have z1 := (h7.2.2.2 1).trans y1
      have z2 := (h7.2.2.2 2).trans y2
      have z4 := (h7.2.2.2 4).trans y4
      clear h1 h2 h7 hHeld
      refine hK.out _ _ ⟨z0, z1, z2⟩ (fun hHeld => ?_)
      clear hK
      refine wpAnyH_take (i := 22) (v := .pointer (some ⟨rb, 0, none⟩)) rfl (by kernel_rfl) (by kernel_rfl) (by kernel_rfl) (fun _ _ _ h => h) (Or.inl ⟨by kernel_rfl, (fun w hSw => by (try dsimp only at hSw); obtain ⟨q0, q1, q2⟩ := hSw; (first | (go_simp; done) | (go_simp; with_reducible rfl)))⟩) (by assumption) ?_
      refine wpAnyH_take (i := 23) (v := .pointer (some ⟨rb, 4, none⟩)) rfl (by kernel_rfl) (by kernel_rfl) (by kernel_rfl) (fun _ _ _ h => h) (Or.inl ⟨by kernel_rfl, (fun w hSw => by (try dsimp only at hSw); obtain ⟨q0, q1, q2⟩ := hSw; (first | (go_simp; done) | (go_simp; with_reducible rfl)))⟩) (by assumption) ?_
      refine wpAnyH_ready (rs := [24]) (by kernel_rfl) (by simp) ?_
      refine AllReadyH.cons rfl (fun K hK => ?_) AllReadyH.nil
      rw [if_pos (by kernel_rfl)]
      go_simp
      refine hK.out _ _ ?_ (fun hHeld => ?_)
      · obtain ⟨⟨q0, q1, q2, _⟩, _⟩ := H7.out.cells
        exact ⟨q0, q1, q2⟩
      clear hK
      refine wpAnyH_done (by kernel_rfl) ?_ _
      go_simp
      go_wp2
      go_meet
      exact Lib.hid ⟨_, H7.out, HB7.out⟩
    · rw [if_pos (by kernel_rfl)]
      go_simp
      refine HW.out.mono ?_
      rintro e w6 ⟨rfl, hb6⟩
      have H6 := Lib.hid (H.out.below (bt (bdrewL w) hb6))
      have HB6 : Hid (Below B w w6) := Lib.hid ((bt (bdrewL w) hb6).mono H.out.hBw)
      have HO6 := Lib.hid (row_below HOW.out (bt (bdrewL w) hb6))
      have hl6 := H6.out.lt
      clear y0 y1 y2 y3 y4 y5 y6 y7 y8 hHeld
      obtain ⟨⟨y0, y1, y2, y3, y4', y5, y6, y7, y8⟩, fz⟩ := H6.out.cells
      have y4 : w6.cell? ⟨rb, 4, none⟩ = some (.slice pw m cw) := by rw [HM.out]; exact y4'
      clear hb6 y4' fz
      refine hK.out _ _ ⟨y0, y1, y2⟩ (fun hHeld => ?_)
      clear hK
      refine wpAnyH_ready (rs := [4, 20]) (by kernel_rfl) (by simp) ?_
      refine AllReadyH.cons rfl (fun K hK => ?_) (AllReadyH.cons rfl (fun K hK => ?_) AllReadyH.nil)
      · rw [if_pos (by kernel_rfl)]
        go_simp
        refine hK.out _ _ (by assumption) (fun hHeld => ?_)
        clear hK
        refine wpAnyH_ready (rs := [20]) (by kernel_rfl) (by simp) ?_
        refine AllReadyH.cons rfl (fun K hK => ?_) AllReadyH.nil
        rw [if_pos (by kernel_rfl)]
        go_simp
        refine hK.out _ _ ?_ (fun hHeld => ?_)
        · exact ⟨(World.cell?_alloc_lt _ _ _ hl6).trans y0, (World.cell?_alloc_lt _ _ _ hl6).trans y1, (World.cell?_alloc_lt _ _ _ hl6).trans y2⟩
        clear hK
        refine wpAnyH_ready (rs := [21]) (by kernel_rfl) (by simp) ?_
        refine AllReadyH.cons rfl (fun K hK => ?_) AllReadyH.nil
        refine step_pushG (by rfl) _ _ (by rfl) B _ m _ (by rfl) (row_below HO6.out (below_one w6 _)) (some (.mark n)) _ (heap_alloc_new w6 _) (by rfl) (by have := HML.out; omega) (by have := H6.out.hBw; simp; omega) ?_
        intro g7 c7 w7 h1 h2
        have h7 := HPU.out w6 H6.out g7 c7 w7 h1 h2
        have hf7 := h7.1
        have H7 := Lib.hid h7.2.1
        have HB7 := Lib.hid (HB6.out.trans h7.2.2.1)
        have z0 := (h7.2.2.2 0).trans y0
        have z1 := (h7.2.2.2 1).trans y1
        have z2 := (h7.2.2.2 2).trans y2
        have z4 := (h7.2.2.2 4).trans y4
        clear h1 h2 h7 hHeld
        refine hK.out _ _ ⟨z0, z1, z2⟩ (fun hHeld => ?_)
        clear hK
        refine wpAnyH_take (i := 22) (v := .pointer (some ⟨rb, 0, none⟩)) rfl (by kernel_rfl) (by kernel_rfl) (by kernel_rfl) (fun _ _ _ h => h) (Or.inl ⟨by kernel_rfl, (fun w hSw => by (try dsimp only at hSw); obtain ⟨q0, q1, q2⟩ := hSw; (first | (go_simp; done) | (go_simp; with_reducible rfl)))⟩) (by assumption) ?_
        refine wpAnyH_take (i := 23) (v := .pointer (some ⟨rb, 4, none⟩)) rfl (by kernel_rfl) (by kernel_rfl) (by kernel_rfl) (fun _ _ _ h => h) (Or.inl ⟨by kernel_rfl, (fun w hSw => by (try dsimp only at hSw); obtain ⟨q0, q1, q2⟩ := hSw; (first | (go_simp; done) | (go_simp; with_reducible rfl)))⟩) (by assumption) ?_
        refine wpAnyH_ready (rs := [24]) (by kernel_rfl) (by simp) ?_
        refine AllReadyH.cons rfl (fun K hK => ?_) AllReadyH.nil
        rw [if_pos (by kernel_rfl)]
        go_simp
        refine hK.out _ _ ?_ (fun hHeld => ?_)
        · obtain ⟨⟨q0, q1, q2, _⟩, _⟩ := H7.out.cells
          exact ⟨q0, q1, q2⟩
        clear hK
        refine wpAnyH_done (by kernel_rfl) ?_ _
        go_simp
        go_wp2
        go_meet
        exact Lib.hid ⟨_, H7.out, HB7.out⟩
      · rw [if_pos (by kernel_rfl)]
        go_simp
        refine hK.out _ _ ?_ (fun hHeld => ?_)
        · exact ⟨(World.cell?_alloc_lt _ _ _ hl6).trans y0, (World.cell?_alloc_lt _ _ _ hl6).trans y1, (World.cell?_alloc_lt _ _ _ hl6).trans y2⟩
        clear hK
        refine wpAnyH_ready (rs := [4]) (by kernel_rfl) (by simp) ?_
        refine AllReadyH.cons rfl (fun K hK => ?_) AllReadyH.nil
        rw [if_pos (by kernel_rfl)]
        have yy : (w6.alloc (.cells #[.iface 103 (.int .i64 n)] 20)).cell? ⟨rb, 4, none⟩ = _ := (World.cell?_alloc_lt _ _ _ hl6).trans y4
        go_simp
        refine hK.out _ _ (by assumption) (fun hHeld => ?_)
        clear hK yy
        refine wpAnyH_ready (rs := [21]) (by kernel_rfl) (by simp) ?_
        refine AllReadyH.cons rfl (fun K hK => ?_) AllReadyH.nil
        refine step_pushG (by rfl) _ _ (by rfl) B _ m _ (by rfl) (row_below HO6.out (below_one w6 _)) (some (.mark n)) _ (heap_alloc_new w6 _) (by rfl) (by have := HML.out; omega) (by have := H6.out.hBw; simp; omega) ?_
        intro g7 c7 w7 h1 h2
        have h7 := HPU.out w6 H6.out g7 c7 w7 h1 h2
        have hf7 := h7.1
        have H7 := Lib.hid h7.2.1
        have HB7 := Lib.hid (HB6.out.trans h7.2.2.1)
        have z0 := (h7.2.2.2 0).trans y0
        have z1 := (h7.2.2.2 1).trans y1
        have z2 := (h7.2.2.2 2).trans y2
        have z4 := (h7.2.2.2 4).trans y4
        clear h1 h2 h7 hHeld
        refine hK.out _ _ ⟨z0, z1, z2⟩ (fun hHeld => ?_)
        clear hK
        refine wpAnyH_take (i := 22) (v := .pointer (some ⟨rb, 0, none⟩)) rfl (by kernel_rfl) (by kernel_rfl) (by kernel_rfl) (fun _ _ _ h => h) (Or.inl ⟨by kernel_rfl, (fun w hSw => by (try dsimp only at hSw); obtain ⟨q0, q1, q2⟩ := hSw; (first | (go_simp; done) | (go_simp; with_reducible rfl)))⟩) (by assumption) ?_
        refine wpAnyH_take (i := 23) (v := .pointer (some ⟨rb, 4, none⟩)) rfl (by kernel_rfl) (by kernel_rfl) (by kernel_rfl) (fun _ _ _ h => h) (Or.inl ⟨by kernel_rfl, (fun w hSw => by (try dsimp only at hSw); obtain ⟨q0, q1, q2⟩ := hSw; (first | (go_simp; done) | (go_simp; with_reducible rfl)))⟩) (by assumption) ?_
        refine wpAnyH_ready (rs := [24]) (by kernel_rfl) (by simp) ?_
        refine AllReadyH.cons rfl (fun K hK => ?_) AllReadyH.nil
        rw [if_pos (by kernel_rfl)]
        go_simp
        refine hK.out _ _ ?_ (fun hHeld => ?_)
        · obtain ⟨⟨q0, q1, q2, _⟩, _⟩ := H7.out.cells
          exact ⟨q0, q1, q2⟩
        clear hK
        refine wpAnyH_done (by kernel_rfl) ?_ _
        go_simp
        go_wp2
        go_meet
        exact Lib.hid ⟨_, H7.out, HB7.out⟩
  case rest =>
    rename_i K hK
    refine hK _ _ ?_
    clear hK K
    obtain ⟨vq, hI⟩ := hcut.out
    clear hcut
    have HQ := Lib.hid (hI.1.set (bg' := -1) (r' := { r with cur := none, words := r.words ++ [(some (.mark n))] }) 2 (.int .i64 (-1)) rfl rfl rfl)
    have HBQ := Lib.hid hI.2
    clear y0 y1 y2 y3 y4 y5 y6 y7 y8
    obtain ⟨⟨y0, y1, y2, y3, y4, y5, y6, y7, y8⟩, fz⟩ := hI.1.cells
    have f2 := fz 2
    have hlt := hI.1.lt
    clear fz hI
    go_wp2
    go_end0
    rw [HE.out]
    exact ⟨rfl, _, _, HQ.out, HBQ.out.setCell (p := ⟨rb, 2, none⟩) hB _⟩
set_option maxHeartbeats 16000000 in
set_option maxRecDepth 100000 in
theorem endWord_num_ (B rb ob at_ b : Nat) (s : List UInt8) (r : Rd) (vw vl : Value) (w : World) (h : RdR B rb ob s (b : Int) r vw vl w) (hba : b < at_) (has : at_ ≤ s.length) (hs : s.length ≤ 281474976710656) (ws : List UInt8) (hws : ws = (s.take at_).drop b) (n : Int) (hwp : wordP ws = (some (.num n))) (hc : r.cur = some ws) (hm : r.words.length ≤ 402) :
    Calls Tryz.prog 99 #[.pointer (some ⟨rb, 0, none⟩), .int .i64 (at_ : Int)] w (RdPost B rb ob s (-1) (endW r) w) := by
  have HE : Hid (endW r = { r with cur := none, words := r.words ++ [(some (.num n))] }) := Lib.hid (by unfold endW; rw [hc]; simp only; rw [if_pos hm, hwp])
  have HW := Lib.hid (wordOf_any ws (by rw [hws, List.length_drop, List.length_take]; omega) ob (World.drew w) (h.below (bdrewL w)).laid (h.below (bdrewL w)).ops)
  rw [hwp] at HW
  have HX : Hid ((⟨s.toArray⟩ : ByteArray).extract b at_ = ⟨ws.toArray⟩) := Lib.hid (by rw [ext_cut, hws])
  unfold WordPost wdV at HW
  have H := Lib.hid h
  have hB := h.hB
  obtain ⟨pw, cw, rfl⟩ := own_sl h.words
  obtain ⟨⟨y0, y1, y2, y3, y4, y5, y6, y7, y8⟩, fz⟩ := h.cells
  have hlt := h.lt
  obtain ⟨m, hmm⟩ : ∃ m, m = r.words.length := ⟨_, rfl⟩
  have HM := Lib.hid hmm
  rw [← hmm] at y4 hm
  have HOW : Hid (w.ownsRow B 20 1 (.slice pw m cw) m (r.words.map wdV)) := Lib.hid (by rw [hmm]; exact h.words)
  have m1 : (m : Int) ≤ 402 := by omega
  have m0 : (0 : Int) ≤ m := by omega
  have b0 : (0 : Int) ≤ b := by omega
  have b1 : ((b : Int) == -1) = false := by simp
  have b2 : ¬ ((b : Int) = -1) := by omega
  have a1 : (b : Int) ≤ at_ := by omega
  have hsz : (⟨s.toArray⟩ : ByteArray).size = s.length := by show s.toArray.size = _; simp
  have a2 : (at_ : Int) ≤ ((⟨s.toArray⟩ : ByteArray).size : Int) := by rw [hsz]; omega
  have a3 : (at_ : Int) ≤ (s.length : Int) := by omega
  have HML := Lib.hid hm
  have HPU : Hid (∀ w6, RdR B rb ob s (b : Int) r (.slice pw r.words.length cw) vl w6 → ∀ g7 c7 w7, w7.ownsRow B 20 1 (.slice (some ⟨g7, 0, none⟩) (m + 1) c7) (m + 1) (r.words.map wdV ++ [wdV (some (.num n))]) → (w6.alloc (.cells #[.iface 105 (.int .i64 n)] 20)).grownBy w7 (Value.slice pw m cw).ownBlock → w7.frozen? ⟨rb, 4, none⟩ = false ∧ RdR B rb ob s (b : Int) { r with cur := none, words := r.words ++ [(some (.num n))] } (.slice (some ⟨g7, 0, none⟩) (m + 1) c7) vl (w7.setCell ⟨rb, 4, none⟩ (.slice (some ⟨g7, 0, none⟩) (m + 1) c7)) ∧ Below B w6 (w7.setCell ⟨rb, 4, none⟩ (.slice (some ⟨g7, 0, none⟩) (m + 1) c7)) ∧ ∀ k, w7.cell? ⟨rb, k, none⟩ = w6.cell? ⟨rb, k, none⟩) := Lib.hid (by
    intro w6 h6 g7 c7 w7 h1 h2
    exact h6.pushed (.cells #[.iface 105 (.int .i64 n)] 20) (some (.num n)) (by rw [← hmm]; exact h1) (by rw [← hmm]; exact h2) rfl rfl rfl)
  clear h hc hm hmm fz hws hsz hwp
  go_enter Tryz.func99, Tryz.ntmps99
  go_upto_region 2 with (fail)
  go_cut [] from 15 to 41 (fun wq => Hid (∃ vw, RdR B rb ob s (b : Int) { r with cur := none, words := r.words ++ [(some (.num n))] } vw vl wq ∧ Below B w wq))
  case first =>
    refine wp_region_held_drew (S := (fun W => W.cell? ⟨rb, 0, none⟩ = some (.string ⟨s.toArray⟩) ∧ W.cell? ⟨rb, 1, none⟩ = some (.map (some ob)) ∧ W.cell? ⟨rb, 2, none⟩ = some (.int .i64 (b : Int)))) (by kernel_rfl) ⟨y0, y1, y2⟩ (fun hHeld => ?_)
    refine wpAnyH_take (i := 0) (v := .pointer (some ⟨rb, 0, none⟩)) rfl (by kernel_rfl) (by kernel_rfl) (by kernel_rfl) (fun _ _ _ h => h) (Or.inl ⟨by kernel_rfl, (fun w hSw => by (try dsimp only at hSw); obtain ⟨q0, q1, q2⟩ := hSw; (first | (go_simp; done) | (go_simp; with_reducible rfl)))⟩) (by assumption) ?_
    refine wpAnyH_take (i := 1) (v := .pointer (some ⟨rb, 0, none⟩)) rfl (by kernel_rfl) (by kernel_rfl) (by kernel_rfl) (fun _ _ _ h => h) (Or.inl ⟨by kernel_rfl, (fun w hSw => by (try dsimp only at hSw); obtain ⟨q0, q1, q2⟩ := hSw; (first | (go_simp; done) | (go_simp; with_reducible rfl)))⟩) (by assumption) ?_
    refine wpAnyH_take (i := 2) (v := .pointer (some ⟨rb, 0, none⟩)) rfl (by kernel_rfl) (by kernel_rfl) (by kernel_rfl) (fun _ _ _ h => h) (Or.inl ⟨by kernel_rfl, (fun w hSw => by (try dsimp only at hSw); obtain ⟨q0, q1, q2⟩ := hSw; (first | (go_simp; done) | (go_simp; with_reducible rfl)))⟩) (by assumption) ?_
    refine wpAnyH_take (i := 3) (v := .pointer (some ⟨rb, 4, none⟩)) rfl (by kernel_rfl) (by kernel_rfl) (by kernel_rfl) (fun _ _ _ h => h) (Or.inl ⟨by kernel_rfl, (fun w hSw => by (try dsimp only at hSw); obtain ⟨q0, q1, q2⟩ := hSw; (first | (go_simp; done) | (go_simp; with_reducible rfl)))⟩) (by assumption) ?_
    refine wpAnyH_take (i := 5) (v := .pointer (some ⟨rb, 0, none⟩)) rfl (by kernel_rfl) (by kernel_rfl) (by kernel_rfl) (fun _ _ _ h => h) (Or.inl ⟨by kernel_rfl, (fun w hSw => by (try dsimp only at hSw); obtain ⟨q0, q1, q2⟩ := hSw; (first | (go_simp; done) | (go_simp; with_reducible rfl)))⟩) (by assumption) ?_
    refine wpAnyH_take (i := 6) (v := .pointer (some ⟨rb, 0, none⟩)) rfl (by kernel_rfl) (by kernel_rfl) (by kernel_rfl) (fun _ _ _ h => h) (Or.inl ⟨by kernel_rfl, (fun w hSw => by (try dsimp only at hSw); obtain ⟨q0, q1, q2⟩ := hSw; (first | (go_simp; done) | (go_simp; with_reducible rfl)))⟩) (by assumption) ?_
    refine wpAnyH_take (i := 7) (v := .pointer (some ⟨rb, 0, none⟩)) rfl (by kernel_rfl) (by kernel_rfl) (by kernel_rfl) (fun _ _ _ h => h) (Or.inl ⟨by kernel_rfl, (fun w hSw => by (try dsimp only at hSw); obtain ⟨q0, q1, q2⟩ := hSw; (first | (go_simp; done) | (go_simp; with_reducible rfl)))⟩) (by assumption) ?_
    refine wpAnyH_take (i := 8) (v := .string ⟨s.toArray⟩) rfl (by kernel_rfl) (by kernel_rfl) (by kernel_rfl) (fun _ _ _ h => h) (Or.inl ⟨by kernel_rfl, (fun w hSw => by (try dsimp only at hSw); obtain ⟨q0, q1, q2⟩ := hSw; (first | (go_simp; done) | (go_simp; with_reducible rfl)))⟩) (by assumption) ?_
    refine wpAnyH_take (i := 9) (v := .pointer (some ⟨rb, 0, none⟩)) rfl (by kernel_rfl) (by kernel_rfl) (by kernel_rfl) (fun _ _ _ h => h) (Or.inl ⟨by kernel_rfl, (fun w hSw => by (try dsimp only at hSw); obtain ⟨q0, q1, q2⟩ := hSw; (first | (go_simp; done) | (go_simp; with_reducible rfl)))⟩) (by assumption) ?_
    refine wpAnyH_take (i := 10) (v := .pointer (some ⟨rb, 0, none⟩)) rfl (by kernel_rfl) (by kernel_rfl) (by kernel_rfl) (fun _ _ _ h => h) (Or.inl ⟨by kernel_rfl, (fun w hSw => by (try dsimp only at hSw); obtain ⟨q0, q1, q2⟩ := hSw; (first | (go_simp; done) | (go_simp; with_reducible rfl)))⟩) (by assumption) ?_
    refine wpAnyH_take (i := 11) (v := .pointer (some ⟨rb, 2, none⟩)) rfl (by kernel_rfl) (by kernel_rfl) (by kernel_rfl) (fun _ _ _ h => h) (Or.inl ⟨by kernel_rfl, (fun w hSw => by (try dsimp only at hSw); obtain ⟨q0, q1, q2⟩ := hSw; (first | (go_simp; done) | (go_simp; with_reducible rfl)))⟩) (by assumption) ?_
    refine wpAnyH_take (i := 12) (v := .int .i64 (b : Int)) rfl (by kernel_rfl) (by kernel_rfl) (by kernel_rfl) (fun _ _ _ h => h) (Or.inl ⟨by kernel_rfl, (fun w hSw => by (try dsimp only at hSw); obtain ⟨q0, q1, q2⟩ := hSw; (first | (go_simp; done) | (go_simp; with_reducible rfl)))⟩) (by assumption) ?_
    refine wpAnyH_take (i := 13) (v := .int .i64 (at_ : Int)) rfl (by kernel_rfl) (by kernel_rfl) (by kernel_rfl) (fun _ _ _ h => h) (Or.inl ⟨by kernel_rfl, (fun w hSw => by (try dsimp only at hSw); obtain ⟨q0, q1, q2⟩ := hSw; (first | (go_simp; done) | (go_simp; with_reducible rfl)))⟩) (by assumption) ?_
    refine wpAnyH_take (i := 14) (v := .string ⟨ws.toArray⟩) rfl (by kernel_rfl) (by kernel_rfl) (by kernel_rfl) (fun _ _ _ h => h) (Or.inl ⟨by kernel_rfl, (fun w hSw => by go_simp; rw [HX.out])⟩) (by assumption) ?_
    refine wpAnyH_take (i := 15) (v := .pointer (some ⟨rb, 0, none⟩)) rfl (by kernel_rfl) (by kernel_rfl) (by kernel_rfl) (fun _ _ _ h => h) (Or.inl ⟨by kernel_rfl, (fun w hSw => by (try dsimp only at hSw); obtain ⟨q0, q1, q2⟩ := hSw; (first | (go_simp; done) | (go_simp; with_reducible rfl)))⟩) (by assumption) ?_
    refine wpAnyH_take (i := 16) (v := .pointer (some ⟨rb, 0, none⟩)) rfl (by kernel_rfl) (by kernel_rfl) (by kernel_rfl) (fun _ _ _ h => h) (Or.inl ⟨by kernel_rfl, (fun w hSw => by (try dsimp only at hSw); obtain ⟨q0, q1, q2⟩ := hSw; (first | (go_simp; done) | (go_simp; with_reducible rfl)))⟩) (by assumption) ?_
    refine wpAnyH_take (i := 17) (v := .pointer (some ⟨rb, 1, none⟩)) rfl (by kernel_rfl) (by kernel_rfl) (by kernel_rfl) (fun _ _ _ h => h) (Or.inl ⟨by kernel_rfl, (fun w hSw => by (try dsimp only at hSw); obtain ⟨q0, q1, q2⟩ := hSw; (first | (go_simp; done) | (go_simp; with_reducible rfl)))⟩) (by assumption) ?_
    refine wpAnyH_take (i := 18) (v := .map (some ob)) rfl (by kernel_rfl) (by kernel_rfl) (by kernel_rfl) (fun _ _ _ h => h) (Or.inl ⟨by kernel_rfl, (fun w hSw => by (try dsimp only at hSw); obtain ⟨q0, q1, q2⟩ := hSw; (first | (go_simp; done) | (go_simp; with_reducible rfl)))⟩) (by assumption) ?_
    refine wpAnyH_ready (rs := [4, 19]) (by kernel_rfl) (by simp) ?_
    refine AllReadyH.cons rfl (fun K hK => ?_) (AllReadyH.cons rfl (fun K hK => ?_) AllReadyH.nil)
    · rw [if_pos (by kernel_rfl)]
      go_simp
      refine hK.out _ _ (by assumption) (fun hHeld => ?_)
      clear hK
      refine wpAnyH_ready (rs := [19]) (by kernel_rfl) (by simp) ?_
      refine AllReadyH.cons rfl (fun K hK => ?_) AllReadyH.nil
      rw [if_pos (by kernel_rfl)]
      go_simp
      refine HW.out.mono ?_
      rintro e w6 ⟨rfl, hb6⟩
      have H6 := Lib.hid (H.out.below (bt (bdrewL w) hb6))
      have HB6 : Hid (Below B w w6) := Lib.hid ((bt (bdrewL w) hb6).mono H.out.hBw)
      have HO6 := Lib.hid (row_below HOW.out (bt (bdrewL w) hb6))
      have hl6 := H6.out.lt
      clear y0 y1 y2 y3 y4 y5 y6 y7 y8 hHeld
      obtain ⟨⟨y0, y1, y2, y3, y4', y5, y6, y7, y8⟩, fz⟩ := H6.out.cells
      have y4 : w6.cell? ⟨rb, 4, none⟩ = some (.slice pw m cw) := by rw [HM.out]; exact y4'
      clear hb6 y4' fz
      refine hK.out _ _ ⟨y0, y1, y2⟩ (fun hHeld => ?_)
      clear hK
      refine wpAnyH_ready (rs := [20]) (by kernel_rfl) (by simp) ?_
      refine AllReadyH.cons rfl (fun K hK => ?_) AllReadyH.nil
      rw [if_pos (by kernel_rfl)]
      go_simp
      refine hK.out _ _ ?_ (fun hHeld => ?_)
      · exact ⟨(World.cell?_alloc_lt _ _ _ hl6).trans y0, (World.cell?_alloc_lt _ _ _ hl6).trans y1, (World.cell?_alloc_lt _ _ _ hl6).trans y2⟩
      clear hK
      refine wpAnyH_ready (rs := [21]) (by kernel_rfl) (by simp) ?_
      refine AllReadyH.cons rfl (fun K hK => ?_) AllReadyH.nil
      refine step_pushG (by rfl) _ _ (by rfl) B _ m _ (by rfl) (row_below HO6.out (below_one w6 _)) (some (.num n)) _ (heap_alloc_new w6 _) (by rfl) (by have := HML.out; omega) (by have := H6.out.hBw; simp; omega) ?_
      intro g7 c7 w7 h1 h2
      have h7 := HPU.out w6 H6.out g7 c7 w7 h1 h2
      have hf7 := h7.1
      have H7 := Lib.hid h7.2.1
      have HB7 := Lib.hid (HB6.out.trans h7.2.2.1)
      have z0 := (h7.2.2.2 0).trans y0
      have z1 := (h7.2.2.2 1).trans y1
      have z2 := (h7.2.2.2 2).trans y2
      have z4 := (h7.2.2.2 4).trans y4
      clear h1 h2 h7 hHeld
      refine hK.out _ _ ⟨z0, z1, z2⟩ (fun hHeld => ?_)
      clear hK
      refine wpAnyH_take (i := 22) (v := .pointer (some ⟨rb, 0, none⟩)) rfl (by kernel_rfl) (by kernel_rfl) (by kernel_rfl) (fun _ _ _ h => h) (Or.inl ⟨by kernel_rfl, (fun w hSw => by (try dsimp only at hSw); obtain ⟨q0, q1, q2⟩ := hSw; (first | (go_simp; done) | (go_simp; with_reducible rfl)))⟩) (by assumption) ?_
      refine wpAnyH_take (i := 23) (v := .pointer (some ⟨rb, 4, none⟩)) rfl (by kernel_rfl) (by kernel_rfl) (by kernel_rfl) (fun _ _ _ h => h) (Or.inl ⟨by kernel_rfl, (fun w hSw => by (try dsimp only at hSw); obtain ⟨q0, q1, q2⟩ := hSw; (first | (go_simp; done) | (go_simp; with_reducible rfl)))⟩) (by assumption) ?_
      refine wpAnyH_ready (rs := [24]) (by kernel_rfl) (by simp) ?_
      refine AllReadyH.cons rfl (fun K hK => ?_) AllReadyH.nil
      rw [if_pos (by kernel_rfl)]
      go_simp
      refine hK.out _ _ ?_ (fun hHeld => ?_)
      · obtain ⟨⟨q0, q1, q2, _⟩, _⟩ := H7.out.cells
        exact ⟨q0, q1, q2⟩
      clear hK
      refine wpAnyH_done (by kernel_rfl) ?_ _
      go_simp
      go_wp2
      go_meet
      exact Lib.hid ⟨_, H7.out, HB7.out⟩
    · rw [if_pos (by kernel_rfl)]
      go_simp
      refine HW.out.mono ?_
      rintro e w6 ⟨rfl, hb6⟩
      have H6 := Lib.hid (H.out.below (bt (bdrewL w) hb6))
      have HB6 : Hid (Below B w w6) := Lib.hid ((bt (bdrewL w) hb6).mono H.out.hBw)
      have HO6 := Lib.hid (row_below HOW.out (bt (bdrewL w) hb6))
      have hl6 := H6.out.lt
      clear y0 y1 y2 y3 y4 y5 y6 y7 y8 hHeld
      obtain ⟨⟨y0, y1, y2, y3, y4', y5, y6, y7, y8⟩, fz⟩ := H6.out.cells
      have y4 : w6.cell? ⟨rb, 4, none⟩ = some (.slice pw m cw) := by rw [HM.out]; exact y4'
      clear hb6 y4' fz
      refine hK.out _ _ ⟨y0, y1, y2⟩ (fun hHeld => ?_)
      clear hK
      refine wpAnyH_ready (rs := [4, 20]) (by kernel_rfl) (by simp) ?_
      refine AllReadyH.cons rfl (fun K hK => ?_) (AllReadyH.cons rfl (fun K hK => ?_) AllReadyH.nil)
      · rw [if_pos (by kernel_rfl)]
        go_simp
        refine hK.out _ _ (by assumption) (fun hHeld => ?_)
        clear hK
        refine wpAnyH_ready (rs := [20]) (by kernel_rfl) (by simp) ?_
        refine AllReadyH.cons rfl (fun K hK => ?_) AllReadyH.nil
        rw [if_pos (by kernel_rfl)]
        go_simp
        refine hK.out _ _ ?_ (fun hHeld => ?_)
        · exact ⟨(World.cell?_alloc_lt _ _ _ hl6).trans y0, (World.cell?_alloc_lt _ _ _ hl6).trans y1, (World.cell?_alloc_lt _ _ _ hl6).trans y2⟩
        clear hK
        refine wpAnyH_ready (rs := [21]) (by kernel_rfl) (by simp) ?_
        refine AllReadyH.cons rfl (fun K hK => ?_) AllReadyH.nil
        refine step_pushG (by rfl) _ _ (by rfl) B _ m _ (by rfl) (row_below HO6.out (below_one w6 _)) (some (.num n)) _ (heap_alloc_new w6 _) (by rfl) (by have := HML.out; omega) (by have := H6.out.hBw; simp; omega) ?_
        intro g7 c7 w7 h1 h2
        have h7 := HPU.out w6 H6.out g7 c7 w7 h1 h2
        have hf7 := h7.1
        have H7 := Lib.hid h7.2.1
        have HB7 := Lib.hid (HB6.out.trans h7.2.2.1)
        have z0 := (h7.2.2.2 0).trans y0
        have z1 := (h7.2.2.2 1).trans y1
        have z2 := (h7.2.2.2 2).trans y2
        have z4 := (h7.2.2.2 4).trans y4
        clear h1 h2 h7 hHeld
        refine hK.out _ _ ⟨z0, z1, z2⟩ (fun hHeld => ?_)
        clear hK
        refine wpAnyH_take (i := 22) (v := .pointer (some ⟨rb, 0, none⟩)) rfl (by kernel_rfl) (by kernel_rfl) (by kernel_rfl) (fun _ _ _ h => h) (Or.inl ⟨by kernel_rfl, (fun w hSw => by (try dsimp only at hSw); obtain ⟨q0, q1, q2⟩ := hSw; (first | (go_simp; done) | (go_simp; with_reducible rfl)))⟩) (by assumption) ?_
        refine wpAnyH_take (i := 23) (v := .pointer (some ⟨rb, 4, none⟩)) rfl (by kernel_rfl) (by kernel_rfl) (by kernel_rfl) (fun _ _ _ h => h) (Or.inl ⟨by kernel_rfl, (fun w hSw => by (try dsimp only at hSw); obtain ⟨q0, q1, q2⟩ := hSw; (first | (go_simp; done) | (go_simp; with_reducible rfl)))⟩) (by assumption) ?_
        refine wpAnyH_ready (rs := [24]) (by kernel_rfl) (by simp) ?_
        refine AllReadyH.cons rfl (fun K hK => ?_) AllReadyH.nil
        rw [if_pos (by kernel_rfl)]
        go_simp
        refine hK.out _ _ ?_ (fun hHeld => ?_)
        · obtain ⟨⟨q0, q1, q2, _⟩, _⟩ := H7.out.cells
          exact ⟨q0, q1, q2⟩
        clear hK
        refine wpAnyH_done (by kernel_rfl) ?_ _
        go_simp
        go_wp2
        go_meet
        exact Lib.hid ⟨_, H7.out, HB7.out⟩
      · rw [if_pos (by kernel_rfl)]
        go_simp
        refine hK.out _ _ ?_ (fun hHeld => ?_)
        · exact ⟨(World.cell?_alloc_lt _ _ _ hl6).trans y0, (World.cell?_alloc_lt _ _ _ hl6).trans y1, (World.cell?_alloc_lt _ _ _ hl6).trans y2⟩
        clear hK
        refine wpAnyH_ready (rs := [4]) (by kernel_rfl) (by simp) ?_
        refine AllReadyH.cons rfl (fun K hK => ?_) AllReadyH.nil
        rw [if_pos (by kernel_rfl)]
        have yy : (w6.alloc (.cells #[.iface 105 (.int .i64 n)] 20)).cell? ⟨rb, 4, none⟩ = _ := (World.cell?_alloc_lt _ _ _ hl6).trans y4
        go_simp
        refine hK.out _ _ (by assumption) (fun hHeld => ?_)
        clear hK yy
        refine wpAnyH_ready (rs := [21]) (by kernel_rfl) (by simp) ?_
        refine AllReadyH.cons rfl (fun K hK => ?_) AllReadyH.nil
        refine step_pushG (by rfl) _ _ (by rfl) B _ m _ (by rfl) (row_below HO6.out (below_one w6 _)) (some (.num n)) _ (heap_alloc_new w6 _) (by rfl) (by have := HML.out; omega) (by have := H6.out.hBw; simp; omega) ?_
        intro g7 c7 w7 h1 h2
        have h7 := HPU.out w6 H6.out g7 c7 w7 h1 h2
        have hf7 := h7.1
        have H7 := Lib.hid h7.2.1
        have HB7 := Lib.hid (HB6.out.trans h7.2.2.1)
        have z0 := (h7.2.2.2 0).trans y0
        have z1 := (h7.2.2.2 1).trans y1
        have z2 := (h7.2.2.2 2).trans y2
        have z4 := (h7.2.2.2 4).trans y4
        clear h1 h2 h7 hHeld
        refine hK.out _ _ ⟨z0, z1, z2⟩ (fun hHeld => ?_)
        clear hK
        refine wpAnyH_take (i := 22) (v := .pointer (some ⟨rb, 0, none⟩)) rfl (by kernel_rfl) (by kernel_rfl) (by kernel_rfl) (fun _ _ _ h => h) (Or.inl ⟨by kernel_rfl, (fun w hSw => by (try dsimp only at hSw); obtain ⟨q0, q1, q2⟩ := hSw; (first | (go_simp; done) | (go_simp; with_reducible rfl)))⟩) (by assumption) ?_
        refine wpAnyH_take (i := 23) (v := .pointer (some ⟨rb, 4, none⟩)) rfl (by kernel_rfl) (by kernel_rfl) (by kernel_rfl) (fun _ _ _ h => h) (Or.inl ⟨by kernel_rfl, (fun w hSw => by (try dsimp only at hSw); obtain ⟨q0, q1, q2⟩ := hSw; (first | (go_simp; done) | (go_simp; with_reducible rfl)))⟩) (by assumption) ?_
        refine wpAnyH_ready (rs := [24]) (by kernel_rfl) (by simp) ?_
        refine AllReadyH.cons rfl (fun K hK => ?_) AllReadyH.nil
        rw [if_pos (by kernel_rfl)]
        go_simp
        refine hK.out _ _ ?_ (fun hHeld => ?_)
        · obtain ⟨⟨q0, q1, q2, _⟩, _⟩ := H7.out.cells
          exact ⟨q0, q1, q2⟩
        clear hK
        refine wpAnyH_done (by kernel_rfl) ?_ _
        go_simp
        go_wp2
        go_meet
        exact Lib.hid ⟨_, H7.out, HB7.out⟩
  case rest =>
    rename_i K hK
    refine hK _ _ ?_
    clear hK K
    obtain ⟨vq, hI⟩ := hcut.out
    clear hcut
    have HQ := Lib.hid (hI.1.set (bg' := -1) (r' := { r with cur := none, words := r.words ++ [(some (.num n))] }) 2 (.int .i64 (-1)) rfl rfl rfl)
    have HBQ := Lib.hid hI.2
    clear y0 y1 y2 y3 y4 y5 y6 y7 y8
    obtain ⟨⟨y0, y1, y2, y3, y4, y5, y6, y7, y8⟩, fz⟩ := hI.1.cells
    have f2 := fz 2
    have hlt := hI.1.lt
    clear fz hI
    go_wp2
    go_end0
    rw [HE.out]
    exact ⟨rfl, _, _, HQ.out, HBQ.out.setCell (p := ⟨rb, 2, none⟩) hB _⟩
theorem endWord_any (B rb ob at_ : Nat) (bg : Int) (s : List UInt8) (r : Rd) (vw vl : Value) (w : World) (h : RdR B rb ob s bg r vw vl w) (hb : BegR s at_ r.cur bg) (has : at_ ≤ s.length) (hs : s.length ≤ 281474976710656) (hm9 : r.words.length ≤ 403) :
    Calls Tryz.prog 99 #[.pointer (some ⟨rb, 0, none⟩), .int .i64 (at_ : Int)] w (RdPost B rb ob s (-1) (endW r) w) := by
  rcases hb with ⟨hc, rfl⟩ | ⟨b, hba, hc, rfl⟩
  · exact endWord_none B rb ob at_ s r vw vl w h hc
  · by_cases hm : r.words.length ≤ 402
    · rcases hw : wordP ((s.take at_).drop b) with _ | (n | n | n | n | n)
      · exact endWord_none_ B rb ob at_ b s r vw vl w h hba has hs _ rfl hw hc hm
      · exact endWord_name_ B rb ob at_ b s r vw vl w h hba has hs _ rfl n hw hc hm
      · exact endWord_reg_ B rb ob at_ b s r vw vl w h hba has hs _ rfl n hw hc hm
      · exact endWord_lab_ B rb ob at_ b s r vw vl w h hba has hs _ rfl n hw hc hm
      · exact endWord_mark_ B rb ob at_ b s r vw vl w h hba has hs _ rfl n hw hc hm
      · exact endWord_num_ B rb ob at_ b s r vw vl w h hba has hs _ rfl n hw hc hm
    · exact endWord_many B rb ob at_ b s r vw vl w h _ hc hm hm9
end Go.Proofs.YthojmbljlehpbaaGreatDoor.Lists
