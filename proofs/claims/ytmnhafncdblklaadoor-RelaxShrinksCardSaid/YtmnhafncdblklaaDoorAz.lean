/- The program's assembler does what the document asks. No condition but that the table of forms lies as the program lays it. -/
import Derived.Test.YtmnhafncdblklaaDoorAy
import Derived.Deep.RegionHeld3
namespace Go.Proofs.YtmnhafncdblklaaDoor.Relax
open Go.RowKit Go.Proofs.YtmnhafncdblklaaDoor.Enc Go.Proofs.YtmnhafncdblklaaDoor.Graph

theorem asm_empty (w : World) : AsmR w noAsm (.slice none 0 0) (.slice none 0 0) (.slice none 0 0) := ⟨.inl ⟨rfl, _, _, rfl⟩, .inl ⟨rfl, _, _, rfl⟩, .inl ⟨rfl, _, _, rfl⟩⟩
theorem AsmPost.no {l : List PL} {w w' : World} {line er : Int} (h : asmP l = (noAsm, line, er)) (hb : Below w.heap.size w w') :
    AsmPost l w (.returned (.tuple #[.agg #[.slice none 0 0, .slice none 0 0, .slice none 0 0, .int .i64 0], .int .i64 line, .int .i64 er])) w' :=
  ⟨noAsm, line, er, h, _, _, _, rfl, asm_empty w', hb⟩
theorem ref_long {l : List PL} (h : 60000 < l.length) : asmP l = (noAsm, 0, 2) := by
  have : refusedP l = (0, 2) := by unfold refusedP; rw [if_pos h]
  unfold asmP; rw [this]; rfl
theorem lineErr_ne {l : List PL} {i : Nat} {er : Int} (h : firstErr (lineErr l) 0 l.length = some (i, er)) : er ≠ 0 := by
  have := firstErr_some h
  rw [this.2.2.1]; exact this.2.2.2
theorem ref_line {l : List PL} (h0 : l.length ≤ 60000) {i : Nat} {er : Int} (h : firstErr (lineErr l) 0 l.length = some (i, er)) : asmP l = (noAsm, (i : Int), er) := by
  have h1 : refusedP l = ((i : Int), er) := by unfold refusedP; rw [if_neg (by omega), h]
  unfold asmP; rw [h1, if_neg (by exact lineErr_ne h)]
theorem ref_lab {l : List PL} (h0 : l.length ≤ 60000) (h : firstErr (lineErr l) 0 l.length = none) {i : Nat} {er : Int} (h2 : firstErr (labErr l) 0 l.length = some (i, er)) (he : er = 173) : asmP l = (noAsm, (i : Int), 173) := by
  have h1 : refusedP l = ((i : Int), er) := by unfold refusedP; rw [if_neg (by omega), h]; simp only [h2]
  unfold asmP; rw [h1, if_neg (by simp [he]), he]
theorem ref_ok {l : List PL} (h0 : l.length ≤ 60000) (h : firstErr (lineErr l) 0 l.length = none) (h2 : firstErr (labErr l) 0 l.length = none) : (refusedP l).2 = 0 := by
  unfold refusedP; rw [if_neg (by omega), h]; simp only [h2]
/-- The rows that a writer leaves. -/
theorem ints_own {w : World} {B : Nat} {v : Value} {F : List Int} (h : w.ownsRow B 3 1 v F.length (F.map fun x => .int .i64 x)) : IntsR w v F := by
  rcases Nat.eq_zero_or_pos F.length with h0 | h0
  · obtain ⟨_, ⟨rfl, _⟩ | ⟨g, cap, cur, rfl, _⟩⟩ := h
    · exact .inl ⟨h0, _, _, rfl⟩
    · exact .inl ⟨h0, _, _, by rw [h0]⟩
  · obtain ⟨g, cap, rfl, _, h3, h4, h5, h6⟩ := row_at h h0
    refine .inr ⟨g, 0, cap, rfl, h0, ⟨h3, h4⟩, h5, fun i hi x hx => ?_⟩
    rw [Nat.zero_add, Nat.mul_one]
    exact h6 _ _ (by rw [List.getElem?_map, hx]; rfl)
theorem words_own {w : World} {B : Nat} {v : Value} {F : List Int} (h : w.ownsRow B 43 1 v F.length (F.map fun x => .int .u32 x)) : WordsR w v F := by
  rcases Nat.eq_zero_or_pos F.length with h0 | h0
  · obtain ⟨_, ⟨rfl, _⟩ | ⟨g, cap, cur, rfl, _⟩⟩ := h
    · exact .inl ⟨h0, _, _, rfl⟩
    · exact .inl ⟨h0, _, _, by rw [h0]⟩
  · obtain ⟨g, cap, rfl, _, h3, h4, h5, h6⟩ := row_at h h0
    refine .inr ⟨g, 0, cap, rfl, h0, ⟨h3, h4⟩, h5, fun i hi x hx => ?_⟩
    rw [Nat.zero_add, Nat.mul_one]
    exact h6 _ _ (by rw [List.getElem?_map, hx]; rfl)
theorem ints_row {w : World} {b n : Nat} {f : Nat → Int} (h : RowI w b n f) (hm : n ≤ 60000) : IntsR w (.slice (some ⟨b, 0, none⟩) n n) ((List.range n).map f) := by
  rcases Nat.eq_zero_or_pos n with h0 | h0
  · subst h0; exact .inl ⟨rfl, _, _, rfl⟩
  · refine .inr ⟨b, 0, n, by simp, by simpa using h0, by simp; omega, h.lt, fun i hi x hx => ?_⟩
    have hi2 : i < n := by simpa using hi
    rw [List.getElem?_map, List.getElem?_range hi2] at hx
    injection hx with hx
    subst hx
    rw [Nat.zero_add, Nat.mul_one]
    exact h.cell hi2
set_option maxHeartbeats 16000000 in
set_option maxRecDepth 100000 in
theorem assemble_prog (l : List PL) (v : Value) (w : World) (hl : LinesR w v l) (hs : SmL l) (hF : FormsAt w) : Calls Tryd.prog 11 #[v] w (AsmPost l w) := by
  obtain ⟨p, c, rfl⟩ := hl.form
  have HL := Lib.hid hl
  have HF := Lib.hid hF
  have HA := Lib.hid (below_one w (.cells #[.slice none 0 0, .slice none 0 0, .slice none 0 0, .int .i64 0] 27))
  by_cases h6 : l.length ≤ 60000
  case neg =>
    have HE := Lib.hid (ref_long (l := l) (by omega))
    have hsl := hs.1
    generalize hn : l.length = n at *
    have i1 : (60000 : Int) < n := by omega
    have i2 : decide ((n : Int) > 60000) = true := by simp; omega
    clear hl hF hs hn h6 HL
    go_enter Tryd.func11, Tryd.ntmps11
    go_wp2
    refine bodyPost_ret (v := .tuple #[.agg #[.slice none 0 0, .slice none 0 0, .slice none 0 0, .int .i64 0], .int .i64 0, .int .i64 2]) ?_ rfl (AsmPost.no HE.out ?_)
    · simp [results, Tryd.results11, go_sem]
    · first | exact HA.out | exact ((((HA.out.setCell (by simp) _).setCell (by simp) _).setCell (by simp) _).setCell (by simp) _)
  have hsl : (l.length : Int) ≤ 60000 := by omega
  cases hfe : firstErr (lineErr l) 0 l.length with
  | some q =>
    obtain ⟨i, er⟩ := q
    have HE := Lib.hid (ref_line h6 hfe)
    have hne := lineErr_ne hfe
    have HFL := Lib.hid (fun w hl hF => (findLabels_prog l p c w hl hs h6 hF).mono fun e w' (h : FLPost l w e w') => (show e = .returned (.tuple #[.map none, .int .i64 i, .int .i64 er]) ∧ Below w.heap.size w w' from by
      rcases h with ⟨i', er', h1, h2, h3⟩ | ⟨h1, _⟩
      · rw [hfe] at h1; injection h1 with h1; injection h1 with h1 h4; subst h1 h4; exact ⟨h2, h3⟩
      · rw [hfe] at h1; cases h1))
    have g1 : (er == 0) = false := by simpa using hne
    have g2 : (er != 0) = true := by simpa using hne
    generalize hn : l.length = n at *
    clear hl hF hs hn h6 hfe hne
    go_enter Tryd.func11, Tryd.ntmps11
    go_wp2_with (go_at_call 27; refine (HFL.out _ (HL.out.below HA.out) (HF.out.below HA.out)).mono ?_; rintro e w1 ⟨rfl, hb⟩
                 have hq : w1.heap[w.heap.size]? = some (.cells #[.slice none 0 0, .slice none 0 0, .slice none 0 0, .int .i64 0] 27 (0, 0)) := (hb.block _ (by simp)).trans (heap_alloc_new w _)
                 have HQ9 := Lib.hid hq
                 obtain ⟨⟨a10, a11, a12, a13⟩, b10, b11, b12, b13⟩ := four hq
                 have hlt1 := lt_of_block hq
                 have HB1 := Lib.hid (bt HA.out hb); clear hb)
    obtain ⟨⟨p0, p1, p2, p3⟩, _⟩ := four (set_row4 (.slice none 0 0) (.slice none 0 0) (.slice none 0 0) (.int .i64 0) HQ9.out).2
    refine bodyPost_ret (v := .tuple #[.agg #[.slice none 0 0, .slice none 0 0, .slice none 0 0, .int .i64 0], .int .i64 i, .int .i64 er]) ?_ rfl (AsmPost.no HE.out ?_)
    · simp [results, Tryd.results11, go_sem, p0, p1, p2, p3]
    · first | exact HB1.out | exact ((((HB1.out.setCell (by simp) _).setCell (by simp) _).setCell (by simp) _).setCell (by simp) _)

  | none =>
    have HFL := Lib.hid (fun w hl hF => (findLabels_prog l p c w hl hs h6 hF).mono fun e w' (h : FLPost l w e w') => (show ∃ bm, e = .returned (.tuple #[.map (some bm), .int .i64 0, .int .i64 0]) ∧ MapAt w' bm 60000 l l.length ∧ w.heap.size ≤ bm ∧ Below w.heap.size w w' from by
      rcases h with ⟨i', er', h1, _⟩ | ⟨_, h1⟩
      · rw [hfe] at h1; cases h1
      · exact h1))
    have hfine := fine_all hfe
    cases hla : firstErr (labErr l) 0 l.length with
    | some q =>
      obtain ⟨i, er⟩ := q
      have HAS := Lib.hid (fun bm w hl hM => (astray_prog l p c bm w hl h6 hM hfine).mono fun e w' (h : AstrayPost l w e w') => (show er = 173 ∧ e = .returned (.int .i64 i) ∧ Below w.heap.size w w' from by
        rcases h with ⟨i', er', h1, h2, h3, h4⟩ | ⟨h1, _⟩
        · rw [hla] at h1; injection h1 with h1; injection h1 with h1 h5; subst h1 h5; exact ⟨h2, h3, h4⟩
        · rw [hla] at h1; cases h1))
      have HE := Lib.hid (fun h => ref_lab h6 hfe hla h)
      have i0 : (0 : Int) ≤ i := by omega
      generalize hn : l.length = n at *
      clear hl hF hs hn h6 hfe hfine hla
      go_enter Tryd.func11, Tryd.ntmps11
      go_wp2_with (first
        | (go_at_call 27; refine (HFL.out _ (HL.out.below HA.out) (HF.out.below HA.out)).mono ?_; rintro e w1 ⟨bm, rfl, hm, hz, hb⟩
           have hq : w1.heap[w.heap.size]? = some (.cells #[.slice none 0 0, .slice none 0 0, .slice none 0 0, .int .i64 0] 27 (0, 0)) := (hb.block _ (by simp)).trans (heap_alloc_new w _)
           have HQ1 := Lib.hid hq
           have HM1 := Lib.hid hm
           have HB1 := Lib.hid (bt HA.out hb); clear hb hm hq)
        | (go_at_call 28; refine (HAS.out bm _ (HL.out.below HB1.out) HM1.out).mono ?_; rintro e w2 ⟨her, rfl, hb⟩
           have hq := (hb.block _ (lt_of_block HQ1.out)).trans HQ1.out
           have HQ9 := Lib.hid hq
           obtain ⟨⟨a20, a21, a22, a23⟩, b20, b21, b22, b23⟩ := four hq
           have hlt1 := lt_of_block hq
           have HER := Lib.hid her
           have HB2 := Lib.hid (bt HB1.out hb); clear hb her))
      obtain ⟨⟨p0, p1, p2, p3⟩, _⟩ := four (set_row4 (.slice none 0 0) (.slice none 0 0) (.slice none 0 0) (.int .i64 0) HQ9.out).2
      refine bodyPost_ret (v := .tuple #[.agg #[.slice none 0 0, .slice none 0 0, .slice none 0 0, .int .i64 0], .int .i64 i, .int .i64 173]) ?_ rfl (AsmPost.no (HE.out HER.out) ?_)
      · simp [results, Tryd.results11, go_sem, p0, p1, p2, p3]
      · first | exact HB2.out | exact ((((HB2.out.setCell (by simp) _).setCell (by simp) _).setCell (by simp) _).setCell (by simp) _)

    | none =>
      have HAS := Lib.hid (fun bm w hl hM => (astray_prog l p c bm w hl h6 hM hfine).mono fun e w' (h : AstrayPost l w e w') => (show e = .returned (.int .i64 (-1)) ∧ Below w.heap.size w w' from by
        rcases h with ⟨i', er', h1, _⟩ | ⟨_, h3, h4⟩
        · rw [hla] at h1; cases h1
        · exact ⟨h3, h4⟩))
      have hok := ref_ok h6 hfe hla
      have htk := taken_of hok
      have hwf := parts_wf htk h6
      have HPA := Lib.hid (fun bm w hl hM => partsOf_prog l p c bm w hl hs h6 hM hfine)
      have HSE := Lib.hid (fun p c B w hP hB => settle_prog l htk h6 p c B w hP hB)
      have HSO := Lib.hid (fun r p c B w hP => startsOf_prog (partsP l) r p c B w hwf hP)
      have HOK := Lib.hid hok
      have HTK := Lib.hid htk
      have HSZ := Lib.hid h6
      have HWF := Lib.hid hwf
      have HFI := Lib.hid hfine
      have hpn := hwf.size
      unfold PartsPost at HPA
      unfold SettlePost at HSE
      unfold StartsPost at HSO
      clear hl hF hs hfe hfine hla hok htk hwf
      generalize hnp : (partsP l).length = np at *
      generalize hn : l.length = n at *
      have HN := Lib.hid hn
      have HNP := Lib.hid hnp
      clear hn hnp
      have n0 : (0 : Int) ≤ np := by omega
      have n1 : (np : Int) < (np : Int) + 1 := by omega
      have n2 : (np : Int) ≤ 60000 := by omega
      have n3 : decide ((60000 : Int) < n) = false := by simp; omega
      go_enter Tryd.func11, Tryd.ntmps11
      go_upto_region 12 with (first
        | (go_at_call 27; refine (HFL.out _ (HL.out.below HA.out) (HF.out.below HA.out)).mono ?_; rintro e w1 ⟨bm, rfl, hm, hz, hb⟩
           have HQ1 := Lib.hid (show w1.heap[w.heap.size]? = some (.cells #[.slice none 0 0, .slice none 0 0, .slice none 0 0, .int .i64 0] 27 (0, 0)) from (hb.block _ (by simp)).trans (heap_alloc_new w _))
           have HM1 := Lib.hid hm
           have HML := Lib.hid hm.lt
           have HB1 := Lib.hid (bt HA.out hb); clear hb hm)
        | (go_at_call 28; refine (HAS.out bm _ (HL.out.below HB1.out) HM1.out).mono ?_; rintro e w2 ⟨rfl, hb⟩
           have HQ2 := Lib.hid ((hb.block _ (lt_of_block HQ1.out)).trans HQ1.out)
           have HM2 := Lib.hid (HM1.out.below hb)
           have hml2 := Nat.lt_of_lt_of_le HML.out hb.size
           have HB2 := Lib.hid (bt HB1.out hb); clear hb)
        | (go_at_call 29; refine (HPA.out bm _ (HL.out.below HB2.out) HM2.out).mono ?_; rintro e w3 ⟨v3, rfl, hp, hb⟩
           obtain ⟨pp, pc, rfl⟩ := hp.form
           have HQ3 := Lib.hid ((hb.block _ (lt_of_block HQ2.out)).trans HQ2.out)
           have HP3 := Lib.hid hp
           have HS3 := Lib.hid hb.size
           have HB3 := Lib.hid (bt HB2.out hb)
           have HM3 := Lib.hid (HM2.out.below hb)
           rw [HNP.out]
           clear hb hp)
        | (go_at_call 30; (with_reducible refine (HSE.out pp pc w2.heap.size _ (HNP.out ▸ HP3.out) HS3.out).mono ?_); rintro e w4 ⟨S, r, t, rfl, hrt, hp, hb⟩
           have HQ4 := Lib.hid ((hb.block _ (lt_of_block HQ2.out)).trans HQ3.out)
           have HRT := Lib.hid hrt
           have HP4 := Lib.hid hp
           have HB4 := Lib.hid (HB3.out.trans (hb.mono HB2.out.size))
           have HM4 := Lib.hid (show MapAt w4 bm 60000 l n from by
             obtain ⟨es, clock, h1, h2⟩ := HM3.out
             exact ⟨es, clock, (hb.block bm hml2).trans h1, h2⟩)
           have hml4 := Nat.lt_of_lt_of_le (Nat.lt_of_lt_of_le hml2 HS3.out) hb.size
           clear hb hp hrt)
        | (go_at_call 31; (with_reducible refine (HSO.out r pp pc w2.heap.size _ (HNP.out ▸ HP4.out)).mono ?_); rintro e w5 ⟨rfl, hr, hb⟩
           have HR5 := Lib.hid hr
           have hrl := hr.lt
           have HQ5 := Lib.hid ((hb.block _ (lt_of_block HQ4.out)).trans HQ4.out)
           have HP5 := Lib.hid (PartsR.below HP4.out hb)
           have HB5 := Lib.hid (bt HB4.out hb)
           have HM5 := Lib.hid (HM4.out.below hb)
           have hml5 := Nat.lt_of_lt_of_le hml4 hb.size
           have rc := hr.cell (i := np) (by omega)
           clear hb hr))
      have HFN := Lib.hid (Fin.mk HTK.out (HN.out ▸ HSZ.out) HRT.out)
      have hq5 := HQ5.out
      have HTM := Lib.hid (fun k hk => HFN.out.mono (k := k) hk)
      have hcast : ((np + 1 : Nat) : Int) = (np : Int) + 1 := by omega
      by_cases htt : stR (partsP l) r np ≤ 65536
      case neg =>
        have HE := Lib.hid (HFN.out.big HOK.out (by rw [HNP.out]; exact htt))
        generalize stR (partsP l) r np = tt at *
        have g1 : decide (tt > 65536) = true := by simp; omega
        have g2 : (65536 : Int) < tt := by omega
        obtain ⟨⟨a0, a1, a2, a3⟩, b0, b1, b2, b3⟩ := four hq5
        have hlt5 := lt_of_block hq5
        clear hq5 htt hcast
        go_wp2
        obtain ⟨⟨p0, p1, p2, p3⟩, _⟩ := four (set_row4 (.slice none 0 0) (.slice none 0 0) (.slice none 0 0) (.int .i64 0) HQ5.out).2
        refine bodyPost_ret (v := .tuple #[.agg #[.slice none 0 0, .slice none 0 0, .slice none 0 0, .int .i64 0], .int .i64 0, .int .i64 174]) ?_ rfl (AsmPost.no HE.out ?_)
        · simp [results, Tryd.results11, go_sem, p0, p1, p2, p3]
        · first | exact HB5.out | exact ((((HB5.out.setCell (by simp) _).setCell (by simp) _).setCell (by simp) _).setCell (by simp) _)

      have hE := HFN.out.asm HOK.out (by rw [HNP.out]; exact htt)
      rw [HNP.out, HN.out] at hE
      have HE := Lib.hid hE
      clear hE
      have HNW := Lib.hid (newWriter_prog bm w4.heap.size (np + 1) (stR (partsP l) r) w5 (by omega) (by omega) HR5.out (by rw [Nat.add_sub_cancel]; exact ⟨(HTM.out np (by rw [HNP.out]; exact Nat.le_refl _)).1, htt⟩))
      have HRD := Lib.hid (show ∀ k, k < np + 1 → 0 ≤ stR (partsP l) r k ∧ stR (partsP l) r k ≤ 65536 from fun k hk => by
        have := HTM.out k (by rw [HNP.out]; omega)
        rw [HNP.out] at this
        omega)
      have HLN := Lib.hid (show ∀ k, k ≤ np → (partW l (stR (partsP l) r) r k).length ≤ 65536 from fun k hk => by
        have h1 := HFN.out.len (k := k) (by rw [HNP.out]; exact hk)
        have h2 := HRD.out k (by omega)
        omega)
      unfold NewPost at HNW
      generalize htq : stR (partsP l) r np = tt at *
      have HTQ := Lib.hid htq
      clear htq
      have g1 : decide (tt > 65536) = false := by simp; omega
      have g2 : ¬ ((65536 : Int) < tt) := by omega
      clear hq5 hcast
      go_wp2_with (go_at_call 32; refine HNW.out.mono ?_; rintro e w6 ⟨bw, vw, vk, G, rfl, hwr, hb⟩
                   have HW6 := Lib.hid (We.mk (l := l) hwr (HF.out.below (bt HB5.out hb)) ⟨by rw [HN.out]; exact HM5.out.below hb, rowIs_below HR5.out hb, by rw [HNP.out]; omega, HRD.out⟩ hml5 hrl (Nat.lt_of_le_of_lt (Nat.zero_le _) hrl) hb.size)
                   have HB6 := Lib.hid hb
                   clear hwr hb)
      go_loopw [56] (fun i wr => ∃ k : Nat, k ≤ np ∧ i = .int .i64 k ∧ ∃ G v u, Hid (We wr l (stR (partsP l) r) w5.heap.size bm w4.heap.size (np + 1) bw G v u (partW l (stR (partsP l) r) r k)) ∧ Hid (Below w5.heap.size w5 wr)) (fun i _ => np - (intOf i).toNat)
      case atStart => exact ⟨0, Nat.zero_le _, rfl, G, vw, vk, HW6, HB6⟩
      case round =>
        obtain ⟨k, hk, rfl, G1, v1, u1, HWE, HBR⟩ := hrel
        by_cases hlt : k < np
        · obtain ⟨gp, rfl, hg1, hg2, hpc1, hpc2, c0, c1, c2, c3, c4, f4⟩ := (HP5.out.below HBR.out).at_ (k := k) (by rw [HNP.out]; exact hlt)
          have hkp : k < partN l l.length := by
            have h1 := HNP.out
            unfold partsP at h1
            rw [parts_len] at h1
            omega
          obtain ⟨i, hi1, hi2, hi3⟩ := part_line l l.length k hkp
          have hpo := part_of l hi1 hi2
          rw [hi3] at hpo
          have hline : (partAt (partsP l) k).line = i := by rw [hpo.1]; exact part_lineno l i
          obtain ⟨b, o, x, vl, rfl, hx, hbl, hr, hc1, hc2⟩ := lines_pt HL.out (k := i) hi1
          have hlx := lineAt_of hx
          have hwr : Below w.heap.size w wr := bt HB5.out HBR.out
          have hI := hr.list
          obtain ⟨vp, vc, rfl⟩ := hI.form
          replace hr := hr.below hbl hwr
          obtain ⟨x0, x1, x2, x3, x4, x5, x6, _⟩ := hr
          have l0 : b < wr.heap.size := Nat.lt_of_lt_of_le hbl hwr.size
          have HLP := Lib.hid (fun (W : World) hW hb0 => line_prog l (stR (partsP l) r) w5.heap.size bm w4.heap.size (np + 1) bw G1 v1 u1 (partW l (stR (partsP l) r) r k) x vp vc (r k) w W hW (by have := HLN.out k hk; omega) hb0 HB5.out.size hI (HFI.out x (List.mem_of_getElem? hx)) (by rw [← hlx]; exact hi2))
          have HPW := Lib.hid (show partW l (stR (partsP l) r) r (k + 1) = partW l (stR (partsP l) r) r k ++ putP x (r k) (placeL l (stR (partsP l) r)) from by
            show partW l _ r k ++ putP (lineAt l (partAt (partsP l) k).line.toNat) (r k) _ = _
            rw [hline, Int.toNat_natCast, hlx])
          have HWR := Lib.hid hwr
          rw [hline] at c0
          have hin : i < n := by rw [HN.out] at hi1; exact hi1
          generalize (partAt (partsP l) k).short = short at *
          generalize (partAt (partsP l) k).more = more at *
          generalize (partAt (partsP l) k).to = tt2 at *
          generalize hrk : r k = rk at *
          unfold lineV at HLP
          clear hkp hi1 hi2 hi3 hpo hline hx hlx hwr hI f4 hrk
          have i0 : (0 : Int) ≤ k := by omega
          have i1 : (k : Int) < np := by omega
          have i2 : (0 : Int) ≤ i := by omega
          have i3 : (i : Int) < n := by omega
          go_upto_region 18 with (fail)
          go_region_law (first
            | ((try go_simp); go_at_call 33; refine (HLP.out (World.drew _) (HWE.out.below (below_one _ _).drew) (bt HWR.out (below_one _ _).drew)).mono ?_; rintro e w7 hp; have HPP := Lib.hid (PutPost.after (below_one _ _).drew hp); clear hp; obtain ⟨rfl, G2, v2, u2, h1, h2⟩ := HPP.out; have HB2 := Lib.hid (h2.below (fun b hb => (HWE.out.wr.lt hb).1) HWE.out.zs); have HW2 := Lib.hid (We.next HWE.out h1 h2); clear h1 h2))
          all_goals
            go_wp2_with fail
            go_roundw
            case rel => exact ⟨k + 1, by omega, by go_num, G2, v2, u2, by rw [HPW.out]; exact HW2, Lib.hid (HBR.out.trans HB2.out)⟩
            case measure => simp [intOf]; omega
        · have hkn : k = np := by omega
          subst hkn
          have i1 : ¬ ((k : Int) < (k : Int)) := by omega
          have hwr : Below w.heap.size w wr := bt HB5.out HBR.out
          have hst := HWE.out.wr.st
          obtain ⟨pw, cw, hv1⟩ : ∃ p c, v1 = .slice p (partW l (stR (partsP l) r) r k).length c := by
            obtain ⟨_, ⟨rfl, h⟩ | ⟨g, cap, cur, rfl, _⟩⟩ := HWE.out.wr.words
            · exact ⟨none, 0, by rw [h]⟩
            · exact ⟨_, _, rfl⟩
          obtain ⟨pk, ck, hu1⟩ : ∃ p c, u1 = .slice p (partW l (stR (partsP l) r) r k).length c := by
            obtain ⟨_, ⟨rfl, h⟩ | ⟨g, cap, cur, rfl, _⟩⟩ := HWE.out.wr.kinds
            · exact ⟨none, 0, by rw [h]⟩
            · exact ⟨_, _, rfl⟩
          have hwlt : w.heap.size < w5.heap.size := lt_of_block HQ5.out
          have HQR := Lib.hid ((HBR.out.block w.heap.size hwlt).trans HQ5.out)
          have hbz := HWE.out.wr.z
          have HPL := Lib.hid (fun w hl hR => placesOf_prog l (stR (partsP l) r) p c w4.heap.size (k + 1) w hl (HN.out ▸ HSZ.out) hR (by rw [HNP.out]; omega))
          have HRW := HWE.out.reads.row
          have HLW := HL.out.below hwr
          unfold PlacesOfPost at HPL
          rw [HN.out] at HPL
          subst hv1 hu1
          obtain ⟨⟨_, _, d2, d3⟩, _⟩ := four hst
          have hlb := lt_of_block hst
          have hlw := lt_of_block HQR.out
          have HLWH := Lib.hid HLW
          have HRWH := Lib.hid HRW
          have HWRH := Lib.hid hwr
          have HTR := Lib.hid HE.out
          generalize hlen : (partW l (stR (partsP l) r) r k).length = pl at *
          clear hst HLW HRW hwr
          go_upto_region 20 with (fail)
          go_region_law (first
            | ((try go_simp); go_at_call 34; refine (HPL.out (World.drew _) (HLWH.out.below (Below.refl _ _).drew) HRWH.out).mono ?_; rintro e w7 ⟨rfl, hrow, hb⟩
               have HR7 := Lib.hid hrow
               have e2 := keep_cell hb hlb d2
               have e3 := keep_cell hb hlb d3
               have HQ7 := Lib.hid ((hb.block w.heap.size hlw).trans HQR.out)
               have hq7 := HQ7.out
               obtain ⟨⟨a0, a1, a2, a3⟩, b0, b1, b2, b3⟩ := four hq7
               have hl7 := lt_of_block hq7
               have HB7 := Lib.hid hb
               clear hb hrow hq7))
          all_goals
            go_wp2_with fail
            obtain ⟨HG, hb⟩ := set_row4 (.slice pw pl cw) (.slice pk pl ck) (.slice (some ⟨wr.heap.size, 0, none⟩) n n) (.int .i64 ((t : Int) + 1)) HQ7.out
            obtain ⟨⟨p0, p1, p2, p3⟩, _⟩ := four hb
            have hbk : ∀ b, b < wr.heap.size → b ≠ w.heap.size → (((((w7.setCell ⟨w.heap.size, 0, none⟩ (.slice pw pl cw)).setCell ⟨w.heap.size, 1, none⟩ (.slice pk pl ck)).setCell ⟨w.heap.size, 2, none⟩ (.slice (some ⟨wr.heap.size, 0, none⟩) n n)).setCell ⟨w.heap.size, 3, none⟩ (.int .i64 ((t : Int) + 1))).heap[b]? = wr.heap[b]?) := fun b hb1 hb2 =>
              (HG.block b (Nat.lt_of_lt_of_le hb1 HB7.out.size) (fun e => hb2 (Option.some.inj e))).trans (HB7.out.block b hb1)
            have hlen2 := hlen
            refine bodyPost_ret (v := .tuple #[.agg #[.slice pw pl cw, .slice pk pl ck, .slice (some ⟨wr.heap.size, 0, none⟩) n n, .int .i64 ((t : Int) + 1)], .int .i64 0, .int .i64 0]) ?_ rfl ⟨_, 0, 0, HTR.out, .slice pw pl cw, .slice pk pl ck, .slice (some ⟨wr.heap.size, 0, none⟩) n n, rfl, ⟨?_, ?_, ?_⟩, ?_⟩
            · simp [results, Tryd.results11, go_sem, p0, p1, p2, p3]
            · refine words_own (B := w5.heap.size) ?_
              rw [List.length_map, List.map_map]
              exact own_keep HWE.out.wr.words (fun b hb => hbk b (HWE.out.wr.words.lt b hb).2 (by have := (HWE.out.wr.words.lt b hb).1; omega))
            · refine ints_own (B := w5.heap.size) ?_
              rw [List.length_map, List.map_map]
              exact own_keep HWE.out.wr.kinds (fun b hb => hbk b (HWE.out.wr.kinds.lt b hb).2 (by have := (HWE.out.wr.kinds.lt b hb).1; omega))
            · exact ints_row (HR7.out.of_block (HG.block wr.heap.size HR7.out.lt (fun e => by have := Option.some.inj e; omega))) (by omega)
            · exact ((((HWRH.out.trans ((Below.refl _ _).drew.trans (HB7.out.mono HWRH.out.size))).setCell (p := ⟨w.heap.size, 0, none⟩) (Nat.le_refl _) _).setCell (p := ⟨w.heap.size, 1, none⟩) (Nat.le_refl _) _).setCell (p := ⟨w.heap.size, 2, none⟩) (Nat.le_refl _) _).setCell (p := ⟨w.heap.size, 3, none⟩) (Nat.le_refl _) _
end Go.Proofs.YtmnhafncdblklaaDoor.Relax
