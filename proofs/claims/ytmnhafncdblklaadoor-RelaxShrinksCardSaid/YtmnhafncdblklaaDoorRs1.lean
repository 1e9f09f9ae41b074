/- The law RelaxShrinks, where the program's assembler and Decode do what the plain ones do. -/
import Derived.Test.YtmnhafncdblklaaDoorRs0
namespace Go.Proofs.YtmnhafncdblklaaDoor.Relax
open Go.RowKit Go.Proofs.YtmnhafncdblklaaDoor.Enc Go.Proofs.YtmnhafncdblklaaDoor.Graph

theorem plain_facts {x : PL} (h : plainL x = true) : x.op ≠ 0 ∧ goesB x = false ∧ x.op ≠ 42 ∧ x.op ≠ 2 ∧ isBr x = false ∧ ∀ b, sizeP x b = 1 := by
  unfold plainL at h
  simp only [Bool.and_eq_true, Bool.not_eq_true', bne_iff_ne] at h
  have hbr : isBr x = false := by have h3 := h.1.1.2; unfold goesB at h3; simp only [Bool.or_eq_false_iff] at h3; exact h3.1
  refine ⟨h.1.1.1, h.1.1.2, h.1.2, h.2, hbr, fun b => ?_⟩
  have h3 := h.1.1.2
  unfold goesB isBr at h3
  simp only [Bool.or_eq_false_iff, beq_eq_false_iff_ne] at h3
  unfold sizeP
  rw [if_neg h.1.1.1, h3.1.1, if_neg (by simp), if_neg (by omega), if_neg h.1.2]
theorem zline_cells : (Value.agg #[.int .i64 0, .int .i64 0, .int .i64 0, .int .i64 0, .int .u32 0, .int .i64 0, .slice none 0 0]).cells.size = 7 := by kernel_rfl
/-- Cells of a row, in a later world, as an append wants them. -/
theorem news_at {w w' : World} {g o : Nat} {xs ys : List Value} {d : Nat} (hg : g < w.heap.size) (h : ∀ j u, xs[j]? = some u → w.cell? ⟨g, o + j, none⟩ = some u) (hs : ∀ j u, ys[j]? = some u → xs[d + j]? = some u) (hb : Below w.heap.size w w') :
    ∀ j u, ys[j]? = some u → w'.cell? ((⟨g, o + d, none⟩ : Addr).add j) = some u := fun j u hu => by
  rw [Go.WideShapes.add_plain, Nat.add_assoc]
  exact (hb.cell (p := ⟨g, o + (d + j), none⟩) hg).trans (h _ _ (hs j u hu))
theorem news_at0 {w w' : World} {g o : Nat} {xs ys : List Value} (hg : g < w.heap.size) (h : ∀ j u, xs[j]? = some u → w.cell? ⟨g, o + j, none⟩ = some u) (hs : ∀ j u, ys[j]? = some u → xs[0 + j]? = some u) (hb : Below w.heap.size w w') :
    ∀ j u, ys[j]? = some u → w'.cell? ((⟨g, o, none⟩ : Addr).add j) = some u := fun j u hu => by
  have h2 := hs j u hu
  rw [Nat.zero_add] at h2
  rw [Go.WideShapes.add_plain]
  exact (hb.cell (p := ⟨g, o + j, none⟩) hg).trans (h _ _ h2)
set_option maxHeartbeats 16000000 in
set_option maxRecDepth 100000 in
theorem shrinks_do (D : DoesAsm) (E : DoesDec) (l : List PL) (v : Value) (which : Int) (w : World) (h : LinesR w v l) (hs : SmL l) (hF : FormsAt w) (a : Asm) (line : Int) (ha : asmP l = (a, line, 0)) (hn0 : 0 < l.length)
    (hw1 : -9223372036854775808 ≤ which) (hw2 : which ≤ 9223372036854775807) (hpl : plainL (lineAt l (pickN which l.length)) = true) :
    Calls Tryd.prog 9 #[v, .int .i64 which] w (Is (.bool true) w) := by
  have HA := Lib.hid (D.at_ ha v w h hs hF)
  have HL := Lib.hid (live_any D)
  have hn6 := taken_len (asm_ref ha)
  have hr := pickN_lt which hn0
  have HP := Lib.hid (pick_any which l.length hw1 hw2 hn0 (by omega))
  obtain ⟨hl1, hl2, hl3⟩ := asm_len ha
  obtain ⟨r, hR⟩ : ∃ r, r = pickN which l.length := ⟨_, rfl⟩
  unfold PickPost at HP
  rw [← hR] at hr HP hpl
  obtain ⟨f0, f1, f42, f2, fb, fz⟩ := plain_facts hpl
  have hcut := cut_erase l r hr
  obtain ⟨b, hb, hwl, hsh⟩ := asm_cut hcut ha fz fb f0
  obtain ⟨m, hM⟩ : ∃ m, m = l.take r ++ l.drop (r + 1) := ⟨_, rfl⟩
  rw [← hM] at hcut hb hsh
  have hmlen := hcut.len
  have hsm : SmL m := ⟨by have := hs.1; omega, fun y hy => by
    rw [hM] at hy
    rcases List.mem_append.1 hy with h1 | h1
    · exact hs.2 y (List.mem_of_mem_take h1)
    · exact hs.2 y (List.mem_of_mem_drop h1)⟩
  obtain ⟨k1, k2, k3⟩ := asm_len hb
  have HB := Lib.hid (fun v5 w5 h1 h2 => D.at_ hb v5 w5 h1 hsm h2)
  have HLB := Lib.hid (fun (v5 vw vk vp : Value) (w5 : World) h1 h2 h3 k hk hbr => long_any E m b 0 v5 vw vk vp w5 h1 h2 h3 hb k hk hbr)
  have HLA := Lib.hid (fun (v5 vw vk vp : Value) (w5 : World) h1 h2 h3 k hk hbr => long_any E l a line v5 vw vk vp w5 h1 h2 h3 ha k hk hbr)
  have HSH := Lib.hid hsh
  have HCUT := Lib.hid hcut
  have HV := Lib.hid h
  obtain ⟨p, c, rfl⟩ := h.form
  obtain ⟨ps, hps, hla, _, hat⟩ := lines_open h
  obtain ⟨g, o, rfl, hgl, hat, hcap, hcm⟩ := hat hn0
  have hpl2 : ps.length = l.length := by rw [← hps, List.length_map]
  obtain ⟨x, hx⟩ := getN (n := l.length) rfl hr
  rw [lineAt_of hx] at f0 f1 f42 f2
  have hLx : ∃ vl, LineR w g (o + r * 7) x vl := by
    rcases h with ⟨hz, _⟩ | ⟨g2, o2, cap2, e2, _, _, _, hc⟩
    · omega
    · injection e2 with e2 _ _
      injection e2 with e2
      injection e2 with e2 e3
      subst e2 e3
      exact hc r hr x hx
  obtain ⟨vl, q0, q1, q2, q3, q4, q5, q6, q7⟩ := hLx
  obtain ⟨lp, lc, rfl⟩ := q7.form
  have HG := Lib.hid (fun w => f1 ▸ goes_any x lp x.list.length lc w)
  obtain ⟨n, hN⟩ : ∃ n, n = l.length := ⟨_, rfl⟩
  obtain ⟨nw, hnw⟩ : ∃ n, n = a.words.length := ⟨_, rfl⟩
  obtain ⟨nk, hnk⟩ : ∃ n, n = a.kinds.length := ⟨_, rfl⟩
  obtain ⟨rd, hrd⟩ : ∃ n, n = a.rounds := ⟨_, rfl⟩
  obtain ⟨mw, hmw⟩ : ∃ n, n = b.words.length := ⟨_, rfl⟩
  obtain ⟨mk, hmk⟩ : ∃ n, n = b.kinds.length := ⟨_, rfl⟩
  obtain ⟨rb, hrb⟩ : ∃ n, n = b.rounds := ⟨_, rfl⟩
  obtain ⟨nm, hnm⟩ : ∃ n, n = m.length := ⟨_, rfl⟩
  rw [hl3] at HA
  rw [k3] at HB
  unfold asmV at HLB HLA
  rw [← hmw, ← hmk, ← hrb, ← hnm] at HB
  rw [← hrb] at HLB
  rw [← hrd] at HLA
  rw [← hmw, ← hnw] at hwl
  rw [← hnm] at hmlen
  have HNM := Lib.hid hnm
  have HNN := Lib.hid hN
  rw [← hN] at hr HP hn6 hcap hmlen hpl2
  rw [← hN, ← hnw, ← hnk, ← hrd] at HA
  rw [← hN] at HV ⊢
  have HPS := Lib.hid hps
  have HLAT := Lib.hid hla
  have HAT := Lib.hid hat
  have HMM := Lib.hid hM
  have HPL := Lib.hid hpl2
  obtain ⟨xop, xa, xb, ximm, xn, xlabel, xlist⟩ := x
  obtain ⟨nl, hnl⟩ : ∃ n, n = xlist.length := ⟨_, rfl⟩
  unfold lineV at HG
  simp only at q0 q1 q2 q3 q4 q5 q6 f0 f42 f2
  rw [← hnl] at q6 HG
  have j1 : (n : Int) ≤ 60000 := by omega
  have j2 : (r : Int) < n := by omega
  have j3 : (0 : Int) ≤ r := by omega
  have j4 : (n : Int) ≤ c := by omega
  have j5 : (n : Int) ≠ 0 := by omega
  have j6 : (r : Int) ≤ n := by omega
  have j7 : (r : Int) + 1 ≤ n := by omega
  have j8 : (nm : Int) + 1 = n := by omega
  have j9 : decide ((nw : Int) ≤ mw) = false := decide_eq_false (by omega)
  have j10 : decide (nw ≤ mw) = false := decide_eq_false (by omega)
  have g9 : ((n : Int) == 0) = false := by simp; omega
  have g0 : (xop == 0) = false := by simpa using f0
  have g1 : (xop != 0) = true := by simpa using f0
  have g2 : (xop == 2) = false := by simpa using f2
  have g3 : (xop != 2) = true := by simpa using f2
  have g4 : (xop == 42) = false := by simpa using f42
  have g5 : (xop != 42) = true := by simpa using f42
  have HI := info_line
  obtain ⟨i0, HI0, hz0, hz1, hz2⟩ := info_parts HI
  have HI := Lib.hid HI0
  have Htake : Hid (∀ j u, (flatL (ps.take r))[j]? = some u → (flatL ps)[0 + j]? = some u) := Lib.hid (fun j u hu => by rw [Nat.zero_add]; exact flat_take ps r j u hu)
  have Hdrop : Hid (∀ j u, (flatL (ps.drop (r + 1)))[j]? = some u → (flatL ps)[(r + 1) * 7 + j]? = some u) := Lib.hid (fun j u hu => flat_drop ps (r + 1) (by omega) j u hu)
  have Hl1 : Hid ((flatL (ps.take r)).length = r * 7) := Lib.hid (by rw [flat_len, List.length_take, hpl2, Nat.min_eq_left (by omega)])
  have Hl2 : Hid ((flatL (ps.drop (r + 1))).length = (n - (r + 1)) * 7) := Lib.hid (by rw [flat_len, List.length_drop, hpl2])
  obtain ⟨o2, e2, ho2⟩ : ∃ o2, (if c = r + 1 then (some ⟨g, o, none⟩ : Option Addr) else some ⟨g, o + (r + 1) * 7, none⟩) = some ⟨g, o2, none⟩ ∧ (n - (r + 1) = 0 ∨ o2 = o + (r + 1) * 7) := by
    by_cases h9 : c = r + 1
    · exact ⟨o, by rw [if_pos h9], .inl (by omega)⟩
    · exact ⟨_, by rw [if_neg h9], .inr rfl⟩
  have HO2 := Lib.hid ho2
  clear ho2
  have Ho1 := Lib.hid (hla.take r).one
  have Ho2 := Lib.hid (hla.drop (r + 1)).one
  clear h D E ha hb hs hsh hcut hl1 hl2 hl3 k1 k2 k3 hM hsm hps hla hat hx q7 hnl hN hnw hnk hrd hmw hmk hrb hnm hpl f0 f1 f42 f2 fb fz hR HI0 hpl2
  go_enter Tryd.func9, Tryd.ntmps9
  go_wp2_with (first
    | (go_at_call 11; have HL6' := HL6; (with_reducible refine (HB.out _ _ HL6.out kf6).mono ?_); rintro e w8 ⟨pw2, cw2, pk2, ck2, pp2, cp2, rfl, hr8, hb8⟩; have HB8 : Hid (Below w.heap.size w w8) := Lib.hid (bt HB6.out hb8); have HX8 := Lib.hid ((hb8.block w2.heap.size (by omega)).trans HX6.out); have HR8 := Lib.hid (HR6.out.below hb8); have HM8 := Lib.hid hr8; have HL8 := Lib.hid (HL6.out.below hb8); have kf8 := kf6.below hb8; have hz8 : w6.heap.size ≤ w8.heap.size := hb8.size; have hx80 := cell_of_block HX8.out (k := 0) rfl; have hne1 : w8.heap.size ≠ w2.heap.size := (by omega); have hne2 : w2.heap.size ≠ w8.heap.size := (by omega); have hlt8 : w2.heap.size < w8.heap.size := (by omega); clear hb8 hr8 HB6 HX6 HR6 HL6 kf6)
    | (go_at_call 11; refine HA.out.mono ?_; rintro e w2 ⟨pw, cw, pk, ck, pp, cp, rfl, hr, hb⟩; have H2 := Lib.hid hb; have HR := Lib.hid hr; have kf2 := hF.below hb; have hg2 : g < w2.heap.size := Nat.lt_of_lt_of_le hgl hb.size; have hg3 : w2.heap.size ≠ g := (by omega); have hg4 : g ≠ w2.heap.size := (by omega); have hs2 := hb.size; have q0_ := (hb.cell (p := ⟨g, o + r * 7, none⟩) hgl).trans q0; have q1_ := (hb.cell (p := ⟨g, o + r * 7 + 1, none⟩) hgl).trans q1; have q2_ := (hb.cell (p := ⟨g, o + r * 7 + 2, none⟩) hgl).trans q2; have q3_ := (hb.cell (p := ⟨g, o + r * 7 + 3, none⟩) hgl).trans q3; have q4_ := (hb.cell (p := ⟨g, o + r * 7 + 4, none⟩) hgl).trans q4; have q5_ := (hb.cell (p := ⟨g, o + r * 7 + 5, none⟩) hgl).trans q5; have q6_ := (hb.cell (p := ⟨g, o + r * 7 + 6, none⟩) hgl).trans q6; clear hr hb)
    | (go_at_call 23; refine (HP.out _).mono ?_; rintro e w4 ⟨rfl, rfl⟩)
    | (go_at_call 24; go_loud (go_at_call 24; refine (HG.out _).mono ?_; rintro e w7 ⟨rfl, hb7⟩; have HB7 : Hid (Below w.heap.size w w7) := Lib.hid (bt H2.out (bt ((below_one w2 _).alloc (by simp) _) hb7)); have HX7 : Hid (w7.heap[w2.heap.size]? = some (.cells #[.slice pw nw cw, .slice pk nk ck, .slice pp n cp, .int .i64 rd] 27 (0, 0))) := Lib.hid ((hb7.block w2.heap.size (by simp; omega)).trans ((heap_alloc_old (w2.alloc (.cells #[.slice pw nw cw, .slice pk nk ck, .slice pp n cp, .int .i64 rd] 27)) (.cells #[.int .i64 xop, .int .i64 xa, .int .i64 xb, .int .i64 ximm, .int .u32 xn, .int .i64 xlabel, .slice lp nl lc] 45) (by simp)).trans (heap_alloc_new w2 _))); have HR7 := Lib.hid (HR.out.below (bt ((below_one w2 _).alloc (by simp) _) hb7)); have kf7 := FormsAt.below (FormsAt.alloc (FormsAt.alloc kf2 _) _) hb7; have e0 := hb7.cell (p := ⟨w2.heap.size + 1, 0, none⟩) (by first | (simp; done) | (simp; omega)); have hz7 : w2.heap.size + 1 < w7.heap.size := Nat.lt_of_lt_of_le (by simp) hb7.size; clear hb7 kf2 HR q0_ q1_ q2_ q3_ q4_ q5_ q6_))
    | (at_builtin; have HO5' := HO5; go_loud
      (at_builtin
       have HO5' := HO5
       refine wpList_append_own_wide w5 ?b1 (.tmp 85) (.tmp 89) 22 ?b2 w7.heap.size 45 i0 _ 7 72 Tryd.underlying22 HI.out hz0 hz1 hz2 zline_cells (by omega) v4 r (flatL (ps.take r)) ?b3 HO5.out ⟨g, o2, none⟩ (n - (r + 1)) (c - (r + 1)) (flatL (ps.drop (r + 1))) ?b4 Hl2.out ?b9 Ho2.out ?b5 ?b6 ?b7 ?b8
       (case b1 => rfl)
       (case b2 => rfl)
       (case b3 => rfl)
       (case b4 => rfl)
       (case b5 => unfold maxLen; omega)
       (case b6 => omega)
       (case b7 => omega)
       (case b9 =>
         rcases HO2.out with h9 | h9
         · intro j u hu
           have h8 := Hl2.out
           rw [h9, Nat.zero_mul] at h8
           rw [List.length_eq_zero_iff.1 h8] at hu
           simp at hu
         · rw [h9]; exact news_at hgl HAT.out Hdrop.out (bt HB7.out HB75.out))
       intro v6 w6 h5 h6 _
       have hb76 : Below w7.heap.size w7 w6 := HB75.out.grown h6 hz5 (fun k hk => (HO5.out.lt k hk).1)
       have hl6 : LinesR w6 v6 m := by
         have h7 := lines_of_own (ps := ps.take r ++ ps.drop (r + 1)) (by rw [flat_app]; exact h5) (by rw [List.length_append, List.length_take, List.length_drop, HPL.out, Nat.min_eq_left (by omega)]) (((HLAT.out.take r).app (HLAT.out.drop (r + 1))).below (bt HB7.out hb76))
         rw [List.map_append, List.map_take, List.map_drop, HPS.out, ← HMM.out] at h7
         exact h7
       have HL6 := Lib.hid hl6
       have HB6 : Hid (Below w.heap.size w w6) := Lib.hid (bt HB7.out hb76)
       have HX6 := Lib.hid ((hb76.block w2.heap.size (by omega)).trans HX7.out)
       have HR6 := Lib.hid (HR7.out.below hb76)
       have kf6 := kf7.below hb76
       have hz6 : w7.heap.size ≤ w6.heap.size := hb76.size
       have hv6 := hl6.form
       rw [← HNM.out] at hv6
       obtain ⟨p6, c6, rfl⟩ := hv6
       clear h5 h6 hl6 hb76 HX7 HR7 kf7 HB75 HO5 hz5))
    | (at_builtin
       refine wpList_append_own_wide w7 ?a1 (.tmp 80) (.tmp 83) 22 ?a2 w7.heap.size 45 i0 _ 7 72 Tryd.underlying22 HI.out hz0 hz1 hz2 zline_cells (by omega) (.slice none 0 0) 0 [] ?a3 (World.ownsRow_nil _ _ _ _) ⟨g, o, none⟩ r c (flatL (ps.take r)) ?a4 Hl1.out (news_at0 hgl HAT.out Htake.out HB7.out) Ho1.out ?a5 ?a6 ?a7 ?a8
       (case a1 => rfl)
       (case a2 => rfl)
       (case a3 => rfl)
       (case a4 => rfl)
       (case a5 => unfold maxLen; omega)
       (case a6 => omega)
       (case a7 => omega)
       intro v4 w5 h5 h6 _
       have HO5 := Lib.hid (show w5.ownsRow w7.heap.size 45 7 v4 r (flatL (ps.take r)) by simpa using h5)
       have HB75 : Hid (Below w7.heap.size w7 w5) := Lib.hid (Below.grown (Below.refl _ _) h6 (Nat.le_refl _) (fun k hk => by cases hk))
       have hz5 : w7.heap.size ≤ w5.heap.size := HB75.out.size
       clear h5 h6))
  have HB9 : Hid (Below w.heap.size w (w8.alloc (.cells #[.slice pw2 mw cw2, .slice pk2 mk ck2, .slice pp2 nm cp2, .int .i64 rb] 27))) := Lib.hid (bt HB8.out (below_one w8 _))
  have HR9 := Lib.hid (HR8.out.below (below_one w8 (.cells #[.slice pw2 mw cw2, .slice pk2 mk ck2, .slice pp2 nm cp2, .int .i64 rb] 27)))
  have HM9 := Lib.hid (HM8.out.below (below_one w8 (.cells #[.slice pw2 mw cw2, .slice pk2 mk ck2, .slice pp2 nm cp2, .int .i64 rb] 27)))
  have HL9 := Lib.hid (HL8.out.below (below_one w8 (.cells #[.slice pw2 mw cw2, .slice pk2 mk ck2, .slice pp2 nm cp2, .int .i64 rb] 27)))
  have kf9 : FormsAt (w8.alloc (.cells #[.slice pw2 mw cw2, .slice pk2 mk ck2, .slice pp2 nm cp2, .int .i64 rb] 27)) := kf8.alloc _
  have HX9 := Lib.hid (((below_one w8 (.cells #[.slice pw2 mw cw2, .slice pk2 mk ck2, .slice pp2 nm cp2, .int .i64 rb] 27)).block w2.heap.size hlt8).trans HX8.out)
  have HY9 := Lib.hid (heap_alloc_new w8 (.cells #[.slice pw2 mw cw2, .slice pk2 mk ck2, .slice pp2 nm cp2, .int .i64 rb] 27))
  obtain ⟨b1, hb1⟩ : ∃ b1, b1 = w2.heap.size := ⟨_, rfl⟩
  obtain ⟨b2, hb2⟩ : ∃ b2, b2 = w8.heap.size := ⟨_, rfl⟩
  have HLT : Hid (b1 < (w8.alloc (.cells #[.slice pw2 mw cw2, .slice pk2 mk ck2, .slice pp2 nm cp2, .int .i64 rb] 27)).heap.size ∧ b2 < (w8.alloc (.cells #[.slice pw2 mw cw2, .slice pk2 mk ck2, .slice pp2 nm cp2, .int .i64 rb] 27)).heap.size) := Lib.hid (by rw [hb1, hb2]; simp; omega)
  rw [← hb1] at HX9 ⊢
  rw [← hb2] at HY9 ⊢
  clear HR8 HM8 HL8 kf8 HX8 hx80 hne1 hne2 hlt8 hz8 hz6 hb1 hb2 HB8 HAT Htake Hdrop Hl1 Hl2 Ho1 Ho2 HO2 e2 HI hz0 hz1 hz2 HG HA HP HB q0 q1 q2 q3 q4 q5 q6 e0 HLAT HPS HMM HPL j9 j10 hg2 hg3 hg4 hs2 hz7 HB7 H2 hgl
  generalize (w8.alloc (.cells #[.slice pw2 mw cw2, .slice pk2 mk ck2, .slice pp2 nm cp2, .int .i64 rb] 27)) = w9 at HB9 HR9 HM9 HL9 kf9 HX9 HY9 HLT ⊢
  go_loopw [15] (fun i wr => ∃ k : Nat, k ≤ nm ∧ i = .int .i64 k ∧ Hid (Below w9.heap.size w9 wr)) (fun i _ => nm - (intOf i).toNat)
  case atStart => exact ⟨0, Nat.zero_le _, rfl, Lib.hid (Below.refl _ _)⟩
  case round =>
    obtain ⟨k, hk, rfl, HBQ⟩ := hrel
    have hbq := HBQ.out
    have i0 : (0 : Int) ≤ k := by omega
    have hXr := (hbq.block b1 HLT.out.1).trans HX9.out
    have hYr := (hbq.block b2 HLT.out.2).trans HY9.out
    have x0 := cell_of_block hXr (k := 0) rfl
    have x1 := cell_of_block hXr (k := 1) rfl
    have x2 := cell_of_block hXr (k := 2) rfl
    have x3 := cell_of_block hXr (k := 3) rfl
    have y0 := cell_of_block hYr (k := 0) rfl
    have y1 := cell_of_block hYr (k := 1) rfl
    have y2 := cell_of_block hYr (k := 2) rfl
    have y3 := cell_of_block hYr (k := 3) rfl
    have zx := lt_of_block hXr
    have zy := lt_of_block hYr
    have kfr := kf9.below hbq
    have HRR := Lib.hid (HR9.out.below hbq)
    have HMR := Lib.hid (HM9.out.below hbq)
    have HLR := Lib.hid (HL9.out.below hbq)
    have HVR := Lib.hid (HV.out.below (bt HB9.out hbq))
    clear hbq hXr hYr
    by_cases hlt : k < nm
    · have hkm : k < m.length := by rw [← HNM.out]; exact hlt
      have i1 : (k : Int) < nm := by omega
      obtain ⟨y, hy⟩ := getN (n := m.length) rfl hkm
      have hLy : ∃ g6 o6, p6 = some ⟨g6, o6, none⟩ ∧ nm ≤ c6 ∧ c6 ≤ 9223372036854775807 ∧ g6 < wr.heap.size ∧ ∃ vl, LineR wr g6 (o6 + k * 7) y vl := by
        rcases HLR.out with ⟨hz, _⟩ | ⟨g3, o3, cap3, e3, _, hc3, hg3, hc⟩
        · omega
        · injection e3 with e3 e4 e5
          subst e3 e5
          exact ⟨g3, o3, rfl, by have := HNM.out; omega, hc3.2, hg3, hc k hkm y hy⟩
      obtain ⟨g6, o6, rfl, hc6, hc7, hg6, vy, hLy⟩ := hLy
      obtain ⟨q0, q1, q2, q3, q4, q5, q6, q7⟩ := hLy
      obtain ⟨lp6, lc6, rfl⟩ := q7.form
      have HBR := Lib.hid (fun w => branch_any y lp6 y.list.length lc6 w)
      have i2 : (nm : Int) ≤ c6 := by omega
      have hya := lineAt_of hy
      have HLBk := Lib.hid (fun (wx : World) (hb : Below wr.heap.size wr wx) (hbr : isBr y = true) => HLB.out _ _ _ _ wx (HLR.out.below hb) (HMR.out.below hb) (kfr.below hb) k hkm (by rw [hya]; exact hbr))
      have hwas : was r k < l.length := was_lt HCUT.out hkm
      have hla := HCUT.out.line k
      rw [hya] at hla
      have HLAk := Lib.hid (fun (wx : World) (hb : Below wr.heap.size wr wx) (hbr : isBr y = true) => HLA.out _ _ _ _ wx (HVR.out.below hb) (HRR.out.below hb) (kfr.below hb) (was r k) hwas (by rw [← hla]; exact hbr))
      have hsh := HSH.out k
      clear hkm hwas hla hya hy hc6 hc7 q7 HLR HMR HRR HVR
      generalize longAt (longP m).1 k = lb at HLBk hsh
      generalize longAt (longP l).1 (was r k) = la at HLAk hsh
      obtain ⟨yop, ya, yb, yimm, yn, ylabel, ylist⟩ := y
      obtain ⟨ny, hny⟩ : ∃ n, n = ylist.length := ⟨_, rfl⟩
      unfold lineV at HBR
      simp only at q0 q1 q2 q3 q4 q5 q6
      rw [← hny] at q6 HBR
      clear hny
      have hwask : (was r k : Int) = (if k < r then (k : Int) else (k : Int) + 1) := by unfold was; split <;> simp
      rw [hwask] at HLAk
      clear hwask
      by_cases hkr : k < r
      all_goals
        simp only [hkr, if_true, if_false] at HLAk
        by_cases hbr : isBr ⟨yop, ya, yb, yimm, yn, ylabel, ylist⟩ = true
        case neg =>
          have hbr2 : isBr ⟨yop, ya, yb, yimm, yn, ylabel, ylist⟩ = false := by simpa using hbr
          rw [hbr2] at HBR
          clear hbr hbr2 HLBk HLAk hsh
          go_wp2_with (go_at_call 20; refine (HBR.out _).mono ?_; rintro e w4 ⟨rfl, hb4⟩; have H4 := Lib.hid hb4; clear hb4)
          exact ⟨⟨k + 1, by omega, by go_num, Lib.hid (bt HBQ.out H4.out)⟩, by simp [intOf]; omega⟩
        case pos =>
          rw [hbr] at HBR
          cases lb with
          | false =>
            go_wp2_with (first
              | (go_at_call 20; refine (HBR.out _).mono ?_; rintro e w4 ⟨rfl, hb4⟩; have H4 := Lib.hid hb4; have z4 := Nat.lt_of_lt_of_le zx hb4.size; have zy4 := Nat.lt_of_lt_of_le zy hb4.size; have x4_0 : w4.cell? ⟨b1, 0, none⟩ = some (.slice pw nw cw) := (hb4.cell (p := ⟨b1, 0, none⟩) (by first | assumption | (simp; done) | omega)).trans x0; have x4_1 : w4.cell? ⟨b1, 1, none⟩ = some (.slice pk nk ck) := (hb4.cell (p := ⟨b1, 1, none⟩) (by first | assumption | (simp; done) | omega)).trans x1; have x4_2 : w4.cell? ⟨b1, 2, none⟩ = some (.slice pp n cp) := (hb4.cell (p := ⟨b1, 2, none⟩) (by first | assumption | (simp; done) | omega)).trans x2; have x4_3 : w4.cell? ⟨b1, 3, none⟩ = some (.int .i64 rd) := (hb4.cell (p := ⟨b1, 3, none⟩) (by first | assumption | (simp; done) | omega)).trans x3; have y4_0 : w4.cell? ⟨b2, 0, none⟩ = some (.slice pw2 mw cw2) := (hb4.cell (p := ⟨b2, 0, none⟩) (by first | assumption | (simp; done) | omega)).trans y0; have y4_1 : w4.cell? ⟨b2, 1, none⟩ = some (.slice pk2 mk ck2) := (hb4.cell (p := ⟨b2, 1, none⟩) (by first | assumption | (simp; done) | omega)).trans y1; have y4_2 : w4.cell? ⟨b2, 2, none⟩ = some (.slice pp2 nm cp2) := (hb4.cell (p := ⟨b2, 2, none⟩) (by first | assumption | (simp; done) | omega)).trans y2; have y4_3 : w4.cell? ⟨b2, 3, none⟩ = some (.int .i64 rb) := (hb4.cell (p := ⟨b2, 3, none⟩) (by first | assumption | (simp; done) | omega)).trans y3; clear hb4)
              | (go_at_call 26; (with_reducible refine (HLBk.out _ H4.out hbr).mono ?_); rintro e w5 ⟨rfl, hb5⟩; have H5 := Lib.hid hb5; have z5 := Nat.lt_of_lt_of_le z4 hb5.size; have x5_0 : w5.cell? ⟨b1, 0, none⟩ = some (.slice pw nw cw) := ((bt H4.out hb5).cell (p := ⟨b1, 0, none⟩) (by first | assumption | (simp; done) | omega)).trans x0; have x5_1 : w5.cell? ⟨b1, 1, none⟩ = some (.slice pk nk ck) := ((bt H4.out hb5).cell (p := ⟨b1, 1, none⟩) (by first | assumption | (simp; done) | omega)).trans x1; have x5_2 : w5.cell? ⟨b1, 2, none⟩ = some (.slice pp n cp) := ((bt H4.out hb5).cell (p := ⟨b1, 2, none⟩) (by first | assumption | (simp; done) | omega)).trans x2; have x5_3 : w5.cell? ⟨b1, 3, none⟩ = some (.int .i64 rd) := ((bt H4.out hb5).cell (p := ⟨b1, 3, none⟩) (by first | assumption | (simp; done) | omega)).trans x3; have y5_0 : w5.cell? ⟨b2, 0, none⟩ = some (.slice pw2 mw cw2) := ((bt H4.out hb5).cell (p := ⟨b2, 0, none⟩) (by first | assumption | (simp; done) | omega)).trans y0; have y5_1 : w5.cell? ⟨b2, 1, none⟩ = some (.slice pk2 mk ck2) := ((bt H4.out hb5).cell (p := ⟨b2, 1, none⟩) (by first | assumption | (simp; done) | omega)).trans y1; have y5_2 : w5.cell? ⟨b2, 2, none⟩ = some (.slice pp2 nm cp2) := ((bt H4.out hb5).cell (p := ⟨b2, 2, none⟩) (by first | assumption | (simp; done) | omega)).trans y2; have y5_3 : w5.cell? ⟨b2, 3, none⟩ = some (.int .i64 rb) := ((bt H4.out hb5).cell (p := ⟨b2, 3, none⟩) (by first | assumption | (simp; done) | omega)).trans y3; clear hb5))
            exact ⟨⟨k + 1, by omega, by go_num, Lib.hid (bt HBQ.out (bt H4.out H5.out))⟩, by simp [intOf]; omega⟩
          | true =>
            have hla2 := hsh rfl
            rw [hla2] at HLAk
            clear hsh hla2
            go_wp2_with (first
              | (go_at_call 20; refine (HBR.out _).mono ?_; rintro e w4 ⟨rfl, hb4⟩; have H4 := Lib.hid hb4; have z4 := Nat.lt_of_lt_of_le zx hb4.size; have zy4 := Nat.lt_of_lt_of_le zy hb4.size; have x4_0 : w4.cell? ⟨b1, 0, none⟩ = some (.slice pw nw cw) := (hb4.cell (p := ⟨b1, 0, none⟩) (by first | assumption | (simp; done) | omega)).trans x0; have x4_1 : w4.cell? ⟨b1, 1, none⟩ = some (.slice pk nk ck) := (hb4.cell (p := ⟨b1, 1, none⟩) (by first | assumption | (simp; done) | omega)).trans x1; have x4_2 : w4.cell? ⟨b1, 2, none⟩ = some (.slice pp n cp) := (hb4.cell (p := ⟨b1, 2, none⟩) (by first | assumption | (simp; done) | omega)).trans x2; have x4_3 : w4.cell? ⟨b1, 3, none⟩ = some (.int .i64 rd) := (hb4.cell (p := ⟨b1, 3, none⟩) (by first | assumption | (simp; done) | omega)).trans x3; have y4_0 : w4.cell? ⟨b2, 0, none⟩ = some (.slice pw2 mw cw2) := (hb4.cell (p := ⟨b2, 0, none⟩) (by first | assumption | (simp; done) | omega)).trans y0; have y4_1 : w4.cell? ⟨b2, 1, none⟩ = some (.slice pk2 mk ck2) := (hb4.cell (p := ⟨b2, 1, none⟩) (by first | assumption | (simp; done) | omega)).trans y1; have y4_2 : w4.cell? ⟨b2, 2, none⟩ = some (.slice pp2 nm cp2) := (hb4.cell (p := ⟨b2, 2, none⟩) (by first | assumption | (simp; done) | omega)).trans y2; have y4_3 : w4.cell? ⟨b2, 3, none⟩ = some (.int .i64 rb) := (hb4.cell (p := ⟨b2, 3, none⟩) (by first | assumption | (simp; done) | omega)).trans y3; clear hb4)
              | (go_at_call 26; (with_reducible refine (HLBk.out _ H4.out hbr).mono ?_); rintro e w5 ⟨rfl, hb5⟩; have H5 := Lib.hid hb5; have z5 := Nat.lt_of_lt_of_le z4 hb5.size; have x5_0 : w5.cell? ⟨b1, 0, none⟩ = some (.slice pw nw cw) := ((bt H4.out hb5).cell (p := ⟨b1, 0, none⟩) (by first | assumption | (simp; done) | omega)).trans x0; have x5_1 : w5.cell? ⟨b1, 1, none⟩ = some (.slice pk nk ck) := ((bt H4.out hb5).cell (p := ⟨b1, 1, none⟩) (by first | assumption | (simp; done) | omega)).trans x1; have x5_2 : w5.cell? ⟨b1, 2, none⟩ = some (.slice pp n cp) := ((bt H4.out hb5).cell (p := ⟨b1, 2, none⟩) (by first | assumption | (simp; done) | omega)).trans x2; have x5_3 : w5.cell? ⟨b1, 3, none⟩ = some (.int .i64 rd) := ((bt H4.out hb5).cell (p := ⟨b1, 3, none⟩) (by first | assumption | (simp; done) | omega)).trans x3; have y5_0 : w5.cell? ⟨b2, 0, none⟩ = some (.slice pw2 mw cw2) := ((bt H4.out hb5).cell (p := ⟨b2, 0, none⟩) (by first | assumption | (simp; done) | omega)).trans y0; have y5_1 : w5.cell? ⟨b2, 1, none⟩ = some (.slice pk2 mk ck2) := ((bt H4.out hb5).cell (p := ⟨b2, 1, none⟩) (by first | assumption | (simp; done) | omega)).trans y1; have y5_2 : w5.cell? ⟨b2, 2, none⟩ = some (.slice pp2 nm cp2) := ((bt H4.out hb5).cell (p := ⟨b2, 2, none⟩) (by first | assumption | (simp; done) | omega)).trans y2; have y5_3 : w5.cell? ⟨b2, 3, none⟩ = some (.int .i64 rb) := ((bt H4.out hb5).cell (p := ⟨b2, 3, none⟩) (by first | assumption | (simp; done) | omega)).trans y3; clear hb5)
              | (go_at_call 26; (with_reducible refine (HLAk.out _ (bt H4.out H5.out) hbr).mono ?_); rintro e w6 ⟨rfl, hb6⟩; have H6 := Lib.hid hb6; clear hb6))
            exact ⟨⟨k + 1, by omega, by go_num, Lib.hid (bt HBQ.out (bt H4.out (bt H5.out H6.out)))⟩, by simp [intOf]; omega⟩
    · have i1 : decide (k < nm) = false := decide_eq_false hlt
      clear hlt
      go_wp2_with (go_at_call 13; refine (HL.out _ kfr).mono ?_; rintro e w4 ⟨rfl, hb4⟩; have H4 := Lib.hid hb4; clear hb4)
      go_ret
      exact ⟨rfl, bt HB9.out (bt HBQ.out H4.out)⟩
end Go.Proofs.YtmnhafncdblklaaDoor.Relax
