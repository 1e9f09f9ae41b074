/- The law RelaxLeast, where the program's assembler and Decode do what the plain ones do. -/
import Derived.Test.YtmnhafncdblklaaDoorRx2
namespace Go.Proofs.YtmnhafncdblklaaDoor.Relax
open Go.RowKit Go.Proofs.YtmnhafncdblklaaDoor.Enc Go.Proofs.YtmnhafncdblklaaDoor.Graph

def BoolsR (w : World) (v : Value) (l : List Bool) : Prop := SlR w 1 v l.length fun i b o => ∀ x, l[i]? = some x → w.cell? ⟨b, o, none⟩ = some (.bool x)
theorem BoolsR.below {w w' : World} {v : Value} {l : List Bool} (h : BoolsR w v l) (hb : Below w.heap.size w w') : BoolsR w' v l := SlR.below h hb fun _ _ _ hl hP x hx => (cell_below hb hl _).trans (hP x hx)
theorem longAt_of {g : List Bool} {k : Nat} {x : Bool} (h : g[k]? = some x) : longAt g k = x := by
  unfold longAt; rw [List.getD_eq_getElem?_getD, h]; rfl
theorem longAt_beyond {g : List Bool} {k : Nat} (h : g.length ≤ k) : longAt g k = false := by
  unfold longAt; rw [List.getD_eq_getElem?_getD, List.getElem?_eq_none h]; rfl
set_option maxHeartbeats 16000000 in
set_option maxRecDepth 100000 in
theorem least_any (D : DoesAsm) (E : DoesDec) (l : List PL) (ch : List Bool) (v vc : Value) (w : World) (h : LinesR w v l) (hs : SmL l) (hc : BoolsR w vc ch) (hF : FormsAt w) :
    Calls Tryd.prog 6 #[v, vc] w (Is (.bool true) w) := by
  obtain ⟨a, line, er, ha⟩ : ∃ a line er, asmP l = (a, line, er) := ⟨_, _, _, rfl⟩
  have HA := Lib.hid (D.at_ ha v w h hs hF)
  have HL := Lib.hid (live_any D)
  obtain ⟨p, c, rfl⟩ := h.form
  obtain ⟨pc, cc, rfl⟩ := hc.form
  have hcap := sl_len h
  have hcap2 := sl_len hc
  by_cases he : er = 0
  case neg =>
    have hno := asm_no ha he
    subst hno
    have g0 : (er == 0) = false := by simpa using he
    have g1 : (er != 0) = true := by simpa using he
    unfold noAsm at HA
    simp only at HA
    obtain ⟨n, hn⟩ : ∃ n, n = l.length := ⟨_, rfl⟩
    obtain ⟨nc, hnc⟩ : ∃ n, n = ch.length := ⟨_, rfl⟩
    rw [← hn] at HA ⊢
    rw [← hnc]
    clear ha hs h hc D E hn hnc he
    go_enter Tryd.func6, Tryd.ntmps6
    go_wp2_with (first
      | (go_at_call 11; refine HA.out.mono ?_; rintro e w2 ⟨pw, cw, pk, ck, pp, cp, rfl, hr, hb⟩; have H2 := Lib.hid hb; have kf2 := hF.below hb; clear hr hb)
      | (go_at_call 13; refine (HL.out _ (by repeat (first | assumption | apply FormsAt.alloc | apply FormsAt.drew | apply FormsAt.drewN))).mono ?_; rintro e w3 ⟨rfl, hb3⟩; have H3 := Lib.hid hb3; have d2 := hb3.cell (p := ⟨w2.heap.size, 2, none⟩) (by simp); clear hb3))
    go_ret
    exact ⟨rfl, bt H2.out (bt (below_one w2 _) H3.out)⟩
  subst he
  obtain ⟨HP1, hp2⟩ := asm_places ha
  have hre := asm_ref ha
  have hTK := taken_of hre
  have hn6 := taken_len hre
  have HTK := Lib.hid hTK
  have HPL := Lib.hid (fun (vg : Value) (bg : Nat) (wx : World) (h1 : LinesR wx (.slice p l.length c) l) (h2 : LongR wx vg bg l.length ch) => places_any l ch _ vg bg wx h1 h2 hre)
  have HSC := Lib.hid (fun i (hi : i < l.length) hb hs => short_code ha hi hb hs)
  have HLE := Lib.hid (fun (h : Reaches l ch) => least hTK.stand h)
  have HP2 := Lib.hid hp2
  have HCD := Lib.hid (fun (vw vk vp : Value) (wx : World) (hr : AsmR wx a vw vk vp) (hF : FormsAt wx) t y c hx hk hr2 hd => code_any E a vw vk vp wx hr hF t y c hx hk hr2 hd)
  unfold asmV at HCD
  have HAP := Lib.hid HP1
  rw [HP1] at HA
  have HV := Lib.hid h
  have HC := Lib.hid hc
  obtain ⟨n, hn⟩ : ∃ n, n = l.length := ⟨_, rfl⟩
  obtain ⟨nc, hnc⟩ : ∃ n, n = ch.length := ⟨_, rfl⟩
  have HN := Lib.hid hn
  have HNC := Lib.hid hnc
  obtain ⟨nw, hnw⟩ : ∃ n, n = a.words.length := ⟨_, rfl⟩
  obtain ⟨nk, hnk⟩ : ∃ n, n = a.kinds.length := ⟨_, rfl⟩
  obtain ⟨rd, hrd⟩ : ∃ n, n = a.rounds := ⟨_, rfl⟩
  have HNW := Lib.hid hnw
  have HNK := Lib.hid hnk
  have HRD := Lib.hid hrd
  rw [← hn, ← hnw, ← hnk, ← hrd] at HA
  rw [← hn] at hn6 hcap HPL HV ⊢
  rw [← hnc] at hcap2 ⊢
  have HMK := Lib.hid (run_make_bool n (by omega))
  clear hs h hc D E hn hnc hnw hnk hrd hTK hre hp2 HP1
  go_enter Tryd.func6, Tryd.ntmps6
  go_wp2_with (
    (go_at_call 11; refine HA.out.mono ?_; rintro e w2 ⟨pw, cw, pk, ck, pp, cp, rfl, hr, hb⟩; have H2 := Lib.hid hb; have HR := Lib.hid hr; have kf2 := hF.below hb; have hmk := HMK.out (w2.alloc (.cells #[.slice pw nw cw, .slice pk nk ck, .slice pp n cp, .int .i64 rd] 27)); clear hr hb))
  clear hmk
  have HB3 : Hid (Below w.heap.size w (w2.alloc (.cells #[.slice pw nw cw, .slice pk nk ck, .slice pp n cp, .int .i64 rd] 27))) := Lib.hid (bt H2.out (below_one w2 _))
  have HR3 := Lib.hid (HR.out.below (below_one w2 (.cells #[.slice pw nw cw, .slice pk nk ck, .slice pp n cp, .int .i64 rd] 27)))
  have kf3 : FormsAt (w2.alloc (.cells #[.slice pw nw cw, .slice pk nk ck, .slice pp n cp, .int .i64 rd] 27)) := kf2.alloc _
  have HBX : Hid ((w2.alloc (.cells #[.slice pw nw cw, .slice pk nk ck, .slice pp n cp, .int .i64 rd] 27)).heap[w2.heap.size]? = some (.cells #[.slice pw nw cw, .slice pk nk ck, .slice pp n cp, .int .i64 rd] 27 (0, 0))) := Lib.hid (heap_alloc_new w2 _)
  obtain ⟨bx, hbx⟩ : ∃ bx, bx = w2.heap.size := ⟨_, rfl⟩
  have HLT : Hid (bx < (w2.alloc (.cells #[.slice pw nw cw, .slice pk nk ck, .slice pp n cp, .int .i64 rd] 27)).heap.size) := Lib.hid (by rw [hbx]; simp)
  have HSZ : Hid ((w2.alloc (.cells #[.slice pw nw cw, .slice pk nk ck, .slice pp n cp, .int .i64 rd] 27)).heap.size = bx + 1) := Lib.hid (by rw [hbx]; simp)
  rw [← hbx] at HBX ⊢
  clear hbx HR kf2 H2
  generalize (w2.alloc (.cells #[.slice pw nw cw, .slice pk nk ck, .slice pp n cp, .int .i64 rd] 27)) = w3 at HB3 HR3 kf3 HBX HLT HSZ ⊢
  have HR0 := Lib.hid (World.rowIs_made w3 (.bool false) n 4)
  have HB4 : Hid (Below w3.heap.size w3 (w3.alloc (.cells (madeCells #[.bool false] n) 4))) := Lib.hid (below_one w3 _)
  rw [HSZ.out] at HR0
  obtain ⟨bl, hbl⟩ : ∃ bl, bl = bx + 1 := ⟨_, rfl⟩
  rw [← hbl] at HR0 ⊢
  generalize (w3.alloc (.cells (madeCells #[.bool false] n) 4)) = w4 at HR0 HB4 ⊢
  have HBL : Hid (bl = w3.heap.size) := Lib.hid (by rw [HSZ.out, hbl])
  clear hbl HSZ
  have n1 : (n : Int) ≤ 60000 := by omega
  have n2 : (nc : Int) ≤ 9223372036854775807 := by omega
  go_loopw [9] (fun i wr => ∃ k : Nat, k ≤ n ∧ k ≤ nc ∧ i = .int .i64 k ∧ Hid (wr.rowIs bl 4 n (fun j => .bool (if j < k then longAt ch j else false))) ∧ Hid (Below w3.heap.size w3 wr)) (fun i _ => n - (intOf i).toNat)
  case atStart => exact ⟨0, Nat.zero_le _, Nat.zero_le _, rfl, Lib.hid (HR0.out.congr fun j _ => by simp), HB4⟩
  case round =>
    obtain ⟨k, hk, hk2, rfl, HRW, HBR⟩ := hrel
    have i0 : (0 : Int) ≤ k := by omega
    by_cases hlt : k < n ∧ k < nc
    · obtain ⟨hlt, hlt2⟩ := hlt
      have i1 : (k : Int) < n := by omega
      have i2 : (k : Int) < nc := by omega
      obtain ⟨g1, o1, c1, hv, hcap1, hgl1, hcell1⟩ := SlR.form2 HC.out (by have := HNC.out; omega)
      injection hv with hv hvn hv2
      clear hvn
      subst hv hv2
      obtain ⟨x, hx⟩ := getN HNC.out hlt2
      have hbb := bt HB3.out HBR.out
      have c0 := (hbb.cell (p := ⟨g1, o1 + k * 1, none⟩) hgl1).trans (hcell1 k (by have := HNC.out; omega) x hx)
      rw [Nat.mul_one] at c0
      have c1 := HRW.out.cell hlt
      have c2 := HRW.out.frozen k
      have hlx := longAt_of hx
      have l0 : g1 < wr.heap.size := Nat.lt_of_lt_of_le hgl1 hbb.size
      have j1 : (nc : Int) ≤ cc := by have := HNC.out; omega
      have HLX := Lib.hid hlx
      clear hcell1 hx hbb hlx
      go_wp2
      refine ⟨⟨k + 1, by omega, by omega, by go_num, ?_, ?_⟩, by simp [intOf]; omega⟩
      · exact Lib.hid ((HRW.out.set k (.bool x)).congr fun j hj => by
          by_cases e : j = k
          · subst e; rw [if_pos rfl, if_pos (by omega), HLX.out]
          · rw [if_neg e]
            by_cases h2 : j < k
            · rw [if_pos h2, if_pos (by omega)]
            · rw [if_neg h2, if_neg (by omega)])
      · exact Lib.hid (HBR.out.setCell (by rw [← HBL.out]; exact Nat.le_refl _) _)
    · have HLG : Hid (LongR wr (.slice (some ⟨bl, 0, none⟩) n n) bl n ch) := Lib.hid ⟨⟨n, rfl, Nat.le_refl _, by omega⟩, HRW.out.lt, fun j hj => by
        rw [HRW.out.cell hj]
        by_cases h2 : j < k
        · rw [if_pos h2]
        · rw [if_neg h2, longAt_beyond (by have := HNC.out; omega)]⟩
      have i5 : k < n → nc ≤ k := by omega
      have HBW := Lib.hid (bt HB3.out HBR.out)
      have HBX5 := Lib.hid ((HBR.out.block bx HLT.out).trans HBX.out)
      have HR5 := Lib.hid (HR3.out.below HBR.out)
      have kf5 := kf3.below HBR.out
      have hlt5 := HRW.out.lt
      have hcase : (k < n ∧ nc ≤ k) ∨ n ≤ k := by omega
      clear i5 hlt hk hk2
      rcases hcase with ⟨hc1, hc2⟩ | hc1
      case inl =>
        have i6 : decide (k < n) = true := decide_eq_true hc1
        have i7 : (nc : Int) ≤ k := by omega
        clear hc1 hc2
        go_wp2_with (
        (go_at_call 19; refine (HPL.out _ bl wr (HV.out.below HBW.out) HLG.out).mono ?_; rintro e w6 ⟨vp, rfl, ho, hat, hb6⟩; have hpi := ints_of_own (l := placesL l ch l.length) (by rw [placesL_len]; exact ho); have hvp := hpi.form; rw [placesL_len, ← HN.out] at hvp; obtain ⟨pq, cq, rfl⟩ := hvp; clear i6; have HPI := Lib.hid hpi; have HAT := Lib.hid hat; have H6 := Lib.hid hb6; clear hpi hat hb6 ho))
        have HBP := Lib.hid (bt HBW.out H6.out)
        have HLG6 := Lib.hid (HLG.out.below H6.out)
        have HR6 := Lib.hid (HR5.out.below H6.out)
        have kf6 := kf5.below H6.out
        have hbxlt : bx < wr.heap.size := lt_of_block HBX5.out
        have HBX6 := Lib.hid ((H6.out.block bx hbxlt).trans HBX5.out)
        obtain ⟨ba, hba⟩ : ∃ ba, ba = wr.heap.size := ⟨_, rfl⟩
        rw [← hba] at HAT ⊢
        have hal : ba < w6.heap.size := HAT.out.lt
        have hbl6 : bl < w6.heap.size := HLG6.out.lt
        have hbx6 : bx < w6.heap.size := lt_of_block HBX6.out
        clear hbxlt hba HLG HR5 kf5 HBX5 H6 HBW HRW HBR hlt5
        go_loopw [13] (fun i wq => ∃ k : Nat, k ≤ n ∧ i = .int .i64 k ∧ Hid (∀ j, j < k → isBr (lineAt l j) = true → longAt ch j = false → nearB (dispP l ch j) = true) ∧ Hid (Below w6.heap.size w6 wq)) (fun i _ => n - (intOf i).toNat)
        case atStart => exact ⟨0, Nat.zero_le _, rfl, Lib.hid (fun j hj => absurd hj (Nat.not_lt_zero _)), Lib.hid (Below.refl _ _)⟩
        case round =>
          obtain ⟨k, hk, rfl, HNE, HBQ⟩ := hrel
          have i0 : (0 : Int) ≤ k := by omega
          by_cases hlt : k < n
          · have hi : k < l.length := by have := HN.out; omega
            obtain ⟨x, hx⟩ := getN HN.out hlt
            obtain ⟨gb, go_, gc, hv, hcc, hgl, hcell⟩ := SlR.form2 HV.out (by have := HN.out; omega)
            injection hv with hv hvn hv2
            clear hvn
            subst hv hv2
            obtain ⟨vl, hL⟩ := hcell k hi x hx
            have HLA := Lib.hid (lineAt_of hx)
            have hpb := place_bound HTK.out ch k (by omega)
            have hbrl := branch_label HTK.out hi
            have hst := HTK.out.stand k hi
            have hcl := HLG6.out.cell k hlt
            obtain ⟨gp, gpo, gpc, hv2, hpc, hpl, hpcell⟩ := SlR.form2 HPI.out (by rw [placesL_len]; have := HN.out; omega)
            rw [placesL_len, ← HN.out] at hv2
            injection hv2 with hv2 hvn hv3
            clear hvn
            subst hv2 hv3
            have hpk := hpcell k (by rw [placesL_len]; exact hi) (placeP l ch k : Int) (by unfold placesL; simp [hi])
            rw [placesL_len] at hpc
            rw [Nat.mul_one] at hpk
            have hbb := bt HBP.out HBQ.out
            obtain ⟨q0, q1, q2, q3, q4, q5, q6, q7⟩ := hL
            obtain ⟨lp, lc, rfl⟩ := q7.form
            replace q0 := (hbb.cell (p := ⟨gb, go_ + k * 7, none⟩) hgl).trans q0
            replace q1 := (hbb.cell (p := ⟨gb, go_ + k * 7 + 1, none⟩) hgl).trans q1
            replace q2 := (hbb.cell (p := ⟨gb, go_ + k * 7 + 2, none⟩) hgl).trans q2
            replace q3 := (hbb.cell (p := ⟨gb, go_ + k * 7 + 3, none⟩) hgl).trans q3
            replace q4 := (hbb.cell (p := ⟨gb, go_ + k * 7 + 4, none⟩) hgl).trans q4
            replace q5 := (hbb.cell (p := ⟨gb, go_ + k * 7 + 5, none⟩) hgl).trans q5
            replace q6 := (hbb.cell (p := ⟨gb, go_ + k * 7 + 6, none⟩) hgl).trans q6
            have q8 := (HBQ.out.cell (p := ⟨bl, k, none⟩) hbl6).trans hcl
            have q9 := (HBQ.out.cell (p := ⟨gp, gpo + k, none⟩) hpl).trans hpk
            have l0 := Nat.lt_of_lt_of_le hgl hbb.size
            have l1 := Nat.lt_of_lt_of_le hbl6 HBQ.out.size
            have l2 := Nat.lt_of_lt_of_le hpl HBQ.out.size
            have l3 := Nat.lt_of_lt_of_le hal HBQ.out.size
            have i1 : (k : Int) < n := by omega
            have i2 : (n : Int) ≤ 9223372036854775807 := by omega
            have i3 : (n : Int) ≤ c := by have := HN.out; omega
            have i4 : (n : Int) ≤ cq := by have := HN.out; omega
            obtain ⟨P, hP⟩ : ∃ P, P = placeP l ch k := ⟨_, rfl⟩
            rw [← hP] at hpb q9
            have hdi : dispP l ch k = atP l ch x.label - P - 1 := by unfold dispP; rw [HLA.out, hP]
            rw [HLA.out] at hbrl hst
            obtain ⟨nl, hnl⟩ : ∃ m, m = x.list.length := ⟨_, rfl⟩
            cases hbr : isBr x with
            | false =>
              have HB := Lib.hid (fun w => hbr ▸ branch_any x lp x.list.length lc w)
              have HNB := Lib.hid (show isBr (lineAt l k) = false by rw [HLA.out]; exact hbr)
              unfold lineV at HB
              rw [← hnl] at HB q6
              clear hbrl hst hdi hbr hnl hcl hpk hpcell hcell hx hbb
              obtain ⟨xop, xa, xb, ximm, xn, xlabel, xlist⟩ := x
              simp only at q0 q1 q2 q3 q4 q5 q6 HB
              go_wp2
              refine wp_region_grow (by kernel_rfl) (by kernel_rfl) ?_
              have hgr := grow_cell wr
              repeat (go_big_quiet_step ((first | (go_at_call 20; refine Grow.call _ (HB.out _)) | (go_at_call 21; refine Grow.call_same _ (HNR.out _)))))
              refine wpQuiet_nil ?_
              rintro _ ⟨⟨w7, hb7⟩, rfl⟩
              clear hgr
              have HB7 := Lib.hid hb7
              clear hb7 q0 q1 q2 q3 q4 q5 q6 q8 q9
              go_wp2
              refine ⟨⟨k + 1, by omega, by go_num, ?_, ?_⟩, by simp [intOf]; omega⟩
              · exact Lib.hid (fun j hj h1 h2 => by
                  rcases Nat.lt_or_ge j k with h3 | h3
                  · exact HNE.out j h3 h1 h2
                  · obtain rfl : j = k := by omega
                    rw [HNB.out] at h1; cases h1)
              · exact Lib.hid (bt HBQ.out HB7.out)
            | true =>
              have hl0 := hbrl hbr
              have hbd := at_range ch (hst hbr)
              have hpe := place_bound HTK.out ch l.length (Nat.le_refl _)
              have hn6l : l.length ≤ 60000 := by have := HN.out; omega
              have HB := Lib.hid (fun w => hbr ▸ branch_any x lp x.list.length lc w)
              unfold lineV at HB
              rw [← hnl] at HB q6
              obtain ⟨lab, hlab⟩ : ∃ m : Nat, x.label = (m : Int) := ⟨x.label.toNat, by omega⟩
              have hl2 : lab < 100001 := by omega
              have hc9 := HAT.out.cell hl2
              obtain ⟨A, hA⟩ : ∃ A, A = atP l ch x.label := ⟨_, rfl⟩
              rw [← hA] at hbd hdi
              have q10 : wr.cell? ⟨ba, lab, none⟩ = some (.int .i64 A) := (HBQ.out.cell (p := ⟨ba, lab, none⟩) hal).trans (by rw [hc9, hA, hlab]; rfl)
              have w1 : IntKind.i64.wrap (A - P) = A - P := IntWalk.i64_in _ (by omega)
              have w2 : IntKind.i64.wrap (A - P - 1) = A - P - 1 := IntWalk.i64_in _ (by omega)
              have HDI := Lib.hid hdi
              rw [hlab] at q5
              have l5 : (0 : Int) ≤ lab := by omega
              have l6 : (lab : Int) < 100001 := by omega
              obtain ⟨xop, xa, xb, ximm, xn, xlabel, xlist⟩ := x
              simp only at q0 q1 q2 q3 q4 q5 q6 HB hlab
              subst hlab
              clear hbrl hst hdi hbr hnl hcl hpk hpcell hcell hx hbb hl0 hbd hpe hn6l hl2 hc9 hA hP hpb
              cases hlg : longAt ch k with
              | true =>
                have HLG7 := Lib.hid hlg
                rw [hlg] at q8
                clear hlg
                go_wp2
                refine wp_region_grow (by kernel_rfl) (by kernel_rfl) ?_
                have hgr := grow_cell wr
                repeat (go_big_quiet_step ((first | (go_at_call 20; refine Grow.call _ (HB.out _)) | (go_at_call 21; refine Grow.call_same _ (HNR.out _)))))
                refine wpQuiet_nil ?_
                rintro _ ⟨⟨w7, hb7⟩, rfl⟩
                clear hgr
                have HB7 := Lib.hid hb7
                clear hb7 q0 q1 q2 q3 q4 q5 q6 q8 q9 q10 w1 w2
                go_wp2
                refine ⟨⟨k + 1, by omega, by go_num, ?_, ?_⟩, by simp [intOf]; omega⟩
                · exact Lib.hid (fun j hj h1 h2 => by
                    rcases Nat.lt_or_ge j k with h3 | h3
                    · exact HNE.out j h3 h1 h2
                    · obtain rfl : j = k := by omega
                      rw [HLG7.out] at h2; cases h2)
                · exact Lib.hid (bt HBQ.out HB7.out)
              | false =>
                rw [hlg] at q8
                clear hlg
                cases hnr : nearB (A - P - 1) with
                | true =>
                  have HNR := Lib.hid (fun w => hnr ▸ near_any (A - P - 1) w)
                  have HNT := Lib.hid hnr
                  clear hnr
                  go_wp2
                  refine wp_region_grow (by kernel_rfl) (by kernel_rfl) ?_
                  have hgr := grow_cell wr
                  repeat (go_big_quiet_step ((first | (go_at_call 20; refine Grow.call _ (HB.out _)) | (go_at_call 21; refine Grow.call_same _ (HNR.out _)))))
                  refine wpQuiet_nil ?_
                  rintro _ ⟨⟨w7, hb7⟩, rfl⟩
                  clear hgr
                  have HB7 := Lib.hid hb7
                  clear hb7 q0 q1 q2 q3 q4 q5 q6 q8 q9 q10 w1 w2
                  go_wp2
                  refine ⟨⟨k + 1, by omega, by go_num, ?_, ?_⟩, by simp [intOf]; omega⟩
                  · exact Lib.hid (fun j hj h1 h2 => by
                      rcases Nat.lt_or_ge j k with h3 | h3
                      · exact HNE.out j h3 h1 h2
                      · obtain rfl : j = k := by omega
                        rw [HDI.out]; exact HNT.out)
                  · exact Lib.hid (bt HBQ.out HB7.out)
                | false =>
                  have HNR := Lib.hid (fun w => hnr ▸ near_any (A - P - 1) w)
                  clear hnr
                  go_wp2
                  refine wp_region_grow (by kernel_rfl) (by kernel_rfl) ?_
                  have hgr := grow_cell wr
                  repeat (go_big_quiet_step ((first | (go_at_call 20; refine Grow.call _ (HB.out _)) | (go_at_call 21; refine Grow.call_same _ (HNR.out _)))))
                  refine wpQuiet_nil ?_
                  rintro _ ⟨⟨w7, hb7⟩, rfl⟩
                  clear hgr
                  have HB7 := Lib.hid hb7
                  clear hb7 q0 q1 q2 q3 q4 q5 q6 q8 q9 q10 w1 w2
                  have kf7 := kf6.below (bt HBQ.out HB7.out)
                  go_wp2_with (go_at_call 13; refine (HL.out _ kf7).mono ?_; rintro e w8 ⟨rfl, hb8⟩)
                  go_ret
                  exact ⟨rfl, bt HBP.out (bt HBQ.out (bt HB7.out hb8))⟩
          · have HRE : Hid (Le (longP l).1 ch) := Lib.hid (HLE.out (fun j hj h1 h2 => HNE.out j (by have := HN.out; omega) h1 h2))
            have HB9 := Lib.hid (bt HBP.out HBQ.out)
            have HL9 := Lib.hid (HLG6.out.below HBQ.out)
            have HR9 := Lib.hid (HR6.out.below HBQ.out)
            have kf9 := kf6.below HBQ.out
            have HX9 := Lib.hid ((HBQ.out.block bx hbx6).trans HBX6.out)
            have hbl9 := Nat.lt_of_lt_of_le hbl6 HBQ.out.size
            have hbx9 := Nat.lt_of_lt_of_le hbx6 HBQ.out.size
            have hdk : decide (k < n) = false := decide_eq_false hlt
            clear hk hlt HNE HPI HAT HBP HBQ HLG6 HR6 kf6 HBX6 hbl6 hbx6 hal
            go_wp2
            clear hdk
            rename World => wo
            go_loopw [14] (fun i wq => ∃ k : Nat, k ≤ n ∧ i = .int .i64 k ∧ Hid (Below wo.heap.size wo wq)) (fun i _ => n - (intOf i).toNat)
            case atStart => exact ⟨0, Nat.zero_le _, rfl, Lib.hid (Below.refl _ _)⟩
            case round =>
              obtain ⟨k, hk, rfl, HBQ⟩ := hrel
              have i0 : (0 : Int) ≤ k := by omega
              by_cases hlt : k < n
              · have hi : k < l.length := by have := HN.out; omega
                obtain ⟨x, hx⟩ := getN HN.out hlt
                obtain ⟨gb, go_, gc, hv, hcc, hgl, hcell⟩ := SlR.form2 HV.out (by have := HN.out; omega)
                injection hv with hv hvn hv2
                clear hvn
                subst hv hv2
                obtain ⟨vl, hL⟩ := hcell k hi x hx
                have HLA := Lib.hid (lineAt_of hx)
                have hcl := HL9.out.cell k hlt
                have hbb := bt HB9.out HBQ.out
                obtain ⟨q0, q1, q2, q3, q4, q5, q6, q7⟩ := hL
                obtain ⟨lp, lc, rfl⟩ := q7.form
                replace q0 := (hbb.cell (p := ⟨gb, go_ + k * 7, none⟩) hgl).trans q0
                replace q1 := (hbb.cell (p := ⟨gb, go_ + k * 7 + 1, none⟩) hgl).trans q1
                replace q2 := (hbb.cell (p := ⟨gb, go_ + k * 7 + 2, none⟩) hgl).trans q2
                replace q3 := (hbb.cell (p := ⟨gb, go_ + k * 7 + 3, none⟩) hgl).trans q3
                replace q4 := (hbb.cell (p := ⟨gb, go_ + k * 7 + 4, none⟩) hgl).trans q4
                replace q5 := (hbb.cell (p := ⟨gb, go_ + k * 7 + 5, none⟩) hgl).trans q5
                replace q6 := (hbb.cell (p := ⟨gb, go_ + k * 7 + 6, none⟩) hgl).trans q6
                have q8 := (HBQ.out.cell (p := ⟨bl, k, none⟩) hbl9).trans hcl
                have l0 := Nat.lt_of_lt_of_le hgl hbb.size
                have l1 := Nat.lt_of_lt_of_le hbl9 HBQ.out.size
                have i1 : (k : Int) < n := by omega
                have i2 : (n : Int) ≤ 9223372036854775807 := by omega
                have i3 : (n : Int) ≤ c := by have := HN.out; omega
                obtain ⟨nl, hnl⟩ : ∃ m, m = x.list.length := ⟨_, rfl⟩
                cases hbr : isBr x with
                | false =>
                  have HB := Lib.hid (fun w => hbr ▸ branch_any x lp x.list.length lc w)
                  unfold lineV at HB
                  rw [← hnl] at HB q6
                  clear hbr hnl hcl hcell hx hbb
                  obtain ⟨xop, xa, xb, ximm, xn, xlabel, xlist⟩ := x
                  simp only at q0 q1 q2 q3 q4 q5 q6 HB
                  go_wp2_with (go_at_call 20; refine (HB.out _).mono ?_; rintro e w7 ⟨rfl, hb7⟩)
                  refine ⟨⟨k + 1, by omega, by go_num, Lib.hid (bt HBQ.out hb7)⟩, by simp [intOf]; omega⟩
                | true =>
                  have HB := Lib.hid (fun w => hbr ▸ branch_any x lp x.list.length lc w)
                  unfold lineV at HB
                  rw [← hnl] at HB q6
                  cases hlg : longAt ch k with
                  | true =>
                    rw [hlg] at q8
                    clear hbr hnl hcl hcell hx hbb hlg
                    obtain ⟨xop, xa, xb, ximm, xn, xlabel, xlist⟩ := x
                    simp only at q0 q1 q2 q3 q4 q5 q6 HB
                    go_wp2_with (go_at_call 20; refine (HB.out _).mono ?_; rintro e w7 ⟨rfl, hb7⟩; have HB7 := Lib.hid hb7; have d8 := hb7.cell (p := ⟨bl, k, none⟩) l1; clear hb7)
                    refine ⟨⟨k + 1, by omega, by go_num, Lib.hid (bt HBQ.out HB7.out)⟩, by simp [intOf]; omega⟩
                  | false =>
                    rw [hlg] at q8
                    have hsh : longAt (longP l).1 k = false := by
                      cases hz : longAt (longP l).1 k with
                      | false => rfl
                      | true => rw [HRE.out k hz] at hlg; cases hlg
                    obtain ⟨y, imm, hx1, hk1, hr1, hd1⟩ := HSC.out k hi (by rw [HLA.out]; exact hbr) hsh
                    have hpl := HP2.out k hi
                    obtain ⟨t, hT⟩ : ∃ t, t = placeP l (longP l).1 k := ⟨_, rfl⟩
                    rw [← hT] at hx1 hk1 hpl
                    rw [HLA.out] at hd1
                    have hap : a.places.length = n := by rw [HN.out]; exact HAP.out
                    obtain ⟨b1, o1, t', hvp, ht', hl1, e1, hcp1, _⟩ := ints_pt (p := pp) (n := n) (c := cp) HR9.out.places (k := k) (by omega)
                    subst hvp
                    obtain rfl : (t : Int) = t' := by rw [hpl] at ht'; simpa using ht'
                    have e2 := (HBQ.out.cell (p := ⟨b1, o1 + k, none⟩) hl1).trans e1
                    have hxb := (HBQ.out.block bx hbx9).trans HX9.out
                    have x0 := cell_of_block hxb (k := 0) rfl
                    have x1 := cell_of_block hxb (k := 1) rfl
                    have x2 := cell_of_block hxb (k := 2) rfl
                    have x3 := cell_of_block hxb (k := 3) rfl
                    have hbx1 := lt_of_block hxb
                    have hb11 := Nat.lt_of_lt_of_le hl1 HBQ.out.size
                    have kfr := kf9.below HBQ.out
                    have HRR := Lib.hid (HR9.out.below HBQ.out)
                    have i9 : (n : Int) ≤ cp := by omega
                    have HCC0 := Lib.hid (fun (w7 : World) (h7 : Below wr.heap.size wr w7) (wx : World) (hb : Below w7.heap.size w7 wx) => HCD.out _ _ _ wx (HRR.out.below (bt h7 hb)) (kfr.below (bt h7 hb)) t y _ hx1 hk1 hr1 hd1)
                    rw [← HRD.out] at HCC0
                    clear hbr hnl hcl hcell hx hbb hlg hsh hx1 hk1 hr1 hd1 hT hpl ht' hap e1 hxb hl1
                    obtain ⟨xop, xa, xb, ximm, xn, xlabel, xlist⟩ := x
                    simp only at q0 q1 q2 q3 q4 q5 q6 HB HCC0
                    go_wp2_with (go_at_call 20; refine (HB.out _).mono ?_; rintro e w7 ⟨rfl, hb7⟩; have HB7 := Lib.hid hb7; have d8 := (hb7.cell (p := ⟨bl, k, none⟩) l1).trans q8; have d0 := (hb7.cell (p := ⟨gb, go_ + k * 7, none⟩) l0).trans q0; have dx0 := (hb7.cell (p := ⟨bx, 0, none⟩) hbx1).trans x0; have dx1 := (hb7.cell (p := ⟨bx, 1, none⟩) hbx1).trans x1; have dx2 := (hb7.cell (p := ⟨bx, 2, none⟩) hbx1).trans x2; have dx3 := (hb7.cell (p := ⟨bx, 3, none⟩) hbx1).trans x3; have de := (hb7.cell (p := ⟨b1, o1 + k, none⟩) hb11).trans e2; have m0 := Nat.lt_of_lt_of_le l0 hb7.size; have m1 := Nat.lt_of_lt_of_le hbx1 hb7.size; have m2 := Nat.lt_of_lt_of_le hb11 hb7.size; have HCC := Lib.hid (HCC0.out w7 hb7); clear hb7)
                    have u0 : w7.heap.size ≠ bx := by omega
                    have u1 : bx ≠ w7.heap.size := by omega
                    have u2 : w7.heap.size ≠ b1 := by omega
                    have u3 : b1 ≠ w7.heap.size := by omega
                    have u4 : w7.heap.size ≠ gb := by omega
                    have u5 : gb ≠ w7.heap.size := by omega
                    clear q0 q1 q2 q3 q4 q5 q6 q8 x0 x1 x2 x3 e2
                    go_region_held3 (fun w' => w'.cell? ⟨bx, 0, none⟩ = some (.slice pw nw cw) ∧ w'.cell? ⟨bx, 1, none⟩ = some (.slice pk nk ck) ∧ w'.cell? ⟨bx, 2, none⟩ = some (.slice (some ⟨b1, o1, none⟩) n cp) ∧ w'.cell? ⟨bx, 3, none⟩ = some (.int .i64 rd) ∧ w'.cell? ⟨b1, o1 + k, none⟩ = some (.int .i64 (t : Int))) (go_keep)
                      (first
                        | (go_at_call 22; refine (HCC.out _ (((Below.refl _ w7).drew).alloc (Nat.le_refl _) _)).mono ?_; rintro e w8 ⟨rfl, hb8⟩; have H8 := Lib.hid hb8; have c0 := hb8.cell (p := ⟨bx, 0, none⟩) (by first | (simp; done) | (simp; omega) | omega); have c1 := hb8.cell (p := ⟨bx, 1, none⟩) (by first | (simp; done) | (simp; omega) | omega); have c2 := hb8.cell (p := ⟨bx, 2, none⟩) (by first | (simp; done) | (simp; omega) | omega); have c3 := hb8.cell (p := ⟨bx, 3, none⟩) (by first | (simp; done) | (simp; omega) | omega); have c5 := hb8.cell (p := ⟨gb, go_ + k * 7, none⟩) (by first | (simp; done) | (simp; omega) | omega); have c4 := hb8.cell (p := ⟨b1, o1 + k, none⟩) (by first | (simp; done) | (simp; omega) | omega); have n0 := hb8.cell (p := ⟨w7.heap.size, 0, none⟩) (by first | (simp; done) | (simp; omega) | omega); have z0 := hb8.frozen (p := ⟨w7.heap.size, 0, none⟩) (by first | (simp; done) | (simp; omega) | omega); have n1 := hb8.cell (p := ⟨w7.heap.size, 1, none⟩) (by first | (simp; done) | (simp; omega) | omega); have z1 := hb8.frozen (p := ⟨w7.heap.size, 1, none⟩) (by first | (simp; done) | (simp; omega) | omega); have n2 := hb8.cell (p := ⟨w7.heap.size, 2, none⟩) (by first | (simp; done) | (simp; omega) | omega); have z2 := hb8.frozen (p := ⟨w7.heap.size, 2, none⟩) (by first | (simp; done) | (simp; omega) | omega); have n3 := hb8.cell (p := ⟨w7.heap.size, 3, none⟩) (by first | (simp; done) | (simp; omega) | omega); have z3 := hb8.frozen (p := ⟨w7.heap.size, 3, none⟩) (by first | (simp; done) | (simp; omega) | omega); have sz8 : w7.heap.size < w8.heap.size := Nat.lt_of_lt_of_le (by simp) hb8.size; have sx8 : bx < w8.heap.size := (by omega); have sv8 : gb < w8.heap.size := (by omega); have sw8 : b1 < w8.heap.size := (by omega); clear hb8)
                        | (go_at_call 22; refine (HCC.out _ ((Below.refl _ w7).drew)).mono ?_; rintro e w8 ⟨rfl, hb8⟩; have H8 := Lib.hid hb8; have c0 := hb8.cell (p := ⟨bx, 0, none⟩) (by first | (simp; done) | (simp; omega) | omega); have c1 := hb8.cell (p := ⟨bx, 1, none⟩) (by first | (simp; done) | (simp; omega) | omega); have c2 := hb8.cell (p := ⟨bx, 2, none⟩) (by first | (simp; done) | (simp; omega) | omega); have c3 := hb8.cell (p := ⟨bx, 3, none⟩) (by first | (simp; done) | (simp; omega) | omega); have c5 := hb8.cell (p := ⟨gb, go_ + k * 7, none⟩) (by first | (simp; done) | (simp; omega) | omega); have c4 := hb8.cell (p := ⟨b1, o1 + k, none⟩) (by first | (simp; done) | (simp; omega) | omega); have sy8 : w7.heap.size ≤ w8.heap.size := Nat.le_trans (by simp) hb8.size; have sx8 : bx < w8.heap.size := (by omega); have sv8 : gb < w8.heap.size := (by omega); have sw8 : b1 < w8.heap.size := (by omega); have t1 : w8.heap.size ≠ bx := (by omega); have t2 : w8.heap.size ≠ b1 := (by omega); have t3 : w8.heap.size ≠ gb := (by omega); clear hb8))
                    · go_wp2
                      go_quiet (fail)
                      go_wp2
                      refine ⟨⟨k + 1, by omega, by go_num, Lib.hid (bt HBQ.out (bt HB7.out (below_drew ((bt ((Below.refl _ w7).drew) H8.out).alloc (by omega) _) _)))⟩, by simp [intOf]; omega⟩
                    · go_wp2
                      go_quiet (fail)
                      go_wp2
                      refine ⟨⟨k + 1, by omega, by go_num, Lib.hid (bt HBQ.out (bt HB7.out (below_drew ((((((bt (((Below.refl _ w7).drew).alloc (Nat.le_refl _) _) H8.out).setCell (Nat.le_refl _) _).setCell (Nat.le_refl _) _).setCell (Nat.le_refl _) _).setCell (Nat.le_refl _) _)) _)))⟩, by simp [intOf]; omega⟩
              · have i1 : decide (k < n) = false := decide_eq_false hlt
                have kfr := kf9.below HBQ.out
                clear hlt
                go_wp2_with (go_at_call 13; refine (HL.out _ kfr).mono ?_; rintro e w8 ⟨rfl, hb8⟩)
                go_ret
                exact ⟨rfl, bt HB9.out (bt HBQ.out hb8)⟩
      case inr =>
        have i6 : decide (k < n) = false := decide_eq_false (by omega)
        clear hc1
        go_wp2_with (
        (go_at_call 19; refine (HPL.out _ bl wr (HV.out.below HBW.out) HLG.out).mono ?_; rintro e w6 ⟨vp, rfl, ho, hat, hb6⟩; have hpi := ints_of_own (l := placesL l ch l.length) (by rw [placesL_len]; exact ho); have hvp := hpi.form; rw [placesL_len, ← HN.out] at hvp; obtain ⟨pq, cq, rfl⟩ := hvp; clear i6; have HPI := Lib.hid hpi; have HAT := Lib.hid hat; have H6 := Lib.hid hb6; clear hpi hat hb6 ho))
        have HBP := Lib.hid (bt HBW.out H6.out)
        have HLG6 := Lib.hid (HLG.out.below H6.out)
        have HR6 := Lib.hid (HR5.out.below H6.out)
        have kf6 := kf5.below H6.out
        have hbxlt : bx < wr.heap.size := lt_of_block HBX5.out
        have HBX6 := Lib.hid ((H6.out.block bx hbxlt).trans HBX5.out)
        obtain ⟨ba, hba⟩ : ∃ ba, ba = wr.heap.size := ⟨_, rfl⟩
        rw [← hba] at HAT ⊢
        have hal : ba < w6.heap.size := HAT.out.lt
        have hbl6 : bl < w6.heap.size := HLG6.out.lt
        have hbx6 : bx < w6.heap.size := lt_of_block HBX6.out
        clear hbxlt hba HLG HR5 kf5 HBX5 H6 HBW HRW HBR hlt5
        go_loopw [13] (fun i wq => ∃ k : Nat, k ≤ n ∧ i = .int .i64 k ∧ Hid (∀ j, j < k → isBr (lineAt l j) = true → longAt ch j = false → nearB (dispP l ch j) = true) ∧ Hid (Below w6.heap.size w6 wq)) (fun i _ => n - (intOf i).toNat)
        case atStart => exact ⟨0, Nat.zero_le _, rfl, Lib.hid (fun j hj => absurd hj (Nat.not_lt_zero _)), Lib.hid (Below.refl _ _)⟩
        case round =>
          obtain ⟨k, hk, rfl, HNE, HBQ⟩ := hrel
          have i0 : (0 : Int) ≤ k := by omega
          by_cases hlt : k < n
          · have hi : k < l.length := by have := HN.out; omega
            obtain ⟨x, hx⟩ := getN HN.out hlt
            obtain ⟨gb, go_, gc, hv, hcc, hgl, hcell⟩ := SlR.form2 HV.out (by have := HN.out; omega)
            injection hv with hv hvn hv2
            clear hvn
            subst hv hv2
            obtain ⟨vl, hL⟩ := hcell k hi x hx
            have HLA := Lib.hid (lineAt_of hx)
            have hpb := place_bound HTK.out ch k (by omega)
            have hbrl := branch_label HTK.out hi
            have hst := HTK.out.stand k hi
            have hcl := HLG6.out.cell k hlt
            obtain ⟨gp, gpo, gpc, hv2, hpc, hpl, hpcell⟩ := SlR.form2 HPI.out (by rw [placesL_len]; have := HN.out; omega)
            rw [placesL_len, ← HN.out] at hv2
            injection hv2 with hv2 hvn hv3
            clear hvn
            subst hv2 hv3
            have hpk := hpcell k (by rw [placesL_len]; exact hi) (placeP l ch k : Int) (by unfold placesL; simp [hi])
            rw [placesL_len] at hpc
            rw [Nat.mul_one] at hpk
            have hbb := bt HBP.out HBQ.out
            obtain ⟨q0, q1, q2, q3, q4, q5, q6, q7⟩ := hL
            obtain ⟨lp, lc, rfl⟩ := q7.form
            replace q0 := (hbb.cell (p := ⟨gb, go_ + k * 7, none⟩) hgl).trans q0
            replace q1 := (hbb.cell (p := ⟨gb, go_ + k * 7 + 1, none⟩) hgl).trans q1
            replace q2 := (hbb.cell (p := ⟨gb, go_ + k * 7 + 2, none⟩) hgl).trans q2
            replace q3 := (hbb.cell (p := ⟨gb, go_ + k * 7 + 3, none⟩) hgl).trans q3
            replace q4 := (hbb.cell (p := ⟨gb, go_ + k * 7 + 4, none⟩) hgl).trans q4
            replace q5 := (hbb.cell (p := ⟨gb, go_ + k * 7 + 5, none⟩) hgl).trans q5
            replace q6 := (hbb.cell (p := ⟨gb, go_ + k * 7 + 6, none⟩) hgl).trans q6
            have q8 := (HBQ.out.cell (p := ⟨bl, k, none⟩) hbl6).trans hcl
            have q9 := (HBQ.out.cell (p := ⟨gp, gpo + k, none⟩) hpl).trans hpk
            have l0 := Nat.lt_of_lt_of_le hgl hbb.size
            have l1 := Nat.lt_of_lt_of_le hbl6 HBQ.out.size
            have l2 := Nat.lt_of_lt_of_le hpl HBQ.out.size
            have l3 := Nat.lt_of_lt_of_le hal HBQ.out.size
            have i1 : (k : Int) < n := by omega
            have i2 : (n : Int) ≤ 9223372036854775807 := by omega
            have i3 : (n : Int) ≤ c := by have := HN.out; omega
            have i4 : (n : Int) ≤ cq := by have := HN.out; omega
            obtain ⟨P, hP⟩ : ∃ P, P = placeP l ch k := ⟨_, rfl⟩
            rw [← hP] at hpb q9
            have hdi : dispP l ch k = atP l ch x.label - P - 1 := by unfold dispP; rw [HLA.out, hP]
            rw [HLA.out] at hbrl hst
            obtain ⟨nl, hnl⟩ : ∃ m, m = x.list.length := ⟨_, rfl⟩
            cases hbr : isBr x with
            | false =>
              have HB := Lib.hid (fun w => hbr ▸ branch_any x lp x.list.length lc w)
              have HNB := Lib.hid (show isBr (lineAt l k) = false by rw [HLA.out]; exact hbr)
              unfold lineV at HB
              rw [← hnl] at HB q6
              clear hbrl hst hdi hbr hnl hcl hpk hpcell hcell hx hbb
              obtain ⟨xop, xa, xb, ximm, xn, xlabel, xlist⟩ := x
              simp only at q0 q1 q2 q3 q4 q5 q6 HB
              go_wp2
              refine wp_region_grow (by kernel_rfl) (by kernel_rfl) ?_
              have hgr := grow_cell wr
              repeat (go_big_quiet_step ((first | (go_at_call 20; refine Grow.call _ (HB.out _)) | (go_at_call 21; refine Grow.call_same _ (HNR.out _)))))
              refine wpQuiet_nil ?_
              rintro _ ⟨⟨w7, hb7⟩, rfl⟩
              clear hgr
              have HB7 := Lib.hid hb7
              clear hb7 q0 q1 q2 q3 q4 q5 q6 q8 q9
              go_wp2
              refine ⟨⟨k + 1, by omega, by go_num, ?_, ?_⟩, by simp [intOf]; omega⟩
              · exact Lib.hid (fun j hj h1 h2 => by
                  rcases Nat.lt_or_ge j k with h3 | h3
                  · exact HNE.out j h3 h1 h2
                  · obtain rfl : j = k := by omega
                    rw [HNB.out] at h1; cases h1)
              · exact Lib.hid (bt HBQ.out HB7.out)
            | true =>
              have hl0 := hbrl hbr
              have hbd := at_range ch (hst hbr)
              have hpe := place_bound HTK.out ch l.length (Nat.le_refl _)
              have hn6l : l.length ≤ 60000 := by have := HN.out; omega
              have HB := Lib.hid (fun w => hbr ▸ branch_any x lp x.list.length lc w)
              unfold lineV at HB
              rw [← hnl] at HB q6
              obtain ⟨lab, hlab⟩ : ∃ m : Nat, x.label = (m : Int) := ⟨x.label.toNat, by omega⟩
              have hl2 : lab < 100001 := by omega
              have hc9 := HAT.out.cell hl2
              obtain ⟨A, hA⟩ : ∃ A, A = atP l ch x.label := ⟨_, rfl⟩
              rw [← hA] at hbd hdi
              have q10 : wr.cell? ⟨ba, lab, none⟩ = some (.int .i64 A) := (HBQ.out.cell (p := ⟨ba, lab, none⟩) hal).trans (by rw [hc9, hA, hlab]; rfl)
              have w1 : IntKind.i64.wrap (A - P) = A - P := IntWalk.i64_in _ (by omega)
              have w2 : IntKind.i64.wrap (A - P - 1) = A - P - 1 := IntWalk.i64_in _ (by omega)
              have HDI := Lib.hid hdi
              rw [hlab] at q5
              have l5 : (0 : Int) ≤ lab := by omega
              have l6 : (lab : Int) < 100001 := by omega
              obtain ⟨xop, xa, xb, ximm, xn, xlabel, xlist⟩ := x
              simp only at q0 q1 q2 q3 q4 q5 q6 HB hlab
              subst hlab
              clear hbrl hst hdi hbr hnl hcl hpk hpcell hcell hx hbb hl0 hbd hpe hn6l hl2 hc9 hA hP hpb
              cases hlg : longAt ch k with
              | true =>
                have HLG7 := Lib.hid hlg
                rw [hlg] at q8
                clear hlg
                go_wp2
                refine wp_region_grow (by kernel_rfl) (by kernel_rfl) ?_
                have hgr := grow_cell wr
                repeat (go_big_quiet_step ((first | (go_at_call 20; refine Grow.call _ (HB.out _)) | (go_at_call 21; refine Grow.call_same _ (HNR.out _)))))
                refine wpQuiet_nil ?_
                rintro _ ⟨⟨w7, hb7⟩, rfl⟩
                clear hgr
                have HB7 := Lib.hid hb7
                clear hb7 q0 q1 q2 q3 q4 q5 q6 q8 q9 q10 w1 w2
                go_wp2
                refine ⟨⟨k + 1, by omega, by go_num, ?_, ?_⟩, by simp [intOf]; omega⟩
                · exact Lib.hid (fun j hj h1 h2 => by
                    rcases Nat.lt_or_ge j k with h3 | h3
                    · exact HNE.out j h3 h1 h2
                    · obtain rfl : j = k := by omega
                      rw [HLG7.out] at h2; cases h2)
                · exact Lib.hid (bt HBQ.out HB7.out)
              | false =>
                rw [hlg] at q8
                clear hlg
                cases hnr : nearB (A - P - 1) with
                | true =>
                  have HNR := Lib.hid (fun w => hnr ▸ near_any (A - P - 1) w)
                  have HNT := Lib.hid hnr
                  clear hnr
                  go_wp2
                  refine wp_region_grow (by kernel_rfl) (by kernel_rfl) ?_
                  have hgr := grow_cell wr
                  repeat (go_big_quiet_step ((first | (go_at_call 20; refine Grow.call _ (HB.out _)) | (go_at_call 21; refine Grow.call_same _ (HNR.out _)))))
                  refine wpQuiet_nil ?_
                  rintro _ ⟨⟨w7, hb7⟩, rfl⟩
                  clear hgr
                  have HB7 := Lib.hid hb7
                  clear hb7 q0 q1 q2 q3 q4 q5 q6 q8 q9 q10 w1 w2
                  go_wp2
                  refine ⟨⟨k + 1, by omega, by go_num, ?_, ?_⟩, by simp [intOf]; omega⟩
                  · exact Lib.hid (fun j hj h1 h2 => by
                      rcases Nat.lt_or_ge j k with h3 | h3
                      · exact HNE.out j h3 h1 h2
                      · obtain rfl : j = k := by omega
                        rw [HDI.out]; exact HNT.out)
                  · exact Lib.hid (bt HBQ.out HB7.out)
                | false =>
                  have HNR := Lib.hid (fun w => hnr ▸ near_any (A - P - 1) w)
                  clear hnr
                  go_wp2
                  refine wp_region_grow (by kernel_rfl) (by kernel_rfl) ?_
                  have hgr := grow_cell wr
                  repeat (go_big_quiet_step ((first | (go_at_call 20; refine Grow.call _ (HB.out _)) | (go_at_call 21; refine Grow.call_same _ (HNR.out _)))))
                  refine wpQuiet_nil ?_
                  rintro _ ⟨⟨w7, hb7⟩, rfl⟩
                  clear hgr
                  have HB7 := Lib.hid hb7
                  clear hb7 q0 q1 q2 q3 q4 q5 q6 q8 q9 q10 w1 w2
                  have kf7 := kf6.below (bt HBQ.out HB7.out)
                  go_wp2_with (go_at_call 13; refine (HL.out _ kf7).mono ?_; rintro e w8 ⟨rfl, hb8⟩)
                  go_ret
                  exact ⟨rfl, bt HBP.out (bt HBQ.out (bt HB7.out hb8))⟩
          · have HRE : Hid (Le (longP l).1 ch) := Lib.hid (HLE.out (fun j hj h1 h2 => HNE.out j (by have := HN.out; omega) h1 h2))
            have HB9 := Lib.hid (bt HBP.out HBQ.out)
            have HL9 := Lib.hid (HLG6.out.below HBQ.out)
            have HR9 := Lib.hid (HR6.out.below HBQ.out)
            have kf9 := kf6.below HBQ.out
            have HX9 := Lib.hid ((HBQ.out.block bx hbx6).trans HBX6.out)
            have hbl9 := Nat.lt_of_lt_of_le hbl6 HBQ.out.size
            have hbx9 := Nat.lt_of_lt_of_le hbx6 HBQ.out.size
            have hdk : decide (k < n) = false := decide_eq_false hlt
            clear hk hlt HNE HPI HAT HBP HBQ HLG6 HR6 kf6 HBX6 hbl6 hbx6 hal
            go_wp2
            clear hdk
            rename World => wo
            go_loopw [14] (fun i wq => ∃ k : Nat, k ≤ n ∧ i = .int .i64 k ∧ Hid (Below wo.heap.size wo wq)) (fun i _ => n - (intOf i).toNat)
            case atStart => exact ⟨0, Nat.zero_le _, rfl, Lib.hid (Below.refl _ _)⟩
            case round =>
              obtain ⟨k, hk, rfl, HBQ⟩ := hrel
              have i0 : (0 : Int) ≤ k := by omega
              by_cases hlt : k < n
              · have hi : k < l.length := by have := HN.out; omega
                obtain ⟨x, hx⟩ := getN HN.out hlt
                obtain ⟨gb, go_, gc, hv, hcc, hgl, hcell⟩ := SlR.form2 HV.out (by have := HN.out; omega)
                injection hv with hv hvn hv2
                clear hvn
                subst hv hv2
                obtain ⟨vl, hL⟩ := hcell k hi x hx
                have HLA := Lib.hid (lineAt_of hx)
                have hcl := HL9.out.cell k hlt
                have hbb := bt HB9.out HBQ.out
                obtain ⟨q0, q1, q2, q3, q4, q5, q6, q7⟩ := hL
                obtain ⟨lp, lc, rfl⟩ := q7.form
                replace q0 := (hbb.cell (p := ⟨gb, go_ + k * 7, none⟩) hgl).trans q0
                replace q1 := (hbb.cell (p := ⟨gb, go_ + k * 7 + 1, none⟩) hgl).trans q1
                replace q2 := (hbb.cell (p := ⟨gb, go_ + k * 7 + 2, none⟩) hgl).trans q2
                replace q3 := (hbb.cell (p := ⟨gb, go_ + k * 7 + 3, none⟩) hgl).trans q3
                replace q4 := (hbb.cell (p := ⟨gb, go_ + k * 7 + 4, none⟩) hgl).trans q4
                replace q5 := (hbb.cell (p := ⟨gb, go_ + k * 7 + 5, none⟩) hgl).trans q5
                replace q6 := (hbb.cell (p := ⟨gb, go_ + k * 7 + 6, none⟩) hgl).trans q6
                have q8 := (HBQ.out.cell (p := ⟨bl, k, none⟩) hbl9).trans hcl
                have l0 := Nat.lt_of_lt_of_le hgl hbb.size
                have l1 := Nat.lt_of_lt_of_le hbl9 HBQ.out.size
                have i1 : (k : Int) < n := by omega
                have i2 : (n : Int) ≤ 9223372036854775807 := by omega
                have i3 : (n : Int) ≤ c := by have := HN.out; omega
                obtain ⟨nl, hnl⟩ : ∃ m, m = x.list.length := ⟨_, rfl⟩
                cases hbr : isBr x with
                | false =>
                  have HB := Lib.hid (fun w => hbr ▸ branch_any x lp x.list.length lc w)
                  unfold lineV at HB
                  rw [← hnl] at HB q6
                  clear hbr hnl hcl hcell hx hbb
                  obtain ⟨xop, xa, xb, ximm, xn, xlabel, xlist⟩ := x
                  simp only at q0 q1 q2 q3 q4 q5 q6 HB
                  go_wp2_with (go_at_call 20; refine (HB.out _).mono ?_; rintro e w7 ⟨rfl, hb7⟩)
                  refine ⟨⟨k + 1, by omega, by go_num, Lib.hid (bt HBQ.out hb7)⟩, by simp [intOf]; omega⟩
                | true =>
                  have HB := Lib.hid (fun w => hbr ▸ branch_any x lp x.list.length lc w)
                  unfold lineV at HB
                  rw [← hnl] at HB q6
                  cases hlg : longAt ch k with
                  | true =>
                    rw [hlg] at q8
                    clear hbr hnl hcl hcell hx hbb hlg
                    obtain ⟨xop, xa, xb, ximm, xn, xlabel, xlist⟩ := x
                    simp only at q0 q1 q2 q3 q4 q5 q6 HB
                    go_wp2_with (go_at_call 20; refine (HB.out _).mono ?_; rintro e w7 ⟨rfl, hb7⟩; have HB7 := Lib.hid hb7; have d8 := hb7.cell (p := ⟨bl, k, none⟩) l1; clear hb7)
                    refine ⟨⟨k + 1, by omega, by go_num, Lib.hid (bt HBQ.out HB7.out)⟩, by simp [intOf]; omega⟩
                  | false =>
                    rw [hlg] at q8
                    have hsh : longAt (longP l).1 k = false := by
                      cases hz : longAt (longP l).1 k with
                      | false => rfl
                      | true => rw [HRE.out k hz] at hlg; cases hlg
                    obtain ⟨y, imm, hx1, hk1, hr1, hd1⟩ := HSC.out k hi (by rw [HLA.out]; exact hbr) hsh
                    have hpl := HP2.out k hi
                    obtain ⟨t, hT⟩ : ∃ t, t = placeP l (longP l).1 k := ⟨_, rfl⟩
                    rw [← hT] at hx1 hk1 hpl
                    rw [HLA.out] at hd1
                    have hap : a.places.length = n := by rw [HN.out]; exact HAP.out
                    obtain ⟨b1, o1, t', hvp, ht', hl1, e1, hcp1, _⟩ := ints_pt (p := pp) (n := n) (c := cp) HR9.out.places (k := k) (by omega)
                    subst hvp
                    obtain rfl : (t : Int) = t' := by rw [hpl] at ht'; simpa using ht'
                    have e2 := (HBQ.out.cell (p := ⟨b1, o1 + k, none⟩) hl1).trans e1
                    have hxb := (HBQ.out.block bx hbx9).trans HX9.out
                    have x0 := cell_of_block hxb (k := 0) rfl
                    have x1 := cell_of_block hxb (k := 1) rfl
                    have x2 := cell_of_block hxb (k := 2) rfl
                    have x3 := cell_of_block hxb (k := 3) rfl
                    have hbx1 := lt_of_block hxb
                    have hb11 := Nat.lt_of_lt_of_le hl1 HBQ.out.size
                    have kfr := kf9.below HBQ.out
                    have HRR := Lib.hid (HR9.out.below HBQ.out)
                    have i9 : (n : Int) ≤ cp := by omega
                    have HCC0 := Lib.hid (fun (w7 : World) (h7 : Below wr.heap.size wr w7) (wx : World) (hb : Below w7.heap.size w7 wx) => HCD.out _ _ _ wx (HRR.out.below (bt h7 hb)) (kfr.below (bt h7 hb)) t y _ hx1 hk1 hr1 hd1)
                    rw [← HRD.out] at HCC0
                    clear hbr hnl hcl hcell hx hbb hlg hsh hx1 hk1 hr1 hd1 hT hpl ht' hap e1 hxb hl1
                    obtain ⟨xop, xa, xb, ximm, xn, xlabel, xlist⟩ := x
                    simp only at q0 q1 q2 q3 q4 q5 q6 HB HCC0
                    go_wp2_with (go_at_call 20; refine (HB.out _).mono ?_; rintro e w7 ⟨rfl, hb7⟩; have HB7 := Lib.hid hb7; have d8 := (hb7.cell (p := ⟨bl, k, none⟩) l1).trans q8; have d0 := (hb7.cell (p := ⟨gb, go_ + k * 7, none⟩) l0).trans q0; have dx0 := (hb7.cell (p := ⟨bx, 0, none⟩) hbx1).trans x0; have dx1 := (hb7.cell (p := ⟨bx, 1, none⟩) hbx1).trans x1; have dx2 := (hb7.cell (p := ⟨bx, 2, none⟩) hbx1).trans x2; have dx3 := (hb7.cell (p := ⟨bx, 3, none⟩) hbx1).trans x3; have de := (hb7.cell (p := ⟨b1, o1 + k, none⟩) hb11).trans e2; have m0 := Nat.lt_of_lt_of_le l0 hb7.size; have m1 := Nat.lt_of_lt_of_le hbx1 hb7.size; have m2 := Nat.lt_of_lt_of_le hb11 hb7.size; have HCC := Lib.hid (HCC0.out w7 hb7); clear hb7)
                    have u0 : w7.heap.size ≠ bx := by omega
                    have u1 : bx ≠ w7.heap.size := by omega
                    have u2 : w7.heap.size ≠ b1 := by omega
                    have u3 : b1 ≠ w7.heap.size := by omega
                    have u4 : w7.heap.size ≠ gb := by omega
                    have u5 : gb ≠ w7.heap.size := by omega
                    clear q0 q1 q2 q3 q4 q5 q6 q8 x0 x1 x2 x3 e2
                    go_region_held3 (fun w' => w'.cell? ⟨bx, 0, none⟩ = some (.slice pw nw cw) ∧ w'.cell? ⟨bx, 1, none⟩ = some (.slice pk nk ck) ∧ w'.cell? ⟨bx, 2, none⟩ = some (.slice (some ⟨b1, o1, none⟩) n cp) ∧ w'.cell? ⟨bx, 3, none⟩ = some (.int .i64 rd) ∧ w'.cell? ⟨b1, o1 + k, none⟩ = some (.int .i64 (t : Int))) (go_keep)
                      (first
                        | (go_at_call 22; refine (HCC.out _ (((Below.refl _ w7).drew).alloc (Nat.le_refl _) _)).mono ?_; rintro e w8 ⟨rfl, hb8⟩; have H8 := Lib.hid hb8; have c0 := hb8.cell (p := ⟨bx, 0, none⟩) (by first | (simp; done) | (simp; omega) | omega); have c1 := hb8.cell (p := ⟨bx, 1, none⟩) (by first | (simp; done) | (simp; omega) | omega); have c2 := hb8.cell (p := ⟨bx, 2, none⟩) (by first | (simp; done) | (simp; omega) | omega); have c3 := hb8.cell (p := ⟨bx, 3, none⟩) (by first | (simp; done) | (simp; omega) | omega); have c5 := hb8.cell (p := ⟨gb, go_ + k * 7, none⟩) (by first | (simp; done) | (simp; omega) | omega); have c4 := hb8.cell (p := ⟨b1, o1 + k, none⟩) (by first | (simp; done) | (simp; omega) | omega); have n0 := hb8.cell (p := ⟨w7.heap.size, 0, none⟩) (by first | (simp; done) | (simp; omega) | omega); have z0 := hb8.frozen (p := ⟨w7.heap.size, 0, none⟩) (by first | (simp; done) | (simp; omega) | omega); have n1 := hb8.cell (p := ⟨w7.heap.size, 1, none⟩) (by first | (simp; done) | (simp; omega) | omega); have z1 := hb8.frozen (p := ⟨w7.heap.size, 1, none⟩) (by first | (simp; done) | (simp; omega) | omega); have n2 := hb8.cell (p := ⟨w7.heap.size, 2, none⟩) (by first | (simp; done) | (simp; omega) | omega); have z2 := hb8.frozen (p := ⟨w7.heap.size, 2, none⟩) (by first | (simp; done) | (simp; omega) | omega); have n3 := hb8.cell (p := ⟨w7.heap.size, 3, none⟩) (by first | (simp; done) | (simp; omega) | omega); have z3 := hb8.frozen (p := ⟨w7.heap.size, 3, none⟩) (by first | (simp; done) | (simp; omega) | omega); have sz8 : w7.heap.size < w8.heap.size := Nat.lt_of_lt_of_le (by simp) hb8.size; have sx8 : bx < w8.heap.size := (by omega); have sv8 : gb < w8.heap.size := (by omega); have sw8 : b1 < w8.heap.size := (by omega); clear hb8)
                        | (go_at_call 22; refine (HCC.out _ ((Below.refl _ w7).drew)).mono ?_; rintro e w8 ⟨rfl, hb8⟩; have H8 := Lib.hid hb8; have c0 := hb8.cell (p := ⟨bx, 0, none⟩) (by first | (simp; done) | (simp; omega) | omega); have c1 := hb8.cell (p := ⟨bx, 1, none⟩) (by first | (simp; done) | (simp; omega) | omega); have c2 := hb8.cell (p := ⟨bx, 2, none⟩) (by first | (simp; done) | (simp; omega) | omega); have c3 := hb8.cell (p := ⟨bx, 3, none⟩) (by first | (simp; done) | (simp; omega) | omega); have c5 := hb8.cell (p := ⟨gb, go_ + k * 7, none⟩) (by first | (simp; done) | (simp; omega) | omega); have c4 := hb8.cell (p := ⟨b1, o1 + k, none⟩) (by first | (simp; done) | (simp; omega) | omega); have sy8 : w7.heap.size ≤ w8.heap.size := Nat.le_trans (by simp) hb8.size; have sx8 : bx < w8.heap.size := (by omega); have sv8 : gb < w8.heap.size := (by omega); have sw8 : b1 < w8.heap.size := (by omega); have t1 : w8.heap.size ≠ bx := (by omega); have t2 : w8.heap.size ≠ b1 := (by omega); have t3 : w8.heap.size ≠ gb := (by omega); clear hb8))
                    · go_wp2
                      go_quiet (fail)
                      go_wp2
                      refine ⟨⟨k + 1, by omega, by go_num, Lib.hid (bt HBQ.out (bt HB7.out (below_drew ((bt ((Below.refl _ w7).drew) H8.out).alloc (by omega) _) _)))⟩, by simp [intOf]; omega⟩
                    · go_wp2
                      go_quiet (fail)
                      go_wp2
                      refine ⟨⟨k + 1, by omega, by go_num, Lib.hid (bt HBQ.out (bt HB7.out (below_drew ((((((bt (((Below.refl _ w7).drew).alloc (Nat.le_refl _) _) H8.out).setCell (Nat.le_refl _) _).setCell (Nat.le_refl _) _).setCell (Nat.le_refl _) _).setCell (Nat.le_refl _) _)) _)))⟩, by simp [intOf]; omega⟩
              · have i1 : decide (k < n) = false := decide_eq_false hlt
                have kfr := kf9.below HBQ.out
                clear hlt
                go_wp2_with (go_at_call 13; refine (HL.out _ kfr).mono ?_; rintro e w8 ⟨rfl, hb8⟩)
                go_ret
                exact ⟨rfl, bt HB9.out (bt HBQ.out hb8)⟩
end Go.Proofs.YtmnhafncdblklaaDoor.Relax
