/- The law LiveSteps, at any graph. No condition but sizes and the table of bits. -/
import Derived.Test.YtcijaaiopfbffaaDoorVA
namespace Go.Proofs.YtcijaaiopfbffaaDoor.Live
open Go.RowKit Go.Proofs.YtcijaaiopfbffaaDoor.Graph Go.Shelf

theorem mem_needL {x : PGr} {b k : Nat} (hk : k < x.temps.toNat) : (k : Int) ∈ needL x b ↔ Need x b (k : Int) := by
  unfold needL needN
  simp only [List.mem_map, List.mem_filter, List.mem_range, decide_eq_true_eq]
  constructor
  · rintro ⟨a, ⟨_, h⟩, e⟩
    have : a = k := by omega
    subst this; exact h
  · exact fun h => ⟨k, ⟨hk, h⟩, rfl⟩
theorem need_iff {x : PGr} {b : Nat} {blk : PBlk} {t : Int} (hb : x.blocks[b]? = some blk) : Need x b t ↔ firstB blk t = 1 ∨ (firstB blk t = 0 ∧ ∃ c : Nat, (c : Int) ∈ namedN blk.fin ∧ Need x c t) := by
  constructor
  · intro h
    cases h with
    | use hb' h1 => rw [hb] at hb'; injection hb' with e; subst e; exact .inl h1
    | step hb' h1 hc hn => rw [hb] at hb'; injection hb' with e; subst e; exact .inr ⟨h1, _, hc, hn⟩
  · rintro (h | ⟨h, c, hc, hn⟩)
    · exact .use hb h
    · exact .step hb h hc hn
/-- What the law's loop over a block's followers has found. -/
noncomputable def wantK (x : PGr) (q : Nat) (t : Int) (LL : List Int) (k : Nat) : Bool := decide (q = 1) || (decide (q = 0) && (LL.take k).any fun c => decide (t ∈ needL x c.toNat))
theorem want_zero (x : PGr) (q : Nat) (t : Int) (LL : List Int) : wantK x q t LL 0 = decide (q = 1) := by unfold wantK; simp
theorem want_succ {x : PGr} {q : Nat} {t : Int} {LL : List Int} {k : Nat} {c : Int} (hq : q = 0) (hc : LL[k]? = some c) : wantK x q t LL (k + 1) = (wantK x q t LL k || decide (t ∈ needL x c.toNat)) := by
  unfold wantK
  subst hq
  rw [List.take_add_one, hc]
  simp
open Classical in
theorem want_end {x : PGr} {b k j : Nat} {blk : PBlk} (hf : fitsB x = true) (hb : x.blocks[b]? = some blk) (hk : k < x.temps.toNat) {LL : List Int} (hl : ∀ s, s ∈ LL ↔ s ∈ namedN blk.fin) (hj : firstB blk (k : Int) ≠ 0 ∨ j = LL.length) :
    wantK x (firstB blk (k : Int)) (k : Int) LL j = decide ((k : Int) ∈ needL x b) := by
  have e : decide ((k : Int) ∈ needL x b) = decide (firstB blk (k : Int) = 1 ∨ (firstB blk (k : Int) = 0 ∧ ∃ c : Nat, (c : Int) ∈ namedN blk.fin ∧ (k : Int) ∈ needL x c)) := by
    apply decide_eq_decide.2
    rw [mem_needL hk, need_iff hb]
    simp only [mem_needL hk]
  rw [e]
  unfold wantK
  by_cases h1 : firstB blk (k : Int) = 1
  · rw [h1]; simp
  · by_cases h0 : firstB blk (k : Int) = 0
    · have hj2 : j = LL.length := by
        rcases hj with h | h
        · exact absurd h0 h
        · exact h
      rw [h0, hj2, List.take_length]
      have e2 : (LL.any fun c => decide ((k : Int) ∈ needL x c.toNat)) = decide (∃ c : Nat, (c : Int) ∈ namedN blk.fin ∧ (k : Int) ∈ needL x c) := by
        rw [Bool.eq_iff_iff, List.any_eq_true, decide_eq_true_eq]
        constructor
        · rintro ⟨c, hc, h⟩
          have h2 := List.all_eq_true.1 (fits_blk hf hb).2 c ((hl c).1 hc)
          unfold belowB at h2
          simp only [Bool.and_eq_true, decide_eq_true_eq] at h2
          refine ⟨c.toNat, ?_, of_decide_eq_true h⟩
          rw [Int.toNat_of_nonneg h2.1]
          exact (hl c).1 hc
        · rintro ⟨c, hc, h⟩
          exact ⟨(c : Int), (hl _).2 hc, decide_eq_true (by rw [Int.toNat_natCast]; exact h)⟩
      rw [e2]; simp
    · simp [h1, h0]
/-- A row of what Live tells, in a later world. -/
theorem out_row {x : PGr} {n rb : Nat} {vs : Nat → Value} {w w5 W : World} (h : LiveOut x n rb vs w w5) (hb : Below w5.heap.size w5 W) {b : Nat} (hbn : b < n) : ∃ p k c, W.cell? ⟨rb, b, none⟩ = some (.slice p k c) ∧ IntsR W (.slice p k c) (needL x b) := by
  have h2 := h.ah.keep hb
  obtain ⟨p, c, hv, _⟩ := own_form (h2.rows b hbn)
  have h3 := (h2.cell hbn).1
  have h4 := ints_own (h2.rows b hbn)
  rw [hv] at h3 h4
  exact ⟨_, _, _, h3, h4⟩
set_option maxHeartbeats 16000000 in
set_option maxRecDepth 100000 in
theorem liveSteps_any (x : PGr) (vp va vb : Value) (w : World) (h : GrL w vp va vb x) (hs : SmG x) (hT : TabAt 0 Lib.deBruijn64tab w) (h0 : 0 < w.heap.size) :
    Calls Tryd.prog 4 #[grV x vp va vb] w (Is (.bool true) w) := by
  obtain ⟨pp, pc, rfl⟩ := h.params.form
  obtain ⟨ap, ac, rfl⟩ := h.arrays.form
  have HG := Lib.hid h
  have HBK := Lib.hid h.blocks
  obtain ⟨bp, bc, rfl⟩ := h.blocks.form
  have HS := Lib.hid hs
  have HTB := Lib.hid (fun (W : World) (hW : Below w.heap.size w W) => tab_below hT h0 hW)
  have H0 := Lib.hid (fun (W : World) (hW : Below w.heap.size w W) => Nat.lt_of_lt_of_le h0 hW.size)
  have HAL := Lib.hid (fun (W : World) (hW : Below w.heap.size w W) => alive_any W (tab_below hT h0 hW) (Nat.lt_of_lt_of_le h0 hW.size))
  obtain ⟨n, hn⟩ : ∃ n, n = x.blocks.length := ⟨_, rfl⟩
  have HN := Lib.hid hn
  cases hf : fitsB x with
  | false =>
    have HLV := Lib.hid (fun (W : World) (hW : Below w.heap.size w W) => live_no x _ _ _ W (HG.out.below hW) hs.n hf)
    unfold grV at HLV ⊢
    rw [← hn] at HLV ⊢
    clear h hs hT h0 hn hf
    go_enter Tryd.func4, Tryd.ntmps4
    go_wp2_with (first
      | (go_at_call 10
         refine (HLV.out _ (Graph.below_alloc w _)).mono ?_
         rintro e w5 ⟨rfl, hb5⟩
         have HB5 : Hid (Below w.heap.size w w5) := Lib.hid (below_then (Graph.below_alloc w _) hb5)
         clear hb5)
      | (go_at_call 12
         refine (HAL.out _ HB5.out).mono ?_
         rintro e w6 ⟨rfl, hb6⟩
         have HB6 := Lib.hid hb6
         clear hb6))
    go_ret
    exact ⟨rfl, below_then HB5.out HB6.out⟩
  | true =>
    have hfd := hf
    unfold fitsB at hfd
    rw [Bool.and_eq_true] at hfd
    have hlen := of_decide_eq_true hfd.1
    have HLV := Lib.hid (fun (W : World) (hW : Below w.heap.size w W) => live_ok x _ _ _ W (HG.out.below hW) hs.n hf (HTB.out W hW) (H0.out W hW))
    have HNX := Lib.hid (fun (W : World) (hW : Below w.heap.size w W) (b : Int) => rnext_any x _ _ _ b W (HG.out.below hW) hs)
    have HF := Lib.hid hf
    unfold grV at HLV HNX ⊢
    rw [← hn] at HLV HNX ⊢
    have hnn : n ≤ 20000 := by omega
    have hti : x.temps ≤ 8000 := by omega
    have ht0 : 0 ≤ x.temps := by omega
    obtain ⟨T, hT2⟩ : ∃ T : Nat, x.temps = T := ⟨x.temps.toNat, by omega⟩
    have HTT : Hid (x.temps = T) := Lib.hid hT2
    rw [hT2] at hti HLV HNX ⊢
    have ni : (n : Int) ≤ 20000 := by omega
    clear h hs hT h0 hn hf hfd hlen ht0 hT2
    go_enter Tryd.func4, Tryd.ntmps4
    have HX1 : Hid ((w.alloc (.cells #[.slice pp x.params.length pc, .int .i64 T, .slice ap x.arrays.length ac, .slice bp n bc] 26)).heap[w.heap.size]? = some (.cells #[.slice pp x.params.length pc, .int .i64 T, .slice ap x.arrays.length ac, .slice bp n bc] 26 (0, 0))) := Lib.hid (heap_new w _)
    have HB1 := Lib.hid (Graph.below_alloc w (.cells #[.slice pp x.params.length pc, .int .i64 T, .slice ap x.arrays.length ac, .slice bp n bc] 26))
    have HCE : Hid (∀ W : World, Below (w.heap.size + 1) (w.alloc (.cells #[.slice pp x.params.length pc, .int .i64 T, .slice ap x.arrays.length ac, .slice bp n bc] 26)) W → W.cell? ⟨w.heap.size, 0, none⟩ = some (.slice pp x.params.length pc) ∧ W.cell? ⟨w.heap.size, 1, none⟩ = some (.int .i64 T) ∧ W.cell? ⟨w.heap.size, 2, none⟩ = some (.slice ap x.arrays.length ac) ∧ W.cell? ⟨w.heap.size, 3, none⟩ = some (.slice bp n bc)) := Lib.hid (fun W hW => by
      have hb := (hW.block _ (by omega)).trans HX1.out
      exact ⟨(cell_of_block hb (k := 0) rfl).1, (cell_of_block hb (k := 1) rfl).1, (cell_of_block hb (k := 2) rfl).1, (cell_of_block hb (k := 3) rfl).1⟩)
    go_wp2_with (first
      | (go_at_call 10
         refine (HLV.out _ HB1.out).mono ?_
         rintro e w5 ⟨rb, vs, rfl, h5⟩
         have H5 := Lib.hid h5
         have HB5 : Hid (Below w.heap.size w w5) := Lib.hid (below_then HB1.out h5.below)
         have hb6 : Below (w.heap.size + 1) (w.alloc (.cells #[.slice pp x.params.length pc, .int .i64 T, .slice ap x.arrays.length ac, .slice bp n bc] 26)) w5 := by have := h5.below; simpa using this
         have HB6 := Lib.hid hb6
         obtain ⟨y0, y1, y2, y3⟩ := HCE.out w5 hb6
         clear h5 hb6)
      | (go_at_call 12
         refine (HAL.out _ HB5.out).mono ?_
         rintro e w6 ⟨rfl, hb6⟩
         have HB7 : Hid (Below w5.heap.size w5 w6) := Lib.hid hb6
         clear hb6))
    have HSZ5 : Hid (∀ W : World, Below w5.heap.size w5 W → W.cell? ⟨w.heap.size, 0, none⟩ = some (.slice pp x.params.length pc) ∧ W.cell? ⟨w.heap.size, 1, none⟩ = some (.int .i64 T) ∧ W.cell? ⟨w.heap.size, 2, none⟩ = some (.slice ap x.arrays.length ac) ∧ W.cell? ⟨w.heap.size, 3, none⟩ = some (.slice bp n bc)) := Lib.hid (fun W hW => by
      have hl : w.heap.size < w5.heap.size := World.block_lt_of_cell? w5 _ y0
      exact ⟨(cell_below hW hl _).trans y0, (cell_below hW hl _).trans y1, (cell_below hW hl _).trans y2, (cell_below hW hl _).trans y3⟩)
    clear HCE HX1 HB1 HLV HAL y0 y1 y2 y3
    go_loopw [5] (fun i wr => ∃ b : Nat, b ≤ n ∧ i = .int .i64 b ∧ Hid (Below w5.heap.size w5 wr)) (fun i _ => n - (intOf i).toNat)
    case atStart => exact ⟨0, Nat.zero_le _, rfl, HB7⟩
    case round =>
      obtain ⟨b, hb, rfl, HR⟩ := hrel
      by_cases hbn : b < n
      · have bi : (b : Int) < n := by omega
        have b0 : (0 : Int) ≤ b := by omega
        have b2 : (n : Int) ≤ bc := by
          obtain ⟨g, o, cap, hv, hcap, _⟩ := SlR.form2 HBK.out (by have := HN.out; omega)
          injection hv with _ _ e3
          have := HN.out
          omega
        have b3 : (bc : Int) ≤ 9223372036854775807 := by
          obtain ⟨g, o, cap, hv, hcap, _⟩ := SlR.form2 HBK.out (by have := HN.out; omega)
          injection hv with _ _ e3
          omega
        go_wp2
        go_loopw [6] (fun i wq => ∃ t : Nat, t ≤ T ∧ i = .int .i64 t ∧ Hid (Below w5.heap.size w5 wq)) (fun i _ => T - (intOf i).toNat)
        case atStart => exact ⟨0, Nat.zero_le _, rfl, HR⟩
        case round =>
          obtain ⟨t, ht, rfl, HQ⟩ := hrel
          obtain ⟨y0, y1, y2, y3⟩ := HSZ5.out wr HQ.out
          by_cases htT : t < T
          · have ti : (t : Int) < T := by omega
            have t0 : (0 : Int) ≤ t := by omega
            obtain ⟨blk, hblk⟩ : ∃ blk, x.blocks[b]? = some blk := ⟨_, List.getElem?_eq_getElem (by have := HN.out; omega)⟩
            obtain ⟨g, o, cap, hv, hcap, hgl, _⟩ := SlR.form2 HBK.out (by have := HN.out; omega)
            have hv2 := hv
            injection hv2 with e1 _ e3
            subst e1 e3
            have hBW : Below w.heap.size w wr := below_then HB5.out HQ.out
            obtain ⟨pk, ck, pz, cc, pt, ct, ⟨c0, c1, c2, c3, c4, c5, c6, c7, c8, c9⟩, hck, hel, hg⟩ := blk_at HBK.out hBW hblk
            have HFI := Lib.hid (fun (W : World) (hW : Below wr.heap.size wr W) => first_any blk x.temps _ _ _ (t : Int) t0 W (fits_blk HF.out hblk).1 (HS.out.2.2.2 blk (List.mem_of_getElem? hblk)) (hck.below hW) (hel.below hW))
            unfold blkV at HFI
            have HLM : Hid (∀ s, s ∈ nextL x (b : Int) ↔ s ∈ namedN blk.fin) := Lib.hid (next_mem hblk)
            have HLB : Hid (∀ c ∈ nextL x (b : Int), 0 ≤ c ∧ c < n) := Lib.hid (fun c hc => by
              have h1 := List.all_eq_true.1 (fits_blk HF.out hblk).2 c ((HLM.out c).1 hc)
              have := HN.out
              unfold belowB at h1
              simp only [Bool.and_eq_true, decide_eq_true_eq] at h1
              omega)
            have HWe0 : Hid (∀ j, (firstB blk (t : Int) ≠ 0 ∨ j = (nextL x (b : Int)).length) → wantK x (firstB blk (t : Int)) (t : Int) (nextL x (b : Int)) j = decide ((t : Int) ∈ needL x b)) := Lib.hid (fun j hj => want_end HF.out hblk (by have := HTT.out; omega) HLM.out hj)
            have HNXB := Lib.hid (fun (W : World) (hW : Below w.heap.size w W) => HNX.out W hW (b : Int))
            generalize hLL : nextL x (b : Int) = LL at HLM HLB HWe0 HNXB
            generalize firstB blk (t : Int) = q at HFI HWe0
            have HW0 := Lib.hid (want_zero x q (t : Int) LL)
            have HWs : Hid (∀ k c, q = 0 → LL[k]? = some c → wantK x q (t : Int) LL (k + 1) = (wantK x q (t : Int) LL k || decide ((t : Int) ∈ needL x c.toNat))) := Lib.hid (fun k c hq hc => want_succ hq hc)
            generalize wantK x q (t : Int) LL = WK at HWe0 HW0 HWs
            obtain ⟨m, hm⟩ : ∃ m, m = LL.length := ⟨_, rfl⟩
            rw [← hm] at HWe0
            have HWe : Hid (∀ j, (q ≠ 0 ∨ j = m) → WK j = decide ((t : Int) ∈ needL x b)) := HWe0
            have HM := Lib.hid hm
            have e1 : ((q : Int) == 1) = WK 0 := by
              rw [HW0.out, Bool.eq_iff_iff]; simp; omega
            clear hblk hv hcap hgl hck hel hg hm hLL HWe0
            go_wp2_with (first
              | (go_at_call 14
                 refine (HFI.out _ (Below.refl _ _)).mono ?_
                 rintro e w2 ⟨rfl, hb2⟩
                 have HB2 := Lib.hid hb2
                 obtain ⟨y0, y1, y2, y3⟩ := HSZ5.out w2 (below_then HQ.out hb2)
                 clear hb2)
              | (go_at_call 15
                 refine (HNXB.out w2 (below_then HB5.out (below_then HQ.out HB2.out))).mono ?_
                 rintro e w3 ⟨v3, rfl, h3, hb3⟩
                 rw [← HM.out] at h3
                 obtain ⟨p3, c3', rfl, hm3⟩ := own_form h3
                 have H3 := Lib.hid h3
                 have HB3 := Lib.hid hb3
                 clear h3 hb3))
            clear c0 c1 c2 c3 c4 c5 c6 c7 c8 c9 y0 y1 y2 y3 hBW HFI HNXB
            go_loopw [8, 10] (fun want i wq => ∃ k : Nat, k ≤ m ∧ i = .int .i64 k ∧ want = .bool (WK k) ∧ Hid (Below w3.heap.size w3 wq)) (fun _ i _ => m - (intOf i).toNat)
            case atStart => exact ⟨0, Nat.zero_le _, rfl, by first | rfl | rw [e1], Lib.hid (Below.refl _ _)⟩
            case round =>
              obtain ⟨k, hk, rfl, rfl, HV⟩ := hrel
              clear e1
              have HWR : Hid (Below w5.heap.size w5 wr) := Lib.hid (below_then HQ.out (below_then HB2.out (below_then HB3.out HV.out)))
              by_cases hkm : k < m
              · have ki : (k : Int) < m := by omega
                have k0 : (0 : Int) ≤ k := by omega
                by_cases hq0 : q = 0
                · have hq1 : ((q : Int) == 0) = true := by simp [hq0]
                  obtain ⟨c, hc⟩ : ∃ c, LL[k]? = some c := ⟨_, List.getElem?_eq_getElem (by have := HM.out; omega)⟩
                  obtain ⟨q0, q1⟩ := HLB.out c (List.mem_of_getElem? hc)
                  obtain ⟨a, rfl⟩ := Int.eq_ofNat_of_zero_le q0
                  have han : a < n := by omega
                  have HWS := Lib.hid (HWs.out k _ hq0 hc)
                  obtain ⟨g4, cc4, hv4, ce, _, _, _, hc1, hc2⟩ := own_cell (own_below H3.out HV.out) (k := k) (x := iv (a : Int)) (by rw [List.getElem?_map, hc]; rfl) hkm
                  injection hv4 with e1 _ e3
                  subst e1 e3
                  have k2 : (m : Int) ≤ c3' := by omega
                  have k3 : (c3' : Int) ≤ 9223372036854775807 := by omega
                  have ce2 : wr.cell? ⟨g4, k, none⟩ = some (.int .i64 (a : Nat)) := ce
                  obtain ⟨pa, ka, ca, ra1, ra2⟩ := out_row H5.out HWR.out han
                  rw [Int.toNat_natCast] at HWS
                  clear hc hc1 hc2 ce q0 hq0
                  cases hwk : WK k with
                  | true =>
                    have HE : Hid (WK (k + 1) = true) := Lib.hid (by rw [HWS.out, hwk]; rfl)
                    clear hwk
                    go_wp2
                    exact ⟨⟨k + 1, by omega, by go_num, by rw [HE.out], HV⟩, by simp [intOf]; omega⟩
                  | false =>
                    have HE : Hid (WK (k + 1) = decide ((t : Int) ∈ needL x a)) := Lib.hid (by rw [HWS.out, hwk]; rfl)
                    clear hwk
                    go_wp2_with (
                      go_at_call 16
                      refine (inList_any _ _ _ _ ra2).mono ?_
                      rintro e w9 ⟨rfl, rfl⟩)
                    exact ⟨⟨k + 1, by omega, by go_num, by rw [HE.out], HV⟩, by simp [intOf]; omega⟩
                · have hq1 : ((q : Int) == 0) = false := by simpa using hq0
                  obtain ⟨pb, kb, cb, rw1, rw2⟩ := out_row H5.out HWR.out hbn
                  cases hd : decide ((t : Int) ∈ needL x b) with
                  | true =>
                    have hwk : WK k = true := (HWe.out k (.inl hq0)).trans hd
                    have HD := Lib.hid hd
                    rw [hwk]
                    clear hd hwk
                    go_wp2_with (
                      go_at_call 16
                      refine (inList_any _ _ _ _ rw2).mono ?_
                      rintro e w9 ⟨rfl, rfl⟩
                      rw [HD.out])
                    exact ⟨⟨t + 1, by omega, by go_num, Lib.hid (below_then HQ.out (below_then HB2.out (below_then HB3.out HV.out)))⟩, by simp [intOf]; omega⟩
                  | false =>
                    have hwk : WK k = false := (HWe.out k (.inl hq0)).trans hd
                    have HD := Lib.hid hd
                    rw [hwk]
                    clear hd hwk
                    go_wp2_with (
                      go_at_call 16
                      refine (inList_any _ _ _ _ rw2).mono ?_
                      rintro e w9 ⟨rfl, rfl⟩
                      rw [HD.out])
                    exact ⟨⟨t + 1, by omega, by go_num, Lib.hid (below_then HQ.out (below_then HB2.out (below_then HB3.out HV.out)))⟩, by simp [intOf]; omega⟩
              · have hkm2 : k = m := by omega
                have ki : ¬ ((k : Int) < m) := by omega
                obtain ⟨pb, kb, cb, rw1, rw2⟩ := out_row H5.out HWR.out hbn
                cases hd : decide ((t : Int) ∈ needL x b) with
                | true =>
                  have hwk : WK k = true := (HWe.out k (.inr hkm2)).trans hd
                  have HD := Lib.hid hd
                  rw [hwk]
                  clear hd hwk
                  go_wp2_with (
                    go_at_call 16
                    refine (inList_any _ _ _ _ rw2).mono ?_
                    rintro e w9 ⟨rfl, rfl⟩
                    rw [HD.out])
                  exact ⟨⟨t + 1, by omega, by go_num, Lib.hid (below_then HQ.out (below_then HB2.out (below_then HB3.out HV.out)))⟩, by simp [intOf]; omega⟩
                | false =>
                  have hwk : WK k = false := (HWe.out k (.inr hkm2)).trans hd
                  have HD := Lib.hid hd
                  rw [hwk]
                  clear hd hwk
                  go_wp2_with (
                    go_at_call 16
                    refine (inList_any _ _ _ _ rw2).mono ?_
                    rintro e w9 ⟨rfl, rfl⟩
                    rw [HD.out])
                  exact ⟨⟨t + 1, by omega, by go_num, Lib.hid (below_then HQ.out (below_then HB2.out (below_then HB3.out HV.out)))⟩, by simp [intOf]; omega⟩
          · have htT2 : t = T := by omega
            have ti : ¬ ((t : Int) < T) := by omega
            go_wp2
            exact ⟨⟨b + 1, by omega, by go_num, HQ⟩, by simp [intOf]; omega⟩
      · have hbn2 : b = n := by omega
        have bi : ¬ ((b : Int) < n) := by omega
        go_wp2
        go_ret
        exact ⟨rfl, below_then HB5.out HR.out⟩
end Go.Proofs.YtcijaaiopfbffaaDoor.Live
namespace Go.Proofs.YtcijaaiopfbffaaDoor.Live
open Go.RowKit Go.Proofs.YtcijaaiopfbffaaDoor.Graph Go.Shelf

/-- Needed within so many steps. -/
def lev (x : PGr) (t : Int) : Nat → Nat → Prop
  | 0, _ => False
  | r + 1, b => ∃ blk, x.blocks[b]? = some blk ∧ (firstB blk t = 1 ∨ (firstB blk t = 0 ∧ ∃ c : Nat, (c : Int) ∈ namedN blk.fin ∧ lev x t r c))
theorem lev_more {x : PGr} {t : Int} : ∀ (r b : Nat), lev x t r b → lev x t (r + 1) b
  | 0, _, h => h.elim
  | r + 1, b, ⟨blk, hb, h⟩ => ⟨blk, hb, by
    rcases h with h | ⟨h, c, hc, hl⟩
    · exact .inl h
    · exact .inr ⟨h, c, hc, lev_more r c hl⟩⟩
theorem lev_le {x : PGr} {t : Int} {r s b : Nat} (hrs : r ≤ s) (h : lev x t r b) : lev x t s b := by
  obtain ⟨d, rfl⟩ := Nat.exists_eq_add_of_le hrs
  clear hrs
  induction d with
  | zero => exact h
  | succ d ih => exact lev_more _ _ ih
theorem lev_lt {x : PGr} {t : Int} {r b : Nat} (h : lev x t r b) : b < x.blocks.length := by
  cases r with
  | zero => exact h.elim
  | succ r =>
    obtain ⟨blk, hb, _⟩ := h
    exact (List.getElem?_eq_some_iff.1 hb).1
theorem lev_need {x : PGr} {t : Int} {b : Nat} (h : Need x b t) : ∃ r, lev x t r b := by
  induction h with
  | use hb h => exact ⟨1, _, hb, .inl h⟩
  | step hb h hc _ ih =>
    obtain ⟨r, hr⟩ := ih
    exact ⟨r + 1, _, hb, .inr ⟨h, _, hc, hr⟩⟩
theorem lev_still {x : PGr} {t : Int} {r : Nat} (h : ∀ b, lev x t (r + 1) b → lev x t r b) : ∀ d b, lev x t (r + d) b → lev x t r b
  | 0, _, hb => hb
  | d + 1, b, ⟨blk, hb, hl⟩ => h b ⟨blk, hb, by
    rcases hl with hl | ⟨hl, c, hc, hn⟩
    · exact .inl hl
    · exact .inr ⟨hl, c, hc, lev_still h d c hn⟩⟩
theorem filter_less {p q : Nat → Bool} {b0 : Nat} : ∀ {l : List Nat}, (∀ b ∈ l, p b = true → q b = true) → b0 ∈ l → q b0 = true → p b0 = false → (l.filter p).length < (l.filter q).length
  | [], _, h, _, _ => absurd h List.not_mem_nil
  | a :: l, hpq, hm, hq, hp => by
    have hle : ∀ {l : List Nat}, (∀ b ∈ l, p b = true → q b = true) → (l.filter p).length ≤ (l.filter q).length := by
      intro l
      induction l with
      | nil => intro _; exact Nat.le_refl _
      | cons a l ih =>
        intro h
        have ih := ih fun b hb => h b (List.mem_cons_of_mem _ hb)
        have ha := h a (List.mem_cons_self ..)
        cases hpa : p a
        · rw [List.filter_cons_of_neg (by rw [hpa]; simp)]
          cases hqa : q a
          · rw [List.filter_cons_of_neg (by rw [hqa]; simp)]; exact ih
          · rw [List.filter_cons_of_pos hqa, List.length_cons]; omega
        · rw [List.filter_cons_of_pos hpa, List.filter_cons_of_pos (ha hpa), List.length_cons, List.length_cons]; omega
    have h2 : ∀ b ∈ l, p b = true → q b = true := fun b hb => hpq b (List.mem_cons_of_mem _ hb)
    rcases List.mem_cons.1 hm with rfl | hm
    · rw [List.filter_cons_of_neg (by rw [hp]; simp), List.filter_cons_of_pos hq, List.length_cons]
      have := hle h2
      omega
    · have ih := filter_less h2 hm hq hp
      have ha := hpq a (List.mem_cons_self ..)
      cases hpa : p a
      · rw [List.filter_cons_of_neg (by rw [hpa]; simp)]
        cases hqa : q a
        · rw [List.filter_cons_of_neg (by rw [hqa]; simp)]; exact ih
        · rw [List.filter_cons_of_pos hqa, List.length_cons]; omega
      · rw [List.filter_cons_of_pos hpa, List.filter_cons_of_pos (ha hpa), List.length_cons, List.length_cons]; omega
open Classical in
noncomputable def levN (x : PGr) (t : Int) (r : Nat) : Nat := ((List.range x.blocks.length).filter fun b => decide (lev x t r b)).length
open Classical in
theorem lev_count (x : PGr) (t : Int) : ∀ r, (∃ s, s < r ∧ ∀ b, lev x t (s + 1) b → lev x t s b) ∨ r ≤ levN x t r
  | 0 => .inr (Nat.zero_le _)
  | r + 1 => by
    rcases lev_count x t r with ⟨s, hs, h⟩ | h
    · exact .inl ⟨s, by omega, h⟩
    · by_cases hst : ∀ b, lev x t (r + 1) b → lev x t r b
      · exact .inl ⟨r, by omega, hst⟩
      · obtain ⟨b, hb⟩ := Classical.not_forall.1 hst
        obtain ⟨h1, h2⟩ := Classical.not_imp.1 hb
        refine .inr ?_
        have := filter_less (p := fun b => decide (lev x t r b)) (q := fun b => decide (lev x t (r + 1) b)) (b0 := b) (l := List.range x.blocks.length) (fun b _ h => by simpa using lev_more r b (by simpa using h)) (List.mem_range.2 (lev_lt h1)) (by simpa using h1) (by simpa using h2)
        unfold levN at h ⊢
        omega
theorem lev_all {x : PGr} {t : Int} {b : Nat} (h : Need x b t) : lev x t x.blocks.length b := by
  obtain ⟨r, hr⟩ := lev_need h
  have hle : levN x t (x.blocks.length + 1) ≤ x.blocks.length := by
    unfold levN
    refine Nat.le_trans (List.length_filter_le _ _) ?_
    rw [List.length_range]; exact Nat.le_refl _
  rcases lev_count x t (x.blocks.length + 1) with ⟨s, hs, hst⟩ | h2
  · refine lev_le (show s ≤ x.blocks.length by omega) ?_
    rcases Nat.lt_or_ge r s with h3 | h3
    · exact lev_le (by omega) hr
    · obtain ⟨d, rfl⟩ := Nat.exists_eq_add_of_le h3
      exact lev_still hst d b hr
  · omega
/-- A row of booleans. -/
def BoRow (w : World) (g n : Nat) (U : Nat → Bool) : Prop :=
  ∃ cs, w.heap[g]? = some (.cells cs 4 (0, 0)) ∧ cs.size = n ∧ ∀ b, b < n → cs[b]? = some (.bool (U b))
section
variable {w w' : World} {g n : Nat} {U : Nat → Bool}
theorem BoRow.lt (h : BoRow w g n U) : g < w.heap.size := by
  obtain ⟨cs, h1, _⟩ := h
  exact (Array.getElem?_eq_some_iff.1 h1).1
theorem BoRow.cell (h : BoRow w g n U) {b : Nat} (hb : b < n) : w.cell? ⟨g, b, none⟩ = some (.bool (U b)) := by
  obtain ⟨cs, h1, _, h3⟩ := h
  simp [World.cell?, h1, h3 b hb]
theorem BoRow.frozen (h : BoRow w g n U) (k : Nat) : w.frozen? ⟨g, k, none⟩ = false := by
  obtain ⟨cs, h1, _⟩ := h
  simp [World.frozen?, h1]
theorem BoRow.keep (h : BoRow w g n U) (he : w'.heap[g]? = w.heap[g]?) : BoRow w' g n U := by
  obtain ⟨cs, h1, h2⟩ := h
  exact ⟨cs, he.trans h1, h2⟩
theorem BoRow.below (h : BoRow w g n U) (hb : Below w.heap.size w w') : BoRow w' g n U := h.keep (hb.block _ h.lt)
theorem BoRow.set (h : BoRow w g n U) {b : Nat} (v : Bool) : BoRow (w.setCell ⟨g, b, none⟩ (.bool v)) g n (fun k => if k = b then v else U k) := by
  obtain ⟨cs, h1, h2, h3⟩ := h
  refine ⟨_, heap_setCell_same w g _ _ _ _ h1, by simpa using h2, fun c hc => ?_⟩
  have h4 := h3 c hc
  by_cases e : c = b
  · subst e
    rw [Array.getElem?_setIfInBounds_self_of_lt (Array.getElem?_eq_some_iff.1 h4).1]; simp
  · rw [Array.getElem?_setIfInBounds_ne (Ne.symm e)]
    simp only [if_neg e]; exact h4
end
theorem info_bool : (Tryd.prog.info? 4).map (fun i => (i.zero, i.size, i.bytes)) = some (some (.bool false), 1, 1) := by kernel_rfl
theorem make_bools (n : Nat) (hn : n ≤ 20000) (w : World) : (Instr.makeSlice 45 (.int .i64 (n : Int)) (.int .i64 (n : Int))).run Tryd.prog w = .ok (.slice (some ⟨w.heap.size, 0, none⟩) n n) (w.alloc (.cells (madeCells #[.bool false] n) 4)) := by
  obtain ⟨i0, HI, hz0, hz1, hz2⟩ := info_parts info_bool
  have := run_make (P := Tryd.prog) w 45 4 i0 _ Tryd.underlying45 HI hz0 .i64 .i64 (n : Int) (n : Int) (by omega) (by omega) (by rw [hz2]; omega) (by omega)
  simpa [hz1, Value.cells] using this
theorem made_bools {w : World} {g n : Nat} (h : w.heap[g]? = some (.cells (madeCells #[.bool false] n) 4 (0, 0))) : BoRow w g n fun _ => false := by
  refine ⟨_, h, size_madeCells _ _, fun b hb => made_at _ _ _ hb _ ?_⟩
  have : b % (#[Value.bool false] : Array Value).size = 0 := Nat.mod_one b
  rw [this]; rfl
/-- A store into a row that is newer. -/
theorem below_set {w w' : World} {B g k : Nat} {v : Value} (h : Below B w w') (hg : B ≤ g) : Below B w (w'.setCell ⟨g, k, none⟩ v) :=
  ⟨h.os, h.tape, h.output, by rw [World.size_setCell]; exact h.size, fun i hi => (heap_setCell_other w' ⟨g, k, none⟩ i v (by show i ≠ g; omega)).trans (h.block i hi)⟩
end Go.Proofs.YtcijaaiopfbffaaDoor.Live
