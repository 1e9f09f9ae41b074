/- The law LiveSteps, at any graph. No condition but sizes and the table of bits. -/
import Derived.Test.YtdmmeeolkonmeaaDoorLM
namespace Go.Proofs.YtdmmeeolkonmeaaDoor.Live
open Go.RowKit Go.Proofs.YtdmmeeolkonmeaaDoor.Graph Go.Shelf

theorem mem_needL {x : PGr} {b k : Nat} (hk : k < x.temps.toNat) : (k : Int) ∈ needL x b ↔ Need x b (k : Int) := by
  unfold needL needN
  simp only [List.mem_map, List.mem_filter, List.mem_range, decide_eq_true_eq]
  constructor
  · rintro ⟨a, ⟨_, h⟩, e⟩
    have : a = k := by omega
    subst this; exact h
  · exact fun h => ⟨k, ⟨hk, h⟩, rfl⟩
theorem need_iff {x : PGr} {b : Nat} {blk : PBlk} {t : Int} (hb : x.blocks[b]? = some blk) : Need x b t ↔ firstB blk t = 1 ∨ (firstB blk t = 0 ∧ ∃ c : Nat, (c : Int) ∈ namedN blk.fin ∧ Need x c t) := by
  constructor
  · intro h
    cases h with
    | use hb' h1 => rw [hb] at hb'; injection hb' with e; subst e; exact .inl h1
    | step hb' h1 hc hn => rw [hb] at hb'; injection hb' with e; subst e; exact .inr ⟨h1, _, hc, hn⟩
  · rintro (h | ⟨h, c, hc, hn⟩)
    · exact .use hb h
    · exact .step hb h hc hn
/-- What the law's loop over a block's followers has found. -/
noncomputable def wantK (x : PGr) (q : Nat) (t : Int) (LL : List Int) (k : Nat) : Bool := decide (q = 1) || (decide (q = 0) && (LL.take k).any fun c => decide (t ∈ needL x c.toNat))
theorem want_zero (x : PGr) (q : Nat) (t : Int) (LL : List Int) : wantK x q t LL 0 = decide (q = 1) := by unfold wantK; simp
theorem want_succ {x : PGr} {q : Nat} {t : Int} {LL : List Int} {k : Nat} {c : Int} (hq : q = 0) (hc : LL[k]? = some c) : wantK x q t LL (k + 1) = (wantK x q t LL k || decide (t ∈ needL x c.toNat)) := by
  unfold wantK
  subst hq
  rw [List.take_add_one, hc]
  simp
open Classical in
theorem want_end {x : PGr} {b k j : Nat} {blk : PBlk} (hf : fitsB x = true) (hb : x.blocks[b]? = some blk) (hk : k < x.temps.toNat) {LL : List Int} (hl : ∀ s, s ∈ LL ↔ s ∈ namedN blk.fin) (hj : firstB blk (k : Int) ≠ 0 ∨ j = LL.length) :
    wantK x (firstB blk (k : Int)) (k : Int) LL j = decide ((k : Int) ∈ needL x b) := by
  have e : decide ((k : Int) ∈ needL x b) = decide (firstB blk (k : Int) = 1 ∨ (firstB blk (k : Int) = 0 ∧ ∃ c : Nat, (c : Int) ∈ namedN blk.fin ∧ (k : Int) ∈ needL x c)) := by
    apply decide_eq_decide.2
    rw [mem_needL hk, need_iff hb]
    simp only [mem_needL hk]
  rw [e]
  unfold wantK
  by_cases h1 : firstB blk (k : Int) = 1
  · rw [h1]; simp
  · by_cases h0 : firstB blk (k : Int) = 0
    · have hj2 : j = LL.length := by
        rcases hj with h | h
        · exact absurd h0 h
        · exact h
      rw [h0, hj2, List.take_length]
      have e2 : (LL.any fun c => decide ((k : Int) ∈ needL x c.toNat)) = decide (∃ c : Nat, (c : Int) ∈ namedN blk.fin ∧ (k : Int) ∈ needL x c) := by
        rw [Bool.eq_iff_iff, List.any_eq_true, decide_eq_true_eq]
        constructor
        · rintro ⟨c, hc, h⟩
          have h2 := List.all_eq_true.1 (fits_blk hf hb).2 c ((hl c).1 hc)
          unfold belowB at h2
          simp only [Bool.and_eq_true, decide_eq_true_eq] at h2
          refine ⟨c.toNat, ?_, of_decide_eq_true h⟩
          rw [Int.toNat_of_nonneg h2.1]
          exact (hl c).1 hc
        · rintro ⟨c, hc, h⟩
          exact ⟨(c : Int), (hl _).2 hc, decide_eq_true (by rw [Int.toNat_natCast]; exact h)⟩
      rw [e2]; simp
    · simp [h1, h0]
/-- A row of what Live tells, in a later world. -/
theorem out_row {x : PGr} {n rb : Nat} {vs : Nat → Value} {w w5 W : World} (h : LiveOut x n rb vs w w5) (hb : Below w5.heap.size w5 W) {b : Nat} (hbn : b < n) : ∃ p k c, W.cell? ⟨rb, b, none⟩ = some (.slice p k c) ∧ IntsR W (.slice p k c) (needL x b) := by
  have h2 := h.ah.keep hb
  obtain ⟨p, c, hv, _⟩ := own_form (h2.rows b hbn)
  have h3 := (h2.cell hbn).1
  have h4 := ints_own (h2.rows b hbn)
  rw [hv] at h3 h4
  exact ⟨_, _, _, h3, h4⟩
set_option maxHeartbeats 16000000 in
set_option maxRecDepth 100000 in
theorem liveSteps_any (x : PGr) (vp va vb : Value) (w : World) (h : GrL w vp va vb x) (hs : SmG x) (hT : TabAt 0 Lib.deBruijn64tab w) (h0 : 0 < w.heap.size) :
    Calls Tryd.prog 4 #[grV x vp va vb] w (Is (.bool true) w) := by
  obtain ⟨pp, pc, rfl⟩ := h.params.form
  obtain ⟨ap, ac, rfl⟩ := h.arrays.form
  have HG := Lib.hid h
  have HBK := Lib.hid h.blocks
  obtain ⟨bp, bc, rfl⟩ := h.blocks.form
  have HS := Lib.hid hs
  have HTB := Lib.hid (fun (W : World) (hW : Below w.heap.size w W) => tab_below hT h0 hW)
  have H0 := Lib.hid (fun (W : World) (hW : Below w.heap.size w W) => Nat.lt_of_lt_of_le h0 hW.size)
  have HAL := Lib.hid (fun (W : World) (hW : Below w.heap.size w W) => alive_any W (tab_below hT h0 hW) (Nat.lt_of_lt_of_le h0 hW.size))
  obtain ⟨n, hn⟩ : ∃ n, n = x.blocks.length := ⟨_, rfl⟩
  have HN := Lib.hid hn
  cases hf : fitsB x with
  | false =>
    have HLV := Lib.hid (fun (W : World) (hW : Below w.heap.size w W) => live_no x _ _ _ W (HG.out.below hW) hs hf)
    unfold grV at HLV ⊢
    rw [← hn] at HLV ⊢
    clear h hs hT h0 hn hf
    go_enter Tryd.func4, Tryd.ntmps4
    go_wp2_with (first
      | (go_at_call 11
         refine (HLV.out _ (Graph.below_alloc w _)).mono ?_
         rintro e w5 ⟨rfl, hb5⟩
         have HB5 : Hid (Below w.heap.size w w5) := Lib.hid (below_then (Graph.below_alloc w _) hb5)
         clear hb5)
      | (go_at_call 13
         refine (HAL.out _ HB5.out).mono ?_
         rintro e w6 ⟨rfl, hb6⟩
         have HB6 := Lib.hid hb6
         clear hb6))
    go_ret
    exact ⟨rfl, below_then HB5.out HB6.out⟩
  | true =>
    have hfd := hf
    unfold fitsB at hfd
    rw [Bool.and_eq_true] at hfd
    have hlen := of_decide_eq_true hfd.1
    have HLV := Lib.hid (fun (W : World) (hW : Below w.heap.size w W) => live_ok x _ _ _ W (HG.out.below hW) hs hf (HTB.out W hW) (H0.out W hW))
    have HNX := Lib.hid (fun (W : World) (hW : Below w.heap.size w W) (b : Int) => rnext_any x _ _ _ b W (HG.out.below hW) hs)
    have HF := Lib.hid hf
    unfold grV at HLV HNX ⊢
    rw [← hn] at HLV HNX ⊢
    have hnn : n ≤ 20000 := by omega
    have hti : x.temps ≤ 8000 := by omega
    have ht0 : 0 ≤ x.temps := by omega
    obtain ⟨T, hT2⟩ : ∃ T : Nat, x.temps = T := ⟨x.temps.toNat, by omega⟩
    have HTT : Hid (x.temps = T) := Lib.hid hT2
    rw [hT2] at hti HLV HNX ⊢
    have ni : (n : Int) ≤ 20000 := by omega
    clear h hs hT h0 hn hf hfd hlen ht0 hT2
    go_enter Tryd.func4, Tryd.ntmps4
    have HX1 : Hid ((w.alloc (.cells #[.slice pp x.params.length pc, .int .i64 T, .slice ap x.arrays.length ac, .slice bp n bc] 26)).heap[w.heap.size]? = some (.cells #[.slice pp x.params.length pc, .int .i64 T, .slice ap x.arrays.length ac, .slice bp n bc] 26 (0, 0))) := Lib.hid (heap_new w _)
    have HB1 := Lib.hid (Graph.below_alloc w (.cells #[.slice pp x.params.length pc, .int .i64 T, .slice ap x.arrays.length ac, .slice bp n bc] 26))
    have HCE : Hid (∀ W : World, Below (w.heap.size + 1) (w.alloc (.cells #[.slice pp x.params.length pc, .int .i64 T, .slice ap x.arrays.length ac, .slice bp n bc] 26)) W → W.cell? ⟨w.heap.size, 0, none⟩ = some (.slice pp x.params.length pc) ∧ W.cell? ⟨w.heap.size, 1, none⟩ = some (.int .i64 T) ∧ W.cell? ⟨w.heap.size, 2, none⟩ = some (.slice ap x.arrays.length ac) ∧ W.cell? ⟨w.heap.size, 3, none⟩ = some (.slice bp n bc)) := Lib.hid (fun W hW => by
      have hb := (hW.block _ (by omega)).trans HX1.out
      exact ⟨(cell_of_block hb (k := 0) rfl).1, (cell_of_block hb (k := 1) rfl).1, (cell_of_block hb (k := 2) rfl).1, (cell_of_block hb (k := 3) rfl).1⟩)
    go_wp2_with (first
      | (go_at_call 11
         refine (HLV.out _ HB1.out).mono ?_
         rintro e w5 ⟨rb, vs, rfl, h5⟩
         have H5 := Lib.hid h5
         have HB5 : Hid (Below w.heap.size w w5) := Lib.hid (below_then HB1.out h5.below)
         have hb6 : Below (w.heap.size + 1) (w.alloc (.cells #[.slice pp x.params.length pc, .int .i64 T, .slice ap x.arrays.length ac, .slice bp n bc] 26)) w5 := by have := h5.below; simpa using this
         have HB6 := Lib.hid hb6
         obtain ⟨y0, y1, y2, y3⟩ := HCE.out w5 hb6
         clear h5 hb6)
      | (go_at_call 13
         refine (HAL.out _ HB5.out).mono ?_
         rintro e w6 ⟨rfl, hb6⟩
         have HB7 : Hid (Below w5.heap.size w5 w6) := Lib.hid hb6
         clear hb6))
    have HSZ5 : Hid (∀ W : World, Below w5.heap.size w5 W → W.cell? ⟨w.heap.size, 0, none⟩ = some (.slice pp x.params.length pc) ∧ W.cell? ⟨w.heap.size, 1, none⟩ = some (.int .i64 T) ∧ W.cell? ⟨w.heap.size, 2, none⟩ = some (.slice ap x.arrays.length ac) ∧ W.cell? ⟨w.heap.size, 3, none⟩ = some (.slice bp n bc)) := Lib.hid (fun W hW => by
      have hl : w.heap.size < w5.heap.size := World.block_lt_of_cell? w5 _ y0
      exact ⟨(cell_below hW hl _).trans y0, (cell_below hW hl _).trans y1, (cell_below hW hl _).trans y2, (cell_below hW hl _).trans y3⟩)
    clear HCE HX1 HB1 HLV HAL y0 y1 y2 y3
    go_loopw [5] (fun i wr => ∃ b : Nat, b ≤ n ∧ i = .int .i64 b ∧ Hid (Below w5.heap.size w5 wr)) (fun i _ => n - (intOf i).toNat)
    case atStart => exact ⟨0, Nat.zero_le _, rfl, HB7⟩
    case round =>
      obtain ⟨b, hb, rfl, HR⟩ := hrel
      by_cases hbn : b < n
      · have bi : (b : Int) < n := by omega
        have b0 : (0 : Int) ≤ b := by omega
        have b2 : (n : Int) ≤ bc := by
          obtain ⟨g, o, cap, hv, hcap, _⟩ := SlR.form2 HBK.out (by have := HN.out; omega)
          injection hv with _ _ e3
          have := HN.out
          omega
        have b3 : (bc : Int) ≤ 9223372036854775807 := by
          obtain ⟨g, o, cap, hv, hcap, _⟩ := SlR.form2 HBK.out (by have := HN.out; omega)
          injection hv with _ _ e3
          omega
        go_wp2
        go_loopw [6] (fun i wq => ∃ t : Nat, t ≤ T ∧ i = .int .i64 t ∧ Hid (Below w5.heap.size w5 wq)) (fun i _ => T - (intOf i).toNat)
        case atStart => exact ⟨0, Nat.zero_le _, rfl, HR⟩
        case round =>
          obtain ⟨t, ht, rfl, HQ⟩ := hrel
          obtain ⟨y0, y1, y2, y3⟩ := HSZ5.out wr HQ.out
          by_cases htT : t < T
          · have ti : (t : Int) < T := by omega
            have t0 : (0 : Int) ≤ t := by omega
            obtain ⟨blk, hblk⟩ : ∃ blk, x.blocks[b]? = some blk := ⟨_, List.getElem?_eq_getElem (by have := HN.out; omega)⟩
            obtain ⟨g, o, cap, hv, hcap, hgl, _⟩ := SlR.form2 HBK.out (by have := HN.out; omega)
            have hv2 := hv
            injection hv2 with e1 _ e3
            subst e1 e3
            have hBW : Below w.heap.size w wr := below_then HB5.out HQ.out
            obtain ⟨pk, ck, pz, cc, pt, ct, ⟨c0, c1, c2, c3, c4, c5, c6, c7, c8, c9⟩, hck, hel, hg⟩ := blk_at HBK.out hBW hblk
            have HFI := Lib.hid (fun (W : World) (hW : Below wr.heap.size wr W) => first_any blk x.temps _ _ _ (t : Int) t0 W (fits_blk HF.out hblk).1 (HS.out.2.2.2 blk (List.mem_of_getElem? hblk)) (hck.below hW) (hel.below hW))
            unfold blkV at HFI
            have HLM : Hid (∀ s, s ∈ nextL x (b : Int) ↔ s ∈ namedN blk.fin) := Lib.hid (next_mem hblk)
            have HLB : Hid (∀ c ∈ nextL x (b : Int), 0 ≤ c ∧ c < n) := Lib.hid (fun c hc => by
              have h1 := List.all_eq_true.1 (fits_blk HF.out hblk).2 c ((HLM.out c).1 hc)
              have := HN.out
              unfold belowB at h1
              simp only [Bool.and_eq_true, decide_eq_true_eq] at h1
              omega)
            have HWe0 : Hid (∀ j, (firstB blk (t : Int) ≠ 0 ∨ j = (nextL x (b : Int)).length) → wantK x (firstB blk (t : Int)) (t : Int) (nextL x (b : Int)) j = decide ((t : Int) ∈ needL x b)) := Lib.hid (fun j hj => want_end HF.out hblk (by have := HTT.out; omega) HLM.out hj)
            have HNXB := Lib.hid (fun (W : World) (hW : Below w.heap.size w W) => HNX.out W hW (b : Int))
            generalize hLL : nextL x (b : Int) = LL at HLM HLB HWe0 HNXB
            generalize firstB blk (t : Int) = q at HFI HWe0
            have HW0 := Lib.hid (want_zero x q (t : Int) LL)
            have HWs : Hid (∀ k c, q = 0 → LL[k]? = some c → wantK x q (t : Int) LL (k + 1) = (wantK x q (t : Int) LL k || decide ((t : Int) ∈ needL x c.toNat))) := Lib.hid (fun k c hq hc => want_succ hq hc)
            generalize wantK x q (t : Int) LL = WK at HWe0 HW0 HWs
            obtain ⟨m, hm⟩ : ∃ m, m = LL.length := ⟨_, rfl⟩
            rw [← hm] at HWe0
            have HWe : Hid (∀ j, (q ≠ 0 ∨ j = m) → WK j = decide ((t : Int) ∈ needL x b)) := HWe0
            have HM := Lib.hid hm
            have e1 : ((q : Int) == 1) = WK 0 := by
              rw [HW0.out, Bool.eq_iff_iff]; simp; omega
            clear hblk hv hcap hgl hck hel hg hm hLL HWe0
            go_wp2_with (first
              | (go_at_call 15
                 refine (HFI.out _ (Below.refl _ _)).mono ?_
                 rintro e w2 ⟨rfl, hb2⟩
                 have HB2 := Lib.hid hb2
                 obtain ⟨y0, y1, y2, y3⟩ := HSZ5.out w2 (below_then HQ.out hb2)
                 clear hb2)
              | (go_at_call 16
                 refine (HNXB.out w2 (below_then HB5.out (below_then HQ.out HB2.out))).mono ?_
                 rintro e w3 ⟨v3, rfl, h3, hb3⟩
                 rw [← HM.out] at h3
                 obtain ⟨p3, c3', rfl, hm3⟩ := own_form h3
                 have H3 := Lib.hid h3
                 have HB3 := Lib.hid hb3
                 clear h3 hb3))
            clear c0 c1 c2 c3 c4 c5 c6 c7 c8 c9 y0 y1 y2 y3 hBW HFI HNXB
            go_loopw [8, 10] (fun want i wq => ∃ k : Nat, k ≤ m ∧ i = .int .i64 k ∧ want = .bool (WK k) ∧ Hid (Below w3.heap.size w3 wq)) (fun _ i _ => m - (intOf i).toNat)
            case atStart => exact ⟨0, Nat.zero_le _, rfl, by first | rfl | rw [e1], Lib.hid (Below.refl _ _)⟩
            case round =>
              obtain ⟨k, hk, rfl, rfl, HV⟩ := hrel
              clear e1
              have HWR : Hid (Below w5.heap.size w5 wr) := Lib.hid (below_then HQ.out (below_then HB2.out (below_then HB3.out HV.out)))
              by_cases hkm : k < m
              · have ki : (k : Int) < m := by omega
                have k0 : (0 : Int) ≤ k := by omega
                by_cases hq0 : q = 0
                · have hq1 : ((q : Int) == 0) = true := by simp [hq0]
                  obtain ⟨c, hc⟩ : ∃ c, LL[k]? = some c := ⟨_, List.getElem?_eq_getElem (by have := HM.out; omega)⟩
                  obtain ⟨q0, q1⟩ := HLB.out c (List.mem_of_getElem? hc)
                  obtain ⟨a, rfl⟩ := Int.eq_ofNat_of_zero_le q0
                  have han : a < n := by omega
                  have HWS := Lib.hid (HWs.out k _ hq0 hc)
                  obtain ⟨g4, cc4, hv4, ce, _, _, _, hc1, hc2⟩ := own_cell (own_below H3.out HV.out) (k := k) (x := iv (a : Int)) (by rw [List.getElem?_map, hc]; rfl) hkm
                  injection hv4 with e1 _ e3
                  subst e1 e3
                  have k2 : (m : Int) ≤ c3' := by omega
                  have k3 : (c3' : Int) ≤ 9223372036854775807 := by omega
                  have ce2 : wr.cell? ⟨g4, k, none⟩ = some (.int .i64 (a : Nat)) := ce
                  obtain ⟨pa, ka, ca, ra1, ra2⟩ := out_row H5.out HWR.out han
                  rw [Int.toNat_natCast] at HWS
                  clear hc hc1 hc2 ce q0 hq0
                  cases hwk : WK k with
                  | true =>
                    have HE : Hid (WK (k + 1) = true) := Lib.hid (by rw [HWS.out, hwk]; rfl)
                    clear hwk
                    go_wp2
                    exact ⟨⟨k + 1, by omega, by go_num, by rw [HE.out], HV⟩, by simp [intOf]; omega⟩
                  | false =>
                    have HE : Hid (WK (k + 1) = decide ((t : Int) ∈ needL x a)) := Lib.hid (by rw [HWS.out, hwk]; rfl)
                    clear hwk
                    go_wp2_with (
                      go_at_call 17
                      refine (inList_any _ _ _ _ ra2).mono ?_
                      rintro e w9 ⟨rfl, rfl⟩)
                    exact ⟨⟨k + 1, by omega, by go_num, by rw [HE.out], HV⟩, by simp [intOf]; omega⟩
                · have hq1 : ((q : Int) == 0) = false := by simpa using hq0
                  obtain ⟨pb, kb, cb, rw1, rw2⟩ := out_row H5.out HWR.out hbn
                  cases hd : decide ((t : Int) ∈ needL x b) with
                  | true =>
                    have hwk : WK k = true := (HWe.out k (.inl hq0)).trans hd
                    have HD := Lib.hid hd
                    rw [hwk]
                    clear hd hwk
                    go_wp2_with (
                      go_at_call 17
                      refine (inList_any _ _ _ _ rw2).mono ?_
                      rintro e w9 ⟨rfl, rfl⟩
                      rw [HD.out])
                    exact ⟨⟨t + 1, by omega, by go_num, Lib.hid (below_then HQ.out (below_then HB2.out (below_then HB3.out HV.out)))⟩, by simp [intOf]; omega⟩
                  | false =>
                    have hwk : WK k = false := (HWe.out k (.inl hq0)).trans hd
                    have HD := Lib.hid hd
                    rw [hwk]
                    clear hd hwk
                    go_wp2_with (
                      go_at_call 17
                      refine (inList_any _ _ _ _ rw2).mono ?_
                      rintro e w9 ⟨rfl, rfl⟩
                      rw [HD.out])
                    exact ⟨⟨t + 1, by omega, by go_num, Lib.hid (below_then HQ.out (below_then HB2.out (below_then HB3.out HV.out)))⟩, by simp [intOf]; omega⟩
              · have hkm2 : k = m := by omega
                have ki : ¬ ((k : Int) < m) := by omega
                obtain ⟨pb, kb, cb, rw1, rw2⟩ := out_row H5.out HWR.out hbn
                cases hd : decide ((t : Int) ∈ needL x b) with
                | true =>
                  have hwk : WK k = true := (HWe.out k (.inr hkm2)).trans hd
                  have HD := Lib.hid hd
                  rw [hwk]
                  clear hd hwk
                  go_wp2_with (
                    go_at_call 17
                    refine (inList_any _ _ _ _ rw2).mono ?_
                    rintro e w9 ⟨rfl, rfl⟩
                    rw [HD.out])
                  exact ⟨⟨t + 1, by omega, by go_num, Lib.hid (below_then HQ.out (below_then HB2.out (below_then HB3.out HV.out)))⟩, by simp [intOf]; omega⟩
                | false =>
                  have hwk : WK k = false := (HWe.out k (.inr hkm2)).trans hd
                  have HD := Lib.hid hd
                  rw [hwk]
                  clear hd hwk
                  go_wp2_with (
                    go_at_call 17
                    refine (inList_any _ _ _ _ rw2).mono ?_
                    rintro e w9 ⟨rfl, rfl⟩
                    rw [HD.out])
                  exact ⟨⟨t + 1, by omega, by go_num, Lib.hid (below_then HQ.out (below_then HB2.out (below_then HB3.out HV.out)))⟩, by simp [intOf]; omega⟩
          · have htT2 : t = T := by omega
            have ti : ¬ ((t : Int) < T) := by omega
            go_wp2
            exact ⟨⟨b + 1, by omega, by go_num, HQ⟩, by simp [intOf]; omega⟩
      · have hbn2 : b = n := by omega
        have bi : ¬ ((b : Int) < n) := by omega
        go_wp2
        go_ret
        exact ⟨rfl, below_then HB5.out HR.out⟩
end Go.Proofs.YtdmmeeolkonmeaaDoor.Live
