/- The law LiveNoMore, at any graph. No condition but sizes and the table of bits. -/
import Derived.Test.YtdmmeeolkonmeaaDoorLmf
namespace Go.Proofs.YtdmmeeolkonmeaaDoor.Live
open Go.RowKit Go.Proofs.YtdmmeeolkonmeaaDoor.Graph Go.Shelf

/-- The end of a block's turn: all that is needed within one step more is marked. -/
theorem turn_end {x : PGr} {t : Int} {r b m k : Nat} {blk : PBlk} {LL : List Int} {U U' : Nat → Bool} (hb : x.blocks[b]? = some blk) (hl : ∀ s, s ∈ LL ↔ s ∈ namedN blk.fin) (hm : m = LL.length)
    (hU : ∀ c, lev x t r c → U c = true) (hlt : ∀ c, c < b → lev x t (r + 1) c → U c = true) (h1 : ∀ c, U c = true → U' c = true) (h2 : ∀ j c, j < k → LL[j]? = some c → U c.toNat = true → U' b = true) (hk : firstB blk t ≠ 0 ∨ k = m) {V : Bool} (hV : V = (U' b || decide (firstB blk t = 1))) :
    (∀ c, lev x t r c → (fun q => if q = b then V else U' q) c = true) ∧ ∀ c, c < b + 1 → lev x t (r + 1) c → (fun q => if q = b then V else U' q) c = true := by
  have hmono : ∀ c, U c = true → (fun q => if q = b then V else U' q) c = true := fun c hc => by
    by_cases e : c = b
    · subst e; simp only [if_true]; rw [hV, h1 c hc]; rfl
    · simp only [if_neg e]; exact h1 c hc
  refine ⟨fun c hc => hmono c (hU c hc), fun c hcb hc => ?_⟩
  by_cases e : c = b
  · subst e
    simp only [if_true]
    obtain ⟨blk', hb', h⟩ := hc
    rw [hb] at hb'
    injection hb' with e
    subst e
    rw [hV]
    rcases h with h | ⟨h, a, ha, hn⟩
    · rw [decide_eq_true h, Bool.or_true]
    · have hkm : k = m := by
        rcases hk with h3 | h3
        · exact absurd h h3
        · exact h3
      obtain ⟨j, hj, e⟩ := List.mem_iff_getElem.1 ((hl _).2 ha)
      rw [h2 j (a : Int) (by omega) (by rw [List.getElem?_eq_getElem hj, e]) (by rw [Int.toNat_natCast]; exact hU a hn), Bool.true_or]
  · exact hmono c (hlt c (by omega) hc)
set_option maxHeartbeats 16000000 in
set_option maxRecDepth 100000 in
theorem liveNoMore_any (x : PGr) (vp va vb : Value) (w : World) (h : GrL w vp va vb x) (hs : SmG x) (hT : TabAt 0 Lib.deBruijn64tab w) (h0 : 0 < w.heap.size) :
    Calls Tryd.prog 5 #[grV x vp va vb] w (Is (.bool true) w) := by
  obtain ⟨pp, pc, rfl⟩ := h.params.form
  obtain ⟨ap, ac, rfl⟩ := h.arrays.form
  have HG := Lib.hid h
  have HBK := Lib.hid h.blocks
  obtain ⟨bp, bc, rfl⟩ := h.blocks.form
  have HS := Lib.hid hs
  have HTB := Lib.hid (fun (W : World) (hW : Below w.heap.size w W) => tab_below hT h0 hW)
  have H0 := Lib.hid (fun (W : World) (hW : Below w.heap.size w W) => Nat.lt_of_lt_of_le h0 hW.size)
  have HAL := Lib.hid (fun (W : World) (hW : Below w.heap.size w W) => alive_any W (tab_below hT h0 hW) (Nat.lt_of_lt_of_le h0 hW.size))
  obtain ⟨n, hn⟩ : ∃ n, n = x.blocks.length := ⟨_, rfl⟩
  have HN := Lib.hid hn
  cases hf : fitsB x with
  | false =>
    have HLV := Lib.hid (fun (W : World) (hW : Below w.heap.size w W) => live_no x _ _ _ W (HG.out.below hW) hs hf)
    unfold grV at HLV ⊢
    rw [← hn] at HLV ⊢
    clear h hs hT h0 hn hf
    go_enter Tryd.func5, Tryd.ntmps5
    go_wp2_with (first
      | (go_at_call 11
         refine (HLV.out _ (Graph.below_alloc w _)).mono ?_
         rintro e w5 ⟨rfl, hb5⟩
         have HB5 : Hid (Below w.heap.size w w5) := Lib.hid (below_then (Graph.below_alloc w _) hb5)
         clear hb5)
      | (go_at_call 13
         refine (HAL.out _ HB5.out).mono ?_
         rintro e w6 ⟨rfl, hb6⟩
         have HB6 := Lib.hid hb6
         clear hb6))
    go_ret
    exact ⟨rfl, below_then HB5.out HB6.out⟩
  | true =>
    have hfd := hf
    unfold fitsB at hfd
    rw [Bool.and_eq_true] at hfd
    have hlen := of_decide_eq_true hfd.1
    have HLV := Lib.hid (fun (W : World) (hW : Below w.heap.size w W) => live_ok x _ _ _ W (HG.out.below hW) hs hf (HTB.out W hW) (H0.out W hW))
    have HNX := Lib.hid (fun (W : World) (hW : Below w.heap.size w W) (b : Int) => rnext_any x _ _ _ b W (HG.out.below hW) hs)
    have HF := Lib.hid hf
    unfold grV at HLV HNX ⊢
    rw [← hn] at HLV HNX ⊢
    have hnn : n ≤ 20000 := by omega
    have hti : x.temps ≤ 8000 := by omega
    have ht0 : 0 ≤ x.temps := by omega
    obtain ⟨T, hT2⟩ : ∃ T : Nat, x.temps = T := ⟨x.temps.toNat, by omega⟩
    have HTT : Hid (x.temps = T) := Lib.hid hT2
    rw [hT2] at hti HLV HNX ⊢
    have ni : (n : Int) ≤ 20000 := by omega
    clear h hs hT h0 hn hf hfd hlen ht0 hT2
    go_enter Tryd.func5, Tryd.ntmps5
    have HX1 : Hid ((w.alloc (.cells #[.slice pp x.params.length pc, .int .i64 T, .slice ap x.arrays.length ac, .slice bp n bc] 26)).heap[w.heap.size]? = some (.cells #[.slice pp x.params.length pc, .int .i64 T, .slice ap x.arrays.length ac, .slice bp n bc] 26 (0, 0))) := Lib.hid (heap_new w _)
    have HB1 := Lib.hid (Graph.below_alloc w (.cells #[.slice pp x.params.length pc, .int .i64 T, .slice ap x.arrays.length ac, .slice bp n bc] 26))
    have HCE : Hid (∀ W : World, Below (w.heap.size + 1) (w.alloc (.cells #[.slice pp x.params.length pc, .int .i64 T, .slice ap x.arrays.length ac, .slice bp n bc] 26)) W → W.cell? ⟨w.heap.size, 0, none⟩ = some (.slice pp x.params.length pc) ∧ W.cell? ⟨w.heap.size, 1, none⟩ = some (.int .i64 T) ∧ W.cell? ⟨w.heap.size, 2, none⟩ = some (.slice ap x.arrays.length ac) ∧ W.cell? ⟨w.heap.size, 3, none⟩ = some (.slice bp n bc)) := Lib.hid (fun W hW => by
      have hb := (hW.block _ (by omega)).trans HX1.out
      exact ⟨(cell_of_block hb (k := 0) rfl).1, (cell_of_block hb (k := 1) rfl).1, (cell_of_block hb (k := 2) rfl).1, (cell_of_block hb (k := 3) rfl).1⟩)
    go_wp2_with (first
      | (go_at_call 11
         refine (HLV.out _ HB1.out).mono ?_
         rintro e w5 ⟨rb, vs, rfl, h5⟩
         have H5 := Lib.hid h5
         have HB5 : Hid (Below w.heap.size w w5) := Lib.hid (below_then HB1.out h5.below)
         have hb6 : Below (w.heap.size + 1) (w.alloc (.cells #[.slice pp x.params.length pc, .int .i64 T, .slice ap x.arrays.length ac, .slice bp n bc] 26)) w5 := by have := h5.below; simpa using this
         have HB6 := Lib.hid hb6
         obtain ⟨y0, y1, y2, y3⟩ := HCE.out w5 hb6
         clear h5 hb6)
      | (go_at_call 13
         refine (HAL.out _ HB5.out).mono ?_
         rintro e w6 ⟨rfl, hb6⟩
         have HB7 : Hid (Below w5.heap.size w5 w6) := Lib.hid hb6
         clear hb6))
    have HSZ5 : Hid (∀ W : World, Below w5.heap.size w5 W → W.cell? ⟨w.heap.size, 0, none⟩ = some (.slice pp x.params.length pc) ∧ W.cell? ⟨w.heap.size, 1, none⟩ = some (.int .i64 T) ∧ W.cell? ⟨w.heap.size, 2, none⟩ = some (.slice ap x.arrays.length ac) ∧ W.cell? ⟨w.heap.size, 3, none⟩ = some (.slice bp n bc)) := Lib.hid (fun W hW => by
      have hl : w.heap.size < w5.heap.size := World.block_lt_of_cell? w5 _ y0
      exact ⟨(cell_below hW hl _).trans y0, (cell_below hW hl _).trans y1, (cell_below hW hl _).trans y2, (cell_below hW hl _).trans y3⟩)
    clear HCE HX1 HB1 HLV y0 y1 y2 y3
    have hmb := fun W => make_bools n hnn W
    have HBC : Hid ((n : Int) ≤ bc ∧ (bc : Int) ≤ 9223372036854775807 ∨ n = 0) := Lib.hid (by
      rcases Nat.eq_zero_or_pos n with h9 | h9
      · exact .inr h9
      · obtain ⟨g, o, cap, hv, hcap, _⟩ := SlR.form2 HBK.out (by have := HN.out; omega)
        injection hv with _ _ e3
        have := HN.out
        exact .inl ⟨by omega, by omega⟩)
    go_loopw [5] (fun i wr => ∃ t : Nat, t ≤ T ∧ i = .int .i64 t ∧ Hid (Below w5.heap.size w5 wr)) (fun i _ => T - (intOf i).toNat)
    case atStart => exact ⟨0, Nat.zero_le _, rfl, Lib.hid (Below.refl _ _)⟩
    case round =>
      obtain ⟨t, ht, rfl, HQ⟩ := hrel
      obtain ⟨y0, y1, y2, y3⟩ := HSZ5.out wr HQ.out
      by_cases htT : t < T
      · have ti : (t : Int) < T := by omega
        have t0 : (0 : Int) ≤ t := by omega
        obtain ⟨ub, hub⟩ : ∃ ub, ub = wr.heap.size := ⟨_, rfl⟩
        have HUB : Hid (w5.heap.size ≤ ub) := Lib.hid (by rw [hub]; exact HQ.out.size)
        have HR0 : Hid (BoRow (wr.alloc (.cells (madeCells #[.bool false] n) 4)) ub n (fun _ => false)) := Lib.hid (by rw [hub]; exact made_bools (heap_new wr _))
        have HB0 : Hid (Below w5.heap.size w5 (wr.alloc (.cells (madeCells #[.bool false] n) 4))) := Lib.hid (below_then HQ.out (Graph.below_alloc wr _))
        go_wp2
        rw [← hub]
        generalize wr.alloc (.cells (madeCells #[.bool false] n) 4) = wm at HR0 HB0 ⊢
        clear y0 y1 y2 y3 hub HQ
        go_loopw [7] (fun i wq => ∃ (r : Nat) (U : Nat → Bool), r ≤ n ∧ i = .int .i64 r ∧ Hid (BoRow wq ub n U) ∧ Hid (Below w5.heap.size w5 wq) ∧ Hid (∀ c, lev x (t : Int) r c → U c = true)) (fun i _ => n - (intOf i).toNat)
        case atStart => exact ⟨0, _, Nat.zero_le _, rfl, HR0, HB0, Lib.hid (fun c h => h.elim)⟩
        case round =>
          obtain ⟨r, U0, hr, rfl, HRR, HBR, HLR⟩ := hrel
          by_cases hrn : r < n
          · have ri : (r : Int) < n := by omega
            have r0 : (0 : Int) ≤ r := by omega
            have hbc : (n : Int) ≤ bc ∧ (bc : Int) ≤ 9223372036854775807 := by
              rcases HBC.out with h9 | h9
              · exact h9
              · omega
            obtain ⟨b2, b3⟩ := hbc
            go_wp2
            go_loopw [8] (fun i wq => ∃ (b : Nat) (U : Nat → Bool), b ≤ n ∧ i = .int .i64 b ∧ Hid (BoRow wq ub n U) ∧ Hid (Below w5.heap.size w5 wq) ∧ Hid (∀ c, lev x (t : Int) r c → U c = true) ∧ Hid (∀ c, c < b → lev x (t : Int) (r + 1) c → U c = true)) (fun i _ => n - (intOf i).toNat)
            case atStart => exact ⟨0, U0, Nat.zero_le _, rfl, HRR, HBR, HLR, Lib.hid (fun c hc => absurd hc (Nat.not_lt_zero _))⟩
            case round =>
              obtain ⟨b, U, hb, rfl, HRU, HBU, HU, HLT⟩ := hrel
              by_cases hbn : b < n
              · have bi : (b : Int) < n := by omega
                have b0 : (0 : Int) ≤ b := by omega
                obtain ⟨y0, y1, y2, y3⟩ := HSZ5.out wr HBU.out
                obtain ⟨blk, hblk⟩ : ∃ blk, x.blocks[b]? = some blk := ⟨_, List.getElem?_eq_getElem (by have := HN.out; omega)⟩
                obtain ⟨g, o, cap, hv, hcap, hgl, _⟩ := SlR.form2 HBK.out (by have := HN.out; omega)
                have hv2 := hv
                injection hv2 with e1 _ e3
                subst e1 e3
                have hBW : Below w.heap.size w wr := below_then HB5.out HBU.out
                obtain ⟨pk, ck, pz, cc, pt, ct, ⟨c0, c1, c2, c3, c4, c5, c6, c7, c8, c9⟩, hck, hel, hg⟩ := blk_at HBK.out hBW hblk
                have HFI := Lib.hid (fun (W : World) (hW : Below wr.heap.size wr W) => first_any blk x.temps _ _ _ (t : Int) t0 W (fits_blk HF.out hblk).1 (HS.out.2.2.2 blk (List.mem_of_getElem? hblk)) (hck.below hW) (hel.below hW))
                unfold blkV at HFI
                have HLM : Hid (∀ s, s ∈ nextL x (b : Int) ↔ s ∈ namedN blk.fin) := Lib.hid (next_mem hblk)
                have HLB : Hid (∀ c ∈ nextL x (b : Int), 0 ≤ c ∧ c < n) := Lib.hid (fun c hc => by
                  have h1 := List.all_eq_true.1 (fits_blk HF.out hblk).2 c ((HLM.out c).1 hc)
                  have := HN.out
                  unfold belowB at h1
                  simp only [Bool.and_eq_true, decide_eq_true_eq] at h1
                  omega)
                have HNXB := Lib.hid (fun (W : World) (hW : Below w.heap.size w W) => HNX.out W hW (b : Int))
                generalize hLL : nextL x (b : Int) = LL at HLM HLB HNXB
                obtain ⟨m, hm⟩ : ∃ m, m = LL.length := ⟨_, rfl⟩
                have HM := Lib.hid hm
                obtain ⟨q, hq⟩ : ∃ q, q = firstB blk (t : Int) := ⟨_, rfl⟩
                rw [← hq] at HFI
                have HEND : Hid (∀ (U U' : Nat → Bool) (k : Nat), (∀ c, lev x (t : Int) r c → U c = true) → (∀ c, c < b → lev x (t : Int) (r + 1) c → U c = true) → (∀ c, U c = true → U' c = true) → (∀ j c, j < k → LL[j]? = some c → U c.toNat = true → U' b = true) → (q ≠ 0 ∨ k = m) → ∀ V : Bool, V = (U' b || decide (q = 1)) → (∀ c, lev x (t : Int) r c → (fun q => if q = b then V else U' q) c = true) ∧ ∀ c, c < b + 1 → lev x (t : Int) (r + 1) c → (fun q => if q = b then V else U' q) c = true) := Lib.hid (fun U U' k a1 a2 a3 a4 a5 V a6 => turn_end hblk HLM.out hm a1 a2 a3 a4 (by rw [← hq]; exact a5) (by rw [← hq]; exact a6))
                clear hblk hv hcap hgl hck hel hg hm hLL hq
                go_wp2_with (first
                  | (go_at_call 15
                     refine (HFI.out _ (Below.refl _ _)).mono ?_
                     rintro e w2 ⟨rfl, hb2⟩
                     have HB2 := Lib.hid hb2
                     obtain ⟨y0, y1, y2, y3⟩ := HSZ5.out w2 (below_then HBU.out hb2)
                     clear hb2)
                  | (go_at_call 16
                     refine (HNXB.out w2 (below_then HB5.out (below_then HBU.out HB2.out))).mono ?_
                     rintro e w3 ⟨v3, rfl, h3, hb3⟩
                     rw [← HM.out] at h3
                     obtain ⟨p3, c3', rfl, hm3⟩ := own_form h3
                     have H3 := Lib.hid h3
                     have HB3 := Lib.hid hb3
                     clear h3 hb3))
                clear c0 c1 c2 c3 c4 c5 c6 c7 c8 c9 y0 y1 y2 y3 hBW HFI HNXB
                have HRU3 : Hid (BoRow w3 ub n U) := Lib.hid ((HRU.out.below HB2.out).below HB3.out)
                have HBU3 : Hid (Below w5.heap.size w5 w3) := Lib.hid (below_then HBU.out (below_then HB2.out HB3.out))
                have HNB : Hid (∀ y, Value.ownBlock (.slice p3 m c3') = some y → ub < y) := Lib.hid (fun y hy => by
                  have h7 := (H3.out.lt y hy).1
                  have h8 := HRU.out.lt
                  have h9 := HB2.out.size
                  omega)
                have hkpos : ∀ y : Option Addr, True := fun _ => trivial
                clear hkpos HRU HBU
                go_loopw [11] (fun i wq => ∃ (k : Nat) (U' : Nat → Bool), k ≤ m ∧ i = .int .i64 k ∧ Hid (BoRow wq ub n U') ∧ Hid (Below w5.heap.size w5 wq) ∧ Hid (∀ c, U c = true → U' c = true) ∧ Hid (∀ j c, j < k → LL[j]? = some c → U c.toNat = true → U' b = true) ∧ Hid (wq.ownsRow w2.heap.size 3 1 (.slice p3 m c3') m (LL.map iv))) (fun i _ => m - (intOf i).toNat)
                case atStart => exact ⟨0, U, Nat.zero_le _, rfl, HRU3, HBU3, Lib.hid (fun _ h => h), Lib.hid (fun j c hj => absurd hj (Nat.not_lt_zero _)), H3⟩
                case round =>
                  obtain ⟨k, U', hk, rfl, HRW, HWR, HM1, HM2, HOW⟩ := hrel
                  by_cases hkm : k < m
                  · have ki : (k : Int) < m := by omega
                    have k0 : (0 : Int) ≤ k := by omega
                    by_cases hq0 : q = 0
                    · have hq1 : ((q : Int) == 0) = true := by simp [hq0]
                      obtain ⟨c, hc⟩ : ∃ c, LL[k]? = some c := ⟨_, List.getElem?_eq_getElem (by have := HM.out; omega)⟩
                      obtain ⟨q0, q1⟩ := HLB.out c (List.mem_of_getElem? hc)
                      obtain ⟨a, rfl⟩ := Int.eq_ofNat_of_zero_le q0
                      have han : a < n := by omega
                      have HCC := Lib.hid hc
                      obtain ⟨g4, cc4, hv4, ce, _, _, _, hc1, hc2⟩ := own_cell HOW.out (k := k) (x := iv (a : Int)) (by rw [List.getElem?_map, hc]; rfl) hkm
                      injection hv4 with e1 _ e3
                      subst e1 e3
                      have k2 : (m : Int) ≤ c3' := by omega
                      have k3 : (c3' : Int) ≤ 9223372036854775807 := by omega
                      have ce2 : wr.cell? ⟨g4, k, none⟩ = some (.int .i64 (a : Nat)) := ce
                      have u1 := HRW.out.cell hbn
                      have u2 := HRW.out.cell han
                      have f1 := HRW.out.frozen b
                      have HST : Hid (∀ V : Bool, (U' b = true → V = true) → (U' a = true → V = true) → BoRow (wr.setCell ⟨ub, b, none⟩ (.bool V)) ub n (fun q => if q = b then V else U' q) ∧ Below w5.heap.size w5 (wr.setCell ⟨ub, b, none⟩ (.bool V)) ∧ (∀ c, U c = true → (fun q => if q = b then V else U' q) c = true) ∧ (∀ j c, j < k + 1 → LL[j]? = some c → U c.toNat = true → (fun q => if q = b then V else U' q) b = true) ∧ (wr.setCell ⟨ub, b, none⟩ (.bool V)).ownsRow w2.heap.size 3 1 (.slice (some ⟨g4, 0, none⟩) m c3') m (LL.map iv)) := Lib.hid (fun V v1 v2 => by
                        refine ⟨HRW.out.set V, below_set HWR.out HUB.out, fun c hcu => ?_, fun j c hj hjc hcu => ?_, ?_⟩
                        · by_cases e : c = b
                          · subst e; simp only [if_true]; exact v1 (HM1.out c hcu)
                          · simp only [if_neg e]; exact HM1.out c hcu
                        · simp only [if_true]
                          rcases Nat.lt_or_ge j k with h9 | h9
                          · exact v1 (HM2.out j c h9 hjc hcu)
                          · have : j = k := by omega
                            subst this
                            rw [HCC.out] at hjc
                            injection hjc with hjc
                            subst hjc
                            rw [Int.toNat_natCast] at hcu
                            exact v2 (HM1.out a hcu)
                        · obtain ⟨h5, h6 | ⟨gg, cap, cur, h6, h7, h8, h9⟩⟩ := HOW.out
                          · exact ⟨h5, .inl h6⟩
                          · refine ⟨h5, .inr ⟨gg, cap, cur, h6, h7, (heap_setCell_other wr ⟨ub, b, none⟩ gg _ ?_).trans h8, h9⟩⟩
                            have h10 := HNB.out gg (by rw [h6]; rfl)
                            show gg ≠ ub
                            omega)
                      clear hc hc1 hc2 ce q0 hq0
                      by_cases hu : U' b = true
                      · rw [hu] at u1
                        have HT2 := Lib.hid (HST.out true (fun _ => rfl) (fun _ => rfl))
                        clear hu u2
                        go_wp2
                        exact ⟨⟨k + 1, _, by omega, by go_num, Lib.hid HT2.out.1, Lib.hid HT2.out.2.1, Lib.hid HT2.out.2.2.1, Lib.hid HT2.out.2.2.2.1, Lib.hid HT2.out.2.2.2.2⟩, by simp [intOf]; omega⟩
                      · have hu2 : U' b = false := by simpa using hu
                        rw [hu2] at u1
                        have HT2 := Lib.hid (HST.out (U' a) (fun h => absurd h hu) (fun h => h))
                        generalize U' a = va at u2 HT2
                        clear hu hu2
                        go_wp2
                        exact ⟨⟨k + 1, _, by omega, by go_num, Lib.hid HT2.out.1, Lib.hid HT2.out.2.1, Lib.hid HT2.out.2.2.1, Lib.hid HT2.out.2.2.2.1, Lib.hid HT2.out.2.2.2.2⟩, by simp [intOf]; omega⟩
                    · have hq1 : ((q : Int) == 0) = false := by simpa using hq0
                      have hVV : ∃ V : Bool, V = (U' b || decide (q = 1)) := ⟨_, rfl⟩
                      obtain ⟨V, hV⟩ := hVV
                      have HTE := Lib.hid (HEND.out U U' k HU.out HLT.out HM1.out HM2.out (.inl hq0) V hV)
                      have HRV : Hid (BoRow (wr.setCell ⟨ub, b, none⟩ (.bool V)) ub n (fun q => if q = b then V else U' q)) := Lib.hid (HRW.out.set V)
                      have HBV : Hid (Below w5.heap.size w5 (wr.setCell ⟨ub, b, none⟩ (.bool V))) := Lib.hid (below_set HWR.out HUB.out)
                      have c1 := HRW.out.cell hbn
                      have f1 := HRW.out.frozen b
                      by_cases hu : U' b = true
                      · have hV2 : V = true := by rw [hV, hu]; rfl
                        rw [hu] at c1
                        subst hV2
                        clear hV hu
                        go_wp2
                        exact ⟨⟨b + 1, _, by omega, by go_num, HRV, HBV, Lib.hid HTE.out.1, Lib.hid HTE.out.2⟩, by simp [intOf]; omega⟩
                      · have hu2 : U' b = false := by simpa using hu
                        rw [hu2] at c1
                        have hV2 : V = decide (q = 1) := by rw [hV, hu2]; rfl
                        have e1 : ((q : Int) == 1) = V := by rw [hV2, Bool.eq_iff_iff]; simp; omega
                        clear hV hu hu2 hV2
                        go_wp2
                        exact ⟨⟨b + 1, _, by omega, by go_num, HRV, HBV, Lib.hid HTE.out.1, Lib.hid HTE.out.2⟩, by simp [intOf]; omega⟩
                  · have hkm2 : k = m := by omega
                    have ki : ¬ ((k : Int) < m) := by omega
                    have hVV : ∃ V : Bool, V = (U' b || decide (q = 1)) := ⟨_, rfl⟩
                    obtain ⟨V, hV⟩ := hVV
                    have HTE := Lib.hid (HEND.out U U' k HU.out HLT.out HM1.out HM2.out (.inr hkm2) V hV)
                    have HRV : Hid (BoRow (wr.setCell ⟨ub, b, none⟩ (.bool V)) ub n (fun q => if q = b then V else U' q)) := Lib.hid (HRW.out.set V)
                    have HBV : Hid (Below w5.heap.size w5 (wr.setCell ⟨ub, b, none⟩ (.bool V))) := Lib.hid (below_set HWR.out HUB.out)
                    have c1 := HRW.out.cell hbn
                    have f1 := HRW.out.frozen b
                    by_cases hu : U' b = true
                    · have hV2 : V = true := by rw [hV, hu]; rfl
                      rw [hu] at c1
                      subst hV2
                      clear hV hu
                      go_wp2
                      exact ⟨⟨b + 1, _, by omega, by go_num, HRV, HBV, Lib.hid HTE.out.1, Lib.hid HTE.out.2⟩, by simp [intOf]; omega⟩
                    · have hu2 : U' b = false := by simpa using hu
                      rw [hu2] at c1
                      have hV2 : V = decide (q = 1) := by rw [hV, hu2]; rfl
                      have e1 : ((q : Int) == 1) = V := by rw [hV2, Bool.eq_iff_iff]; simp; omega
                      clear hV hu hu2 hV2
                      go_wp2
                      exact ⟨⟨b + 1, _, by omega, by go_num, HRV, HBV, Lib.hid HTE.out.1, Lib.hid HTE.out.2⟩, by simp [intOf]; omega⟩
              · have hbn2 : b = n := by omega
                have bi : ¬ ((b : Int) < n) := by omega
                have HL2 : Hid (∀ c, lev x (t : Int) (r + 1) c → U c = true) := Lib.hid (fun c hc => HLT.out c (by have := lev_lt hc; have := HN.out; omega) hc)
                go_wp2
                exact ⟨⟨r + 1, U, by omega, by go_num, HRU, HBU, HL2⟩, by simp [intOf]; omega⟩
          · have hrn2 : r = n := by omega
            have ri : ¬ ((r : Int) < n) := by omega
            have HAL2 : Hid (∀ b, (t : Int) ∈ needL x b → U0 b = true) := Lib.hid (fun b hb => by
              have h1 := (mem_needL (x := x) (b := b) (k := t) (by have := HTT.out; omega)).1 hb
              exact HLR.out b (by rw [hrn2, HN.out]; exact lev_all h1))
            go_wp2
            go_loopw [12] (fun i wq => ∃ b : Nat, b ≤ n ∧ i = .int .i64 b ∧ wq = wr) (fun i _ => n - (intOf i).toNat)
            case atStart => exact ⟨0, Nat.zero_le _, rfl, rfl⟩
            case round =>
              obtain ⟨b, hb, rfl, rfl⟩ := hrel
              by_cases hbn : b < n
              · have bi : (b : Int) < n := by omega
                have b0 : (0 : Int) ≤ b := by omega
                obtain ⟨pb, kb, cb, rw1, rw2⟩ := out_row H5.out HBR.out hbn
                cases hd : decide ((t : Int) ∈ needL x b) with
                | true =>
                  have hu : U0 b = true := HAL2.out b (of_decide_eq_true hd)
                  have u1 := HRR.out.cell hbn
                  rw [hu] at u1
                  have HD := Lib.hid hd
                  clear hd hu
                  go_wp2_with (
                    go_at_call 17
                    refine (inList_any _ _ _ _ rw2).mono ?_
                    rintro e w9 ⟨rfl, rfl⟩
                    rw [HD.out])
                  exact ⟨⟨b + 1, by omega, by go_num, (by first | trivial | rfl)⟩, by simp [intOf]; omega⟩
                | false =>
                  have HD := Lib.hid hd
                  clear hd
                  go_wp2_with (
                    go_at_call 17
                    refine (inList_any _ _ _ _ rw2).mono ?_
                    rintro e w9 ⟨rfl, rfl⟩
                    rw [HD.out])
                  exact ⟨⟨b + 1, by omega, by go_num, (by first | trivial | rfl)⟩, by simp [intOf]; omega⟩
              · have hbn2 : b = n := by omega
                have bi : ¬ ((b : Int) < n) := by omega
                go_wp2
                exact ⟨⟨t + 1, by omega, by go_num, HBR⟩, by simp [intOf]; omega⟩
      · have htT2 : t = T := by omega
        have ti : ¬ ((t : Int) < T) := by omega
        have HAV := Lib.hid (HAL.out wr (below_then HB5.out HQ.out))
        go_wp2_with (
          go_at_call 13
          refine HAV.out.mono ?_
          rintro e w6 ⟨rfl, hb6⟩
          have HB7 := Lib.hid hb6
          clear hb6)
        go_ret
        exact ⟨rfl, below_then HB5.out (below_then HQ.out HB7.out)⟩
end Go.Proofs.YtdmmeeolkonmeaaDoor.Live
