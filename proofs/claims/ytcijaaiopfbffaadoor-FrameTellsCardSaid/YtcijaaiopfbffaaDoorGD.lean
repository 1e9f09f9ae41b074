/- The document's Lay of a frame, where it answers. No condition but sizes. -/
import Derived.Test.YtcijaaiopfbffaaDoorGA
namespace Go.Proofs.YtcijaaiopfbffaaDoor.Live
open Go.RowKit Go.Proofs.YtcijaaiopfbffaaDoor.Graph Go.Shelf

theorem sets_range {g : PGr} (hf : fitsB g = true) {b k : Nat} {blk : PBlk} {y : PIns} (hb : g.blocks[b]? = some blk) (hy : blk.code[k]? = some y) : -1 ≤ setsI y := by
  have h1 := (fits_blk hf hb).1
  unfold blkFit at h1
  rw [Bool.and_eq_true, List.all_eq_true] at h1
  have h2 := h1.1 y (List.mem_of_getElem? hy)
  have h3 : 1 ≤ y.op ∧ y.op ≤ 32 := by
    have h4 := h2
    unfold insFit at h4
    simp only [Bool.and_eq_true, decide_eq_true_eq] at h4
    exact h4.1.1
  rw [insFit_ref h3] at h2
  unfold noneB belowB at h2
  simp only [Bool.and_eq_true, Bool.or_eq_true, decide_eq_true_eq] at h2
  rcases h2.2 with h4 | h4
  · rw [h4.1]; exact Int.le_refl _
  · omega
theorem take_ex {l : List PIns} {k : Nat} {y : PIns} (h : l.take (k + 1) = l.take k ++ [y]) {c : Int} : (∃ z ∈ l.take (k + 1), setsI z = c) ↔ (∃ z ∈ l.take k, setsI z = c) ∨ setsI y = c := by
  rw [h]
  constructor
  · rintro ⟨z, hz, e⟩
    rcases List.mem_append.1 hz with hz | hz
    · exact .inl ⟨z, hz, e⟩
    · rw [List.mem_singleton.1 hz] at e; exact .inr e
  · rintro (⟨z, hz, e⟩ | e)
    · exact ⟨z, List.mem_append_left _ hz, e⟩
    · exact ⟨y, List.mem_append_right _ (List.mem_singleton.2 rfl), e⟩
theorem take_exb {l : List PBlk} {k : Nat} {b : PBlk} (h : l.take (k + 1) = l.take k ++ [b]) {c : Int} : (∃ q ∈ l.take (k + 1), ∃ z ∈ q.code, setsI z = c) ↔ (∃ q ∈ l.take k, ∃ z ∈ q.code, setsI z = c) ∨ ∃ z ∈ b.code, setsI z = c := by
  rw [h]
  constructor
  · rintro ⟨z, hz, e⟩
    rcases List.mem_append.1 hz with hz | hz
    · exact .inl ⟨z, hz, e⟩
    · rw [List.mem_singleton.1 hz] at e; exact .inr e
  · rintro (⟨z, hz, e⟩ | e)
    · exact ⟨z, List.mem_append_left _ hz, e⟩
    · exact ⟨b, List.mem_append_right _ (List.mem_singleton.2 rfl), e⟩
/-- A register more. -/
theorem kb_iff {U : Nat → Bool} {P : Nat → Prop} {t : Nat} (h : ∀ i, i < 9 → (U i = true ↔ P i)) {Q : Nat → Prop} (hQ : ∀ i, i < 9 → (Q i ↔ P i ∨ i = t)) : ∀ i, i < 9 → (kb U t true i = true ↔ Q i) := fun i hi => by
  rw [hQ i hi, ← h i hi]
  unfold kb
  by_cases e : i = t
  · rw [if_pos e]; exact ⟨fun _ => .inr e, fun _ => rfl⟩
  · rw [if_neg e]; exact ⟨.inl, fun h => h.elim id (fun h => absurd h e)⟩
set_option maxHeartbeats 16000000 in
set_option maxRecDepth 100000 in
theorem lay19_ok (x : PGr) (vp va vb : Value) (w : World) (h : GrL w vp va vb x) (hs : SmG x) (hff : frameFit x = true) :
    Calls Tryd.prog 23 #[grV x vp va vb] w (LayPost x w) := by
  have hfp := hff
  unfold frameFit at hfp
  simp only [Bool.and_eq_true] at hfp
  obtain ⟨hf, hpf, haf⟩ := hfp
  have hfd := hf
  unfold fitsB at hfd
  rw [Bool.and_eq_true, decide_eq_true_eq] at hfd
  obtain ⟨⟨hn1, hn2, ht1, ht2⟩, _⟩ := hfd
  obtain ⟨T, hT⟩ : ∃ T : Nat, x.temps = T := ⟨x.temps.toNat, by omega⟩
  have hap := haf
  unfold arrsFit at hap
  simp only [Bool.and_eq_true, decide_eq_true_eq] at hap
  have hp8 : x.params.length ≤ 8 := by
    unfold parsFit at hpf
    rw [Bool.and_eq_true] at hpf
    exact of_decide_eq_true hpf.1
  have hwb := words_bounds hap.1.1.2 x.arrays.length (Nat.le_refl _)
  rw [List.take_length] at hwb
  have HLP := Lib.hid (local_pos hap.1.1.2)
  have HPP := Lib.hid (hand_par x.arrays)
  have HPB := Lib.hid (par_bounds x.arrays)
  have HPN := Lib.hid (par_nonneg hpf)
  have HRG := Lib.hid (fun (U : Nat → Bool) (hU : ∀ i, i < 9 → (U i = true ↔ keptD x (needL x 0) i)) => regs_filter hf hU)
  have HSR := Lib.hid (fun (b k : Nat) (blk : PBlk) (y : PIns) (hb : x.blocks[b]? = some blk) (hy : blk.code[k]? = some y) => sets_range hf hb hy)
  have HND := Lib.hid (fun (i : Nat) => mem_needL (x := x) (b := 0) (k := i))
  have HNT := Lib.hid (fun (b : Nat) (t : Int) (h : Need x b t) => Need.temp hf h)
  have HMY := Lib.hid (fun (W : World) (hW : Below w.heap.size w W) => may19_any x _ _ _ W (h.below hW) hs)
  have HAR := Lib.hid (fun (W : World) (hW : Below w.heap.size w W) => arrays19_any x _ _ _ W (h.below hW))
  have HNE := Lib.hid (fun (W : World) (hW : Below w.heap.size w W) => needed13_any x _ _ _ W (h.below hW) hs T hT hf)
  have HPL := Lib.hid h.params
  have HBK := Lib.hid h.blocks
  obtain ⟨ap, ac, rfl⟩ := h.arrays.form
  obtain ⟨bp, bc, rfl⟩ := h.blocks.form
  obtain ⟨pp, pc, rfl⟩ := h.params.form
  rw [hff] at HMY
  unfold Arrs19 at HAR
  rw [haf] at HAR
  have hl0 : 0 ≤ localW x.arrays := hwb.1
  have hl1 : localW x.arrays ≤ 1000 := hap.1.2
  have hh0 : 0 ≤ handW x.arrays := hwb.2.2.1
  have hh1 : handW x.arrays ≤ 16 := hap.2
  have HWN : Hid (wordsN x = argsOf x + (regsOf x).length + slotsOf x + localW x.arrays) := Lib.hid rfl
  have HAG : Hid (argsOf x = x.params.length + 2 * parN x.arrays) := Lib.hid (by unfold argsOf; rw [hand_par])
  have HSL : Hid (slotsOf x = max 0 ((T : Int) - 9)) := Lib.hid (by unfold slotsOf; rw [hT])
  unfold LayPost
  unfold grV at HMY HAR HNE ⊢
  obtain ⟨n, hn⟩ : ∃ n, n = x.blocks.length := ⟨_, rfl⟩
  obtain ⟨m, hm⟩ : ∃ m, m = x.params.length := ⟨_, rfl⟩
  have HN := Lib.hid hn
  have HM := Lib.hid hm
  rw [← hn] at HMY HAR HNE hn1 hn2 ⊢
  rw [← hm] at HMY HAR HNE HAG hp8 ⊢
  rw [hT] at HMY HAR HNE ⊢
  have HTE := Lib.hid hT
  obtain ⟨P, hP⟩ : ∃ P, P = parN x.arrays := ⟨_, rfl⟩
  rw [← hP] at HAG HPP HPB HAR
  have hP0 : 0 ≤ P := HPB.out.1
  have hP1 : P ≤ 8 := by have := HPP.out; omega
  obtain ⟨L, hL⟩ : ∃ L, L = localW x.arrays := ⟨_, rfl⟩
  rw [← hL] at HLP HAR HWN hl0 hl1 ⊢
  have t0 : (0 : Int) ≤ T := by omega
  have t8 : (T : Int) ≤ 8000 := by omega
  have m8 : (m : Int) ≤ 8 := by omega
  have HNN : Hid (1 ≤ n ∧ n ≤ 20000) := Lib.hid ⟨hn1, hn2⟩
  have HTT : Hid (T ≤ 8000) := Lib.hid (by omega)
  have nn1 : (1 : Int) ≤ n := by omega
  have nn2 : (n : Int) ≤ 20000 := by omega
  obtain ⟨i0, hi, hz0, hz1, hz2⟩ := info_parts info_int
  have HI := Lib.hid hi
  clear h hs hff hf hpf haf hn1 hn2 ht1 ht2 hT hap hp8 hwb hh0 hh1 hn hm hP hL hi
  go_enter Tryd.func23, Tryd.ntmps23
  have HX0 := Lib.hid (fun (W : World) (hW : Below (w.heap.size + 2) ((w.alloc (.cells #[.slice pp m pc, .int .i64 (T : Int), .slice ap x.arrays.length ac, .slice bp n bc] 26)).alloc (.cells #[.int .i64 0, .slice none 0 0, .int .i64 0, .int .i64 0, .int .i64 0] 51)) W) => lay_boxes w _ _ _ _ W hW)
  have HB2 : Hid (Below w.heap.size w ((w.alloc (.cells #[.slice pp m pc, .int .i64 (T : Int), .slice ap x.arrays.length ac, .slice bp n bc] 26)).alloc (.cells #[.int .i64 0, .slice none 0 0, .int .i64 0, .int .i64 0, .int .i64 0] 51))) := Lib.hid (below2 w _ _)
  have HS2 : Hid (((w.alloc (.cells #[.slice pp m pc, .int .i64 (T : Int), .slice ap x.arrays.length ac, .slice bp n bc] 26)).alloc (.cells #[.int .i64 0, .slice none 0 0, .int .i64 0, .int .i64 0, .int .i64 0] 51)).heap.size = w.heap.size + 2) := Lib.hid (by simp)
  go_upto_region 1 with (fail)
  generalize ((w.alloc (.cells #[.slice pp m pc, .int .i64 (T : Int), .slice ap x.arrays.length ac, .slice bp n bc] 26)).alloc (.cells #[.int .i64 0, .slice none 0 0, .int .i64 0, .int .i64 0, .int .i64 0] 51)) = W2 at HX0 HB2 HS2 ⊢
  have HBX : Hid (∀ W, Below W2.heap.size W2 W → (W.cell? ⟨w.heap.size, 0, none⟩ = some (.slice pp m pc) ∧ W.cell? ⟨w.heap.size, 1, none⟩ = some (.int .i64 (T : Int)) ∧ W.cell? ⟨w.heap.size, 2, none⟩ = some (.slice ap x.arrays.length ac) ∧ W.cell? ⟨w.heap.size, 3, none⟩ = some (.slice bp n bc)) ∧ W.heap[w.heap.size + 1]? = some (.cells #[.int .i64 0, .slice none 0 0, .int .i64 0, .int .i64 0, .int .i64 0] 51 (0, 0))) := Lib.hid (fun W hW => by
    have := HX0.out W (by rw [← HS2.out]; exact hW)
    exact ⟨this.1, this.2.2.1⟩)
  obtain ⟨⟨y0, y1, y2, y3⟩, _⟩ := HBX.out W2 (Below.refl _ _)
  go_upto_region 6 with (first
    | (go_at_call 46
       refine (HMY.out _ HB2.out).mono ?_
       rintro e w3 ⟨rfl, hb3⟩
       have HB3 := Lib.hid hb3
       obtain ⟨⟨z0, z1, z2, z3⟩, _⟩ := HBX.out w3 hb3
       clear hb3)
    | (go_at_call 47
       refine (HAR.out _ (below_then HB2.out HB3.out)).mono ?_
       rintro e w4 ⟨⟨a19, b19, rfl, hab⟩, hb4⟩
       obtain ⟨ea, eb⟩ := hab trivial
       have ea := ea.symm
       have eb := eb.symm
       subst ea eb
       have HB4 : Hid (Below W2.heap.size W2 w4) := Lib.hid (below_then HB3.out hb4)
       obtain ⟨⟨x0, x1, x2, x3⟩, _⟩ := HBX.out w4 HB4.out
       clear hb4)
    | (go_at_call 34
       refine (HNE.out _ (below_then HB2.out HB4.out)).mono ?_
       rintro e w5 ⟨ab, ca, A, rfl, hca1, hca2, hA, hA2, hb5⟩
       have HA := Lib.hid hA
       have HA2 := Lib.hid hA2
       have HB5 : Hid (Below W2.heap.size W2 w5) := Lib.hid (below_then HB4.out hb5)
       have HCA := Lib.hid (And.intro hca1 hca2)
       clear hA hA2 hb5 hca1 hca2))
  clear y0 y1 y2 y3 z0 z1 z2 z3 x0 x1 x2 x3 HMY HNE
  have HK6 := Lib.hid (KRow.made w5)
  have HB6 := Lib.hid (Graph.below_alloc w5 (.cells #[.bool false, .bool false, .bool false, .bool false, .bool false, .bool false, .bool false, .bool false, .bool false] 93))
  go_upto_region 7 with (fail)
  generalize w5.alloc (.cells #[.bool false, .bool false, .bool false, .bool false, .bool false, .bool false, .bool false, .bool false, .bool false] 93) = W6 at HK6 HB6 ⊢
  obtain ⟨kq, hkq⟩ : ∃ kq, kq = w5.heap.size := ⟨_, rfl⟩
  have HKQ := Lib.hid hkq
  rw [← hkq] at HK6 ⊢
  have a1 : (n : Int) ≤ ca := by have := HCA.out.1; omega
  have a2 : (ca : Int) ≤ 9223372036854775807 := by have := HCA.out.2; omega
  obtain ⟨gb, hcb, hrb⟩ := HA.out.cell (b := 0) (by have := HNN.out; omega)
  have HCB : Hid (∀ W, Below w5.heap.size w5 W → W.cell? ⟨ab, 0, none⟩ = some (.slice (some ⟨gb, 0, none⟩) T T) ∧ BoRow W gb T (A 0)) := Lib.hid (fun W hW => ⟨(cell_below hW HA.out.lt 0).trans hcb, hrb.below hW⟩)
  have HSET : Hid (∀ (W : World) (i : Nat) (v : Value), Below w5.heap.size w5 W → Below w5.heap.size w5 (W.setCell ⟨kq, i, none⟩ v)) := Lib.hid (fun W i v hW => below_set hW (by rw [HKQ.out]; exact Nat.le_refl _))
  clear hkq hcb hrb
  go_upto_region 8 with (fail)
  go_loopw [10] (fun i wr => ∃ (t : Nat) (U : Nat → Bool), t ≤ 9 ∧ t ≤ T ∧ i = .int .i64 t ∧ Hid (KRow wr kq U) ∧ Hid (Below w5.heap.size w5 wr) ∧ Hid (∀ i, i < 9 → (U i = true ↔ i < t ∧ A 0 i = true))) (fun i _ => 9 - (intOf i).toNat)
  case atStart => exact ⟨0, fun _ => false, Nat.zero_le _, Nat.zero_le _, rfl, HK6, HB6, Lib.hid (fun i _ => by simp)⟩
  case round =>
    obtain ⟨t, U, ht9, htT, rfl, HK, HW, HU⟩ := hrel
    obtain ⟨⟨y0, y1, y2, y3⟩, _⟩ := HBX.out wr (below_then HB5.out HW.out)
    obtain ⟨hcb, hrb⟩ := HCB.out wr HW.out
    have i00 : (0 : Int) ≤ t := by omega
    by_cases hg : t < 9 ∧ t < T
    · have g1 : (t : Int) < 9 := by omega
      have g2 : (t : Int) < T := by omega
      have hc := hrb.cell hg.2
      obtain ⟨k1, k2⟩ := HK.out.cell hg.1
      have HKS := Lib.hid (HK.out.set (t := t) (A 0 t))
      have HWS := Lib.hid (HSET.out wr t (.bool (A 0 t)) HW.out)
      have HG := Lib.hid hg
      clear hrb hg ht9 htT
      go_wp2
      exact ⟨⟨t + 1, _, by have := HG.out; omega, by have := HG.out; omega, by go_num, HKS, HWS, Lib.hid (fun i hi => by
        unfold kb
        by_cases e : i = t
        · subst e; rw [if_pos rfl]; exact ⟨fun h => ⟨Nat.lt_succ_self _, h⟩, fun h => h.2⟩
        · rw [if_neg e, HU.out i hi]
          exact ⟨fun h => ⟨Nat.lt_succ_of_lt h.1, h.2⟩, fun h => ⟨by have := h.1; omega, h.2⟩⟩)⟩, by have := HG.out; simp [intOf]; omega⟩
    · have HU1 : Hid (∀ i, i < 9 → (U i = true ↔ (i : Int) ∈ needL x 0)) := Lib.hid (fun i hi => by
        rw [HU.out i hi]
        by_cases hiT : i < T
        · rw [HND.out i (by rw [HTE.out]; omega), HA2.out 0 i (by have := HNN.out; omega) hiT]
          exact ⟨fun h => h.2, fun h => ⟨by omega, h⟩⟩
        · refine ⟨fun h => absurd h.1 (by omega), fun h => absurd ?_ hiT⟩
          unfold needL needN at h
          obtain ⟨k, hk, e⟩ := List.mem_map.1 h
          have := List.mem_range.1 (List.mem_filter.1 hk).1
          rw [HTE.out] at this
          omega)
      clear hrb hcb HU
      have hgg : Hid (t = 9 ∨ t = T) := Lib.hid (by omega)
      by_cases hb9 : t < 9
      · have g1 : (t : Int) < 9 := by omega
        have g2 : ¬ ((t : Int) < T) := by have := hgg.out; omega
        have HWc := HW
        have HFI : Hid (KRow wr kq U) := HK
        clear ht9 htT hg HK HW
        go_upto_region 12 with (fail)
        clear y0 y1 y2 y3 i00
        go_loopw [11] (fun i wr => ∃ (k : Nat) (U : Nat → Bool), k ≤ m ∧ i = .int .i64 k ∧ Hid (KRow wr kq U) ∧ Hid (Below w5.heap.size w5 wr) ∧ Hid (∀ i, i < 9 → (U i = true ↔ (i : Int) ∈ needL x 0 ∨ (i : Int) ∈ x.params.take k))) (fun i _ => m - (intOf i).toNat)
        case atStart => exact ⟨0, U, Nat.zero_le _, rfl, HFI, HWc, Lib.hid (fun i hi => by rw [HU1.out i hi]; simp)⟩
        case round =>
          clear HFI HWc HU1
          obtain ⟨k, U, hk, rfl, HK, HW, HU⟩ := hrel
          obtain ⟨⟨y0, y1, y2, y3⟩, _⟩ := HBX.out wr (below_then HB5.out HW.out)
          have k0 : (0 : Int) ≤ k := by omega
          by_cases hkm : k < m
          · obtain ⟨a, ha⟩ : ∃ a, x.params[k]? = some a := ⟨_, List.getElem?_eq_getElem (by have := HM.out; omega)⟩
            obtain ⟨p0, p1⟩ := HPN.out a (List.mem_of_getElem? ha)
            obtain ⟨q, hq⟩ : ∃ q : Nat, a = q := ⟨a.toNat, by omega⟩
            subst hq
            obtain ⟨g, o, c', hv, hc0, hgl, hc2, hc3⟩ := ints_cell (HPL.out.below (below_then HB2.out (below_then HB5.out HW.out))) ha
            rw [← HM.out] at hv hc2
            injection hv with e1 _ e3
            subst e1 e3
            have ki : (k : Int) < m := by omega
            have k2 : (m : Int) ≤ pc := by omega
            have k3 : (pc : Int) ≤ 9223372036854775807 := by omega
            have HKM : Hid (k < m) := Lib.hid hkm
            have HTK : Hid (x.params.take (k + 1) = x.params.take k ++ [(q : Int)]) := Lib.hid (by rw [List.take_add_one, ha]; rfl)
            clear ha hc2 hc3 hkm
            by_cases h9 : q < 9
            · have q9 : (q : Int) < 9 := by omega
              obtain ⟨k4, k5⟩ := HK.out.cell h9
              have HKS := Lib.hid (HK.out.set (t := q) true)
              have HWS := Lib.hid (HSET.out wr q (.bool true) HW.out)
              have HUS : Hid (∀ i, i < 9 → (kb U q true i = true ↔ (i : Int) ∈ needL x 0 ∨ (i : Int) ∈ x.params.take (k + 1))) := Lib.hid (kb_iff HU.out fun i hi => by
                rw [HTK.out, List.mem_append, List.mem_singleton]
                constructor
                · rintro (h | h | h)
                  · exact .inl (.inl h)
                  · exact .inl (.inr h)
                  · exact .inr (by omega)
                · rintro ((h | h) | h)
                  · exact .inl h
                  · exact .inr (.inl h)
                  · exact .inr (.inr (by omega)))
              clear h9
              go_wp2
              exact ⟨⟨k + 1, _, by have := HKM.out; omega, by go_num, HKS, HWS, HUS⟩, by have := HKM.out; simp [intOf]; omega⟩
            · have q9 : ¬ ((q : Int) < 9) := by omega
              have HUS : Hid (∀ i, i < 9 → (U i = true ↔ (i : Int) ∈ needL x 0 ∨ (i : Int) ∈ x.params.take (k + 1))) := Lib.hid (fun i hi => by
                rw [HU.out i hi, HTK.out, List.mem_append, List.mem_singleton]
                constructor
                · rintro (h | h)
                  · exact .inl h
                  · exact .inr (.inl h)
                · rintro (h | h | h)
                  · exact .inl h
                  · exact .inr h
                  · omega)
              clear h9
              go_wp2
              exact ⟨⟨k + 1, _, by have := HKM.out; omega, by go_num, HK, HW, HUS⟩, by have := HKM.out; simp [intOf]; omega⟩
          · have ki : ¬ ((k : Int) < m) := by omega
            have HU2 : Hid (∀ i, i < 9 → (U i = true ↔ (i : Int) ∈ needL x 0 ∨ (i : Int) ∈ x.params)) := Lib.hid (fun i hi => by
              rw [HU.out i hi, List.take_of_length_le (by have := HM.out; omega)])
            clear HU
            go_upto_region 17 with (fail)
            clear y0 y1 y2 y3
            go_loopw [12] (fun i wr => ∃ (b : Nat) (U : Nat → Bool), b ≤ n ∧ i = .int .i64 b ∧ Hid (KRow wr kq U) ∧ Hid (Below w5.heap.size w5 wr) ∧ Hid (∀ i, i < 9 → (U i = true ↔ ((i : Int) ∈ needL x 0 ∨ (i : Int) ∈ x.params) ∨ ∃ blk ∈ x.blocks.take b, ∃ y ∈ blk.code, setsI y = (i : Int)))) (fun i _ => n - (intOf i).toNat)
            case atStart => exact ⟨0, U, Nat.zero_le _, rfl, HK, HW, Lib.hid (fun i hi => by rw [HU2.out i hi]; simp)⟩
            case round =>
              clear HK HW HU2
              obtain ⟨b, U, hb, rfl, HK, HW, HU⟩ := hrel
              obtain ⟨⟨y0, y1, y2, y3⟩, _⟩ := HBX.out wr (below_then HB5.out HW.out)
              have b0 : (0 : Int) ≤ b := by omega
              by_cases hbn : b < n
              · obtain ⟨blk, hblk⟩ : ∃ blk, x.blocks[b]? = some blk := ⟨_, List.getElem?_eq_getElem (by have := HN.out; omega)⟩
                obtain ⟨g, o, cap, hv, hcap, hgl, _⟩ := SlR.form2 HBK.out (by have := HN.out; omega)
                rw [← HN.out] at hv
                injection hv with e1 e2 e3
                clear e2
                subst e1 e3
                have bi : (b : Int) < n := by omega
                have b2 : (n : Int) ≤ bc := by have := hcap.1; have := HN.out; omega
                have b3 : (bc : Int) ≤ 9223372036854775807 := by have := hcap.2; omega
                obtain ⟨pk, ck, pz, cc, pt, ct, ⟨c0w, _, _, _, _, _, _, _, _, _⟩, hck, hel, hg9⟩ := blk_at HBK.out (Below.refl _ w) hblk
                have HC0 : Hid (∀ W, Below w5.heap.size w5 W → W.cell? ⟨g, o + b * 10, none⟩ = some (.slice pk blk.code.length ck)) := Lib.hid (fun W hW => (cell_below (below_then HB2.out (below_then HB5.out hW)) hg9 _).trans c0w)
                have HCK := Lib.hid hck
                obtain ⟨l, hl⟩ : ∃ l, l = blk.code.length := ⟨_, rfl⟩
                have HL := Lib.hid hl
                rw [← hl] at HC0
                have HBL := Lib.hid hblk
                have HBN : Hid (b < n) := Lib.hid hbn
                have HTK : Hid (x.blocks.take (b + 1) = x.blocks.take b ++ [blk]) := Lib.hid (by rw [List.take_add_one, hblk]; rfl)
                have hm31 : (l : Int) ≤ 9223372036854775807 := by
                  rcases Nat.eq_zero_or_pos l with h0 | h0
                  · omega
                  · obtain ⟨_, _, _, hv, hcap2, _, _⟩ := SlR.form2 HCK.out (by omega)
                    injection hv with _ e5 e6
                    omega
                clear hck hel hl hgl hcap hg9 c0w hblk hbn
                go_upto_region 20 with (fail)
                clear y0 y1 y2 y3
                go_loopw [13] (fun i wq => ∃ (k : Nat) (U : Nat → Bool), k ≤ l ∧ i = .int .i64 k ∧ Hid (KRow wq kq U) ∧ Hid (Below w5.heap.size w5 wq) ∧ Hid (∀ i, i < 9 → (U i = true ↔ (((i : Int) ∈ needL x 0 ∨ (i : Int) ∈ x.params) ∨ ∃ blk ∈ x.blocks.take b, ∃ y ∈ blk.code, setsI y = (i : Int)) ∨ ∃ y ∈ blk.code.take k, setsI y = (i : Int)))) (fun i _ => l - (intOf i).toNat)
                case atStart => exact ⟨0, U, Nat.zero_le _, rfl, HK, HW, Lib.hid (fun i hi => by rw [HU.out i hi]; simp)⟩
                case round =>
                  clear HK HW HU
                  obtain ⟨k, U, hk, rfl, HK, HW, HU⟩ := hrel
                  obtain ⟨⟨y0, y1, y2, y3⟩, _⟩ := HBX.out wr (below_then HB5.out HW.out)
                  have c0 := HC0.out _ HW.out
                  have k0 : (0 : Int) ≤ k := by omega
                  by_cases hkl : k < l
                  · obtain ⟨y, hy⟩ : ∃ y, blk.code[k]? = some y := ⟨_, List.getElem?_eq_getElem (by have := HL.out; omega)⟩
                    obtain ⟨gc, oc, cp, hv, hcap2, hgl, hP⟩ := SlR.form2 HCK.out (by have := HL.out; omega)
                    rw [← HL.out] at hv
                    injection hv with e1 e2 e3
                    clear e2
                    subst e1 e3
                    obtain ⟨va, vr, hR0⟩ := hP k (by have := HL.out; omega) y hy
                    have hWw : Below w.heap.size w wr := below_then HB2.out (below_then HB5.out HW.out)
                    have hR := hR0.below hgl hWw
                    obtain ⟨z0, z1, z2, z3, z4, z5, z6, z7, _⟩ := hR
                    obtain ⟨_, _, _, _, _, _, _, _, hl0⟩ := hR0
                    have j1 : (k : Int) < l := by omega
                    have k2 : (l : Int) ≤ ck := by have := hcap2.1; have := HL.out; omega
                    have k3 : (ck : Int) ≤ 9223372036854775807 := by have := hcap2.2; omega
                    have HST := Lib.hid (Graph.sets_any y va vr wr (hl0.below hWw))
                    have HRA : Hid (-1 ≤ setsI y) := Lib.hid (HSR.out b k blk y HBL.out hy)
                    have HTK2 : Hid (blk.code.take (k + 1) = blk.code.take k ++ [y]) := Lib.hid (by rw [List.take_add_one, hy]; rfl)
                    have HKL : Hid (k < l) := Lib.hid hkl
                    obtain ⟨ap9, ac9, rfl⟩ := hl0.args.form
                    obtain ⟨rp9, rc9, rfl⟩ := hl0.arrs.form
                    unfold insV at HST
                    clear hy hP hl0 hWw hcap2 hgl hkl
                    obtain ⟨d, hd0⟩ : ∃ d, d = setsI y := ⟨_, rfl⟩
                    have HDY := Lib.hid hd0
                    rw [← hd0] at HST HRA
                    clear hd0
                    go_upto_region 23 with (
                      go_at_call 36
                      refine HST.out.mono ?_
                      rintro e w6 ⟨rfl, hb6⟩
                      have HB6' := Lib.hid hb6
                      clear hb6)
                    have HK6' := Lib.hid (HK.out.keep (HB6'.out.block kq HK.out.lt))
                    have HW6 := Lib.hid (below_then HW.out HB6'.out)
                    clear y0 y1 y2 y3 c0 z0 z1 z2 z3 z4 z5 z6 z7 HST
                    by_cases hd : 0 ≤ d ∧ d < 9
                    · obtain ⟨q, hq⟩ : ∃ q : Nat, d = q := ⟨d.toNat, by omega⟩
                      subst hq
                      have d0 : (0 : Int) ≤ q := hd.1
                      have d9 : (q : Int) < 9 := hd.2
                      obtain ⟨k4, k5⟩ := HK6'.out.cell (b := q) (by omega)
                      have HKS := Lib.hid (HK6'.out.set (t := q) true)
                      have HWS := Lib.hid (HSET.out w6 q (.bool true) HW6.out)
                      have HUS : Hid (∀ i, i < 9 → (kb U q true i = true ↔ (((i : Int) ∈ needL x 0 ∨ (i : Int) ∈ x.params) ∨ ∃ blk ∈ x.blocks.take b, ∃ y ∈ blk.code, setsI y = (i : Int)) ∨ ∃ y ∈ blk.code.take (k + 1), setsI y = (i : Int))) := Lib.hid (kb_iff HU.out fun i hi => by
                        rw [take_ex HTK2.out, ← HDY.out]
                        constructor
                        · rintro (h | h | h)
                          · exact .inl (.inl h)
                          · exact .inl (.inr h)
                          · exact .inr (by omega)
                        · rintro ((h | h) | h)
                          · exact .inl h
                          · exact .inr (.inl h)
                          · exact .inr (.inr (by omega)))
                      clear hd
                      go_wp2
                      exact ⟨⟨k + 1, _, by have := HKL.out; omega, by go_num, HKS, HWS, HUS⟩, by have := HKL.out; simp [intOf]; omega⟩
                    · have HUS : Hid (∀ i, i < 9 → (U i = true ↔ (((i : Int) ∈ needL x 0 ∨ (i : Int) ∈ x.params) ∨ ∃ blk ∈ x.blocks.take b, ∃ y ∈ blk.code, setsI y = (i : Int)) ∨ ∃ y ∈ blk.code.take (k + 1), setsI y = (i : Int))) := Lib.hid (fun i hi => by
                        rw [HU.out i hi, take_ex HTK2.out, ← HDY.out]
                        constructor
                        · rintro (h | h)
                          · exact .inl h
                          · exact .inr (.inl h)
                        · rintro (h | h | h)
                          · exact .inl h
                          · exact .inr h
                          · exact absurd ⟨by omega, by omega⟩ hd)
                      by_cases hd0 : d < 0
                      · have d0 : ¬ (0 : Int) ≤ d := by omega
                        clear hd hd0
                        go_wp2
                        exact ⟨⟨k + 1, _, by have := HKL.out; omega, by go_num, HK6', HW6, HUS⟩, by have := HKL.out; simp [intOf]; omega⟩
                      · have d0 : (0 : Int) ≤ d := by omega
                        have d9 : ¬ (d < 9) := by omega
                        clear hd hd0
                        go_wp2
                        exact ⟨⟨k + 1, _, by have := HKL.out; omega, by go_num, HK6', HW6, HUS⟩, by have := HKL.out; simp [intOf]; omega⟩
                  · have ki : ¬ ((k : Int) < l) := by omega
                    have HUS : Hid (∀ i, i < 9 → (U i = true ↔ ((i : Int) ∈ needL x 0 ∨ (i : Int) ∈ x.params) ∨ ∃ blk ∈ x.blocks.take (b + 1), ∃ y ∈ blk.code, setsI y = (i : Int))) := Lib.hid (fun i hi => by
                      have e : blk.code.take k = blk.code := List.take_of_length_le (by have := HL.out; omega)
                      rw [HU.out i hi, take_exb HTK.out, or_assoc, e])
                    go_wp2
                    exact ⟨⟨b + 1, _, by have := HBN.out; omega, by go_num, HK, HW, HUS⟩, by have := HBN.out; simp [intOf]; omega⟩
              · have bi : ¬ ((b : Int) < n) := by omega
                have HU3 : Hid (∀ i, i < 9 → (U i = true ↔ ((i : Int) ∈ needL x 0 ∨ (i : Int) ∈ x.params) ∨ ∃ blk ∈ x.blocks, ∃ y ∈ blk.code, setsI y = (i : Int))) := Lib.hid (fun i hi => by
                  rw [HU.out i hi, List.take_of_length_le (by have := HN.out; omega)])
                clear HU
                have hk9 := HK.out.cell (b := 0) (by decide)
                obtain ⟨k1, k2⟩ := hk9
                have HKS := Lib.hid (HK.out.set (t := 0) true)
                have HWS := Lib.hid (HSET.out wr 0 (.bool true) HW.out)
                go_upto_if 104 with (fail)
                go_cut [] from 103 to 105 (fun wq => ∃ U : Nat → Bool, Hid (KRow wq kq U) ∧ Hid (Below w5.heap.size w5 wq) ∧ Hid (∀ i, i < 9 → (U i = true ↔ keptD x (needL x 0) i)))
                case first =>
                  by_cases hL : 0 < L
                  · have HKD : Hid (∀ i, i < 9 → (kb U 0 true i = true ↔ keptD x (needL x 0) i)) := Lib.hid (kb_iff HU3.out fun i hi => by
                      unfold keptD
                      have h1 := HLP.out.1 hL
                      constructor
                      · rintro (h | h | h)
                        · exact .inl (.inl h)
                        · exact .inl (.inr h)
                        · exact .inr h.2
                      · rintro ((h | h) | h)
                        · exact .inl h
                        · exact .inr (.inl h)
                        · exact .inr (.inr ⟨h1, h⟩))
                    go_wp2
                    go_meet
                    exact ⟨_, HKS, HWS, HKD⟩
                  · have HKD : Hid (∀ i, i < 9 → (U i = true ↔ keptD x (needL x 0) i)) := Lib.hid (fun i hi => by
                      unfold keptD
                      rw [HU3.out i hi]
                      have h1 := fun h => hL (HLP.out.2 h)
                      constructor
                      · rintro (h | h)
                        · exact .inl h
                        · exact .inr (.inl h)
                      · rintro (h | h | h)
                        · exact .inl h
                        · exact .inr h
                        · exact absurd h.1 h1)
                    go_wp2
                    go_meet
                    exact ⟨_, HK, HW, HKD⟩
                case rest =>
                  obtain ⟨U9, HK9, HW9, HD9⟩ := hcut
                  clear HK HW HKS HWS k1 k2 HU3 y0 y1 y2 y3
                  obtain ⟨⟨y0, y1, y2, y3⟩, _⟩ := HBX.out wc (below_then HB5.out HW9.out)
                  have HS0 : Hid (slotsOf x = max ((T : Int) - 9) 0) := Lib.hid (by rw [HSL.out, Int.max_comm])
                  have hs0 : 0 ≤ max ((T : Int) - 9) 0 := Int.le_max_right _ _
                  have hs1 : max ((T : Int) - 9) 0 ≤ 8000 := by omega
                  have HFL := Lib.hid (HRG.out U9 HD9.out)
                  have HX7 := Lib.hid (heap_new wc (.cells #[.int .i64 ((m : Int) + 2 * P), .slice none 0 0, .int .i64 (max ((T : Int) - 9) 0), .int .i64 L, .int .i64 0] 51))
                  have HB7 := Lib.hid (Graph.below_alloc wc (.cells #[.int .i64 ((m : Int) + 2 * P), .slice none 0 0, .int .i64 (max ((T : Int) - 9) 0), .int .i64 L, .int .i64 0] 51))
                  go_upto_region 28 with (fail)
                  generalize wc.alloc (.cells #[.int .i64 ((m : Int) + 2 * P), .slice none 0 0, .int .i64 (max ((T : Int) - 9) 0), .int .i64 L, .int .i64 0] 51) = W7 at HX7 HB7 ⊢
                  generalize max ((T : Int) - 9) 0 = SS at *
                  obtain ⟨AA, hAA⟩ : ∃ AA, AA = (m : Int) + 2 * P := ⟨_, rfl⟩
                  rw [← hAA] at HX7 HAG
                  have HAA := Lib.hid hAA
                  have hA0 : 0 ≤ AA := by omega
                  have hA1 : AA ≤ 24 := by omega
                  obtain ⟨lb, hlb⟩ : ∃ lb, lb = wc.heap.size := ⟨_, rfl⟩
                  have HLB := Lib.hid hlb
                  rw [← hlb] at HX7 ⊢
                  clear hAA hlb
                  go_upto_region 29 with (fail)
                  clear y0 y1 y2 y3
                  go_loopw [16] (fun i wr => ∃ (t q : Nat) (v : Value), t ≤ 9 ∧ i = .int .i64 t ∧ Hid (wr.heap[lb]? = some (.cells #[.int .i64 AA, v, .int .i64 SS, .int .i64 L, .int .i64 0] 51 (0, 0))) ∧ Hid (q = ((List.range t).filter U9).length ∧ wr.ownsRow (lb + 1) 3 1 v q (((List.range t).filter U9).map iN)) ∧ Hid (Below wc.heap.size wc wr)) (fun i _ => 9 - (intOf i).toNat)
                  case atStart => exact ⟨0, 0, _, Nat.zero_le _, rfl, HX7, Lib.hid ⟨rfl, World.ownsRow_nil _ _ _ _⟩, HB7⟩
                  case round =>
                    clear HX7 HB7
                    obtain ⟨t, q, v, ht, rfl, HXL, HRW, HWL⟩ := hrel
                    obtain ⟨pr, cr, rfl, hr63⟩ := own_form HRW.out.2
                    have i00 : (0 : Int) ≤ t := by omega
                    obtain ⟨l0, f0⟩ := cell_of_block HXL.out (k := 0) rfl
                    obtain ⟨l1, f1⟩ := cell_of_block HXL.out (k := 1) rfl
                    obtain ⟨l2, f2⟩ := cell_of_block HXL.out (k := 2) rfl
                    obtain ⟨l3, f3⟩ := cell_of_block HXL.out (k := 3) rfl
                    obtain ⟨l4, f4⟩ := cell_of_block HXL.out (k := 4) rfl
                    have HQ9 : Hid (q ≤ 9) := Lib.hid (by have := filt_len U9 t; have := HRW.out.1; omega)
                    by_cases ht9 : t < 9
                    · have g1 : (t : Int) < 9 := by omega
                      have HK10 := Lib.hid (HK9.out.keep (HWL.out.block kq HK9.out.lt))
                      have hc1 := (HK10.out.cell ht9).1
                      have HFS := Lib.hid (filt_succ U9 t)
                      have HT9 : Hid (t < 9) := Lib.hid ht9
                      clear ht9 hr63
                      cases hu : U9 t
                      · rw [hu] at hc1
                        rw [hu] at HFS
                        clear hu
                        go_wp2
                        exact ⟨⟨t + 1, q, _, by have := HT9.out; omega, by go_num, HXL, Lib.hid (by rw [HFS.out, if_neg (by decide), List.append_nil]; exact HRW.out), HWL⟩, by have := HT9.out; simp [intOf]; omega⟩
                      · rw [hu] at hc1
                        rw [hu] at HFS
                        clear hu
                        have HNW := Lib.hid (news_one (w := wr) (x := (t : Int)) (H := wr.heap.size) (t := 3) rfl)
                        have HO4 : Hid ((wr.alloc (.cells #[.int .i64 (t : Int)] 3)).ownsRow (lb + 1) 3 1 (.slice pr q cr) q (((List.range t).filter U9).map iN)) := Lib.hid (own_below HRW.out.2 (Graph.below_alloc wr _))
                        have HSB : Hid (lb + 1 ≤ (wr.alloc (.cells #[.int .i64 (t : Int)] 3)).heap.size) := Lib.hid (by rw [World.size_alloc]; have := (Array.getElem?_eq_some_iff.1 HXL.out).1; omega)
                        have HB4 : Hid (Below wc.heap.size wc (wr.alloc (.cells #[.int .i64 (t : Int)] 3))) := Lib.hid (HWL.out.alloc HWL.out.size _)
                        have HXA : Hid ((wr.alloc (.cells #[.int .i64 (t : Int)] 3)).heap[lb]? = some (.cells #[.int .i64 AA, .slice pr q cr, .int .i64 SS, .int .i64 L, .int .i64 0] 51 (0, 0))) := Lib.hid (by rw [Below.heap_alloc _ _ _ (Array.getElem?_eq_some_iff.1 HXL.out).1]; exact HXL.out)
                        clear l0 l2 l3 l4 f0 f1 f2 f3 f4
                        go_wp2_with (
                          at_builtin
                          go_loud (refine wpList_append_lies _ (by rfl) _ _ 22 (by rfl) (lb + 1) 3 i0 _ 1 8 Tryd.underlying22 HI.out hz0 hz1 hz2 rfl (by omega) _ q _ (by rfl) HO4.out ⟨wr.heap.size, 0, none⟩ 1 1 [.int .i64 (t : Int)] (by first | rfl | simp) rfl HNW.out (by simp [Value.oneCell']) (by omega) (by unfold maxLen; have := HQ9.out; omega) (by have := HQ9.out; omega) HSB.out _ rfl ?_)
                          intro g5 c5 w7 h5 h6 h7 h8
                          have H5 := Lib.hid h5
                          have hx7 := (h6.block lb (by have := HSB.out; omega) (fun e => by have := (HO4.out.lt lb e.symm).1; omega)).trans HXA.out
                          have HX7 := Lib.hid hx7
                          obtain ⟨l1', f1'⟩ := cell_of_block hx7 (k := 1) rfl
                          have HB7 : Hid (Below wc.heap.size wc w7) := Lib.hid (Below.grown HB4.out h6 HB4.out.size (fun q hq => by have := (HO4.out.lt q hq).1; have := HLB.out; omega))
                          clear h5 h6 h7 h8 hx7)
                        exact ⟨⟨t + 1, q + 1, _, by have := HT9.out; omega, by go_num, Lib.hid (heap_setCell_same w7 lb 1 _ _ _ HX7.out), Lib.hid ⟨by rw [HFS.out, if_pos rfl, List.length_append, ← HRW.out.1]; rfl, by rw [HFS.out, if_pos rfl, List.map_append]; exact own_keep H5.out (fun g hg => heap_setCell_other w7 ⟨lb, 1, none⟩ g _ (by have := (H5.out.lt g hg).1; show g ≠ lb; omega))⟩, Lib.hid (below_set HB7.out (by have := HLB.out; omega))⟩, by have := HT9.out; simp [intOf]; omega⟩
                    · have ht2 : t = 9 := by omega
                      have g1 : ¬ ((t : Int) < 9) := by omega
                      have q0 : (0 : Int) ≤ q := by omega
                      have q9 : (q : Int) ≤ 9 := by have := HQ9.out; omega
                      rw [ht2, HFL.out] at HRW
                      have HBW : Hid (Below W2.heap.size W2 wr) := Lib.hid (below_then HB5.out (below_then HW9.out HWL.out))
                      obtain ⟨_, hres⟩ := HBX.out wr HBW.out
                      obtain ⟨z0, e0⟩ := cell_of_block hres (k := 0) rfl
                      obtain ⟨z1, e1⟩ := cell_of_block hres (k := 1) rfl
                      obtain ⟨z2, e2⟩ := cell_of_block hres (k := 2) rfl
                      obtain ⟨z3, e3⟩ := cell_of_block hres (k := 3) rfl
                      obtain ⟨z4, e4⟩ := cell_of_block hres (k := 4) rfl
                      have HRES := Lib.hid hres
                      have hlne : lb ≠ w.heap.size + 1 := by
                        have h1 := HLB.out
                        have h2 := HS2.out
                        have h3 := HB5.out.size
                        have h4 := HW9.out.size
                        omega
                      have HLW : Hid (w.heap.size ≤ lb) := Lib.hid (by
                        have h1 := HLB.out
                        have h2 := HS2.out
                        have h3 := HB5.out.size
                        have h4 := HW9.out.size
                        omega)
                      have HFIN : Hid (argsOf x = AA ∧ slotsOf x = SS ∧ wordsN x = AA + q + SS + L) := Lib.hid ⟨HAG.out, HS0.out, by rw [HWN.out, HAG.out, HS0.out, ← HRW.out.1]⟩
                      clear hres ht2 ht9 hr63
                      go_wp2
                      obtain ⟨hbk, hoth, _, hbb⟩ := five ((heap_setCell_other wr ⟨lb, 4, none⟩ (w.heap.size + 1) (.int .i64 (AA + q + SS + L)) (Ne.symm hlne)).trans HRES.out) (.int .i64 AA) (.slice pr q cr) (.int .i64 SS) (.int .i64 L) (.int .i64 (AA + q + SS + L))
                      have hbw := hbb w.heap.size w (below_set (k := 4) (v := .int .i64 (AA + q + SS + L)) (below_then HB2.out HBW.out) HLW.out) (by omega)
                      have hown : (set5 (wr.setCell ⟨lb, 4, none⟩ (.int .i64 (AA + q + SS + L))) (w.heap.size + 1) (.int .i64 AA) (.slice pr q cr) (.int .i64 SS) (.int .i64 L) (.int .i64 (AA + q + SS + L))).ownsRow w.heap.size 3 1 (.slice pr q cr) q ((regsOf x).map iN) := own_keep (own_base HRW.out.2 (by have := HLW.out; omega)) fun g hg => (hoth g (fun e => by have := (HRW.out.2.lt g hg).1; have := HLW.out; have := HLB.out; have h2 := HS2.out; have h3 := HB5.out.size; have h4 := HW9.out.size; omega)).trans (heap_setCell_other wr ⟨lb, 4, none⟩ g _ (by have := (HRW.out.2.lt g hg).1; show g ≠ lb; omega))
                      unfold set5 at hbk hbw hown
                      clear hoth hbb
                      generalize ((((((wr.setCell ⟨lb, 4, none⟩ (.int .i64 (AA + q + SS + L))).setCell ⟨w.heap.size + 1, 0, none⟩ (.int .i64 AA)).setCell ⟨w.heap.size + 1, 1, none⟩ (.slice pr q cr)).setCell ⟨w.heap.size + 1, 2, none⟩ (.int .i64 SS)).setCell ⟨w.heap.size + 1, 3, none⟩ (.int .i64 L)).setCell ⟨w.heap.size + 1, 4, none⟩ (.int .i64 (AA + q + SS + L))) = W12 at hbk hbw hown ⊢
                      obtain ⟨u0, _⟩ := cell_of_block hbk (k := 0) rfl
                      obtain ⟨u1, _⟩ := cell_of_block hbk (k := 1) rfl
                      obtain ⟨u2, _⟩ := cell_of_block hbk (k := 2) rfl
                      obtain ⟨u3, _⟩ := cell_of_block hbk (k := 3) rfl
                      obtain ⟨u4, _⟩ := cell_of_block hbk (k := 4) rfl
                      refine bodyPost_ret (v := .tuple #[.agg #[.int .i64 AA, .slice pr q cr, .int .i64 SS, .int .i64 L, .int .i64 (AA + q + SS + L)], .int .i64 0]) ?_ rfl ⟨.slice pr q cr, by rw [HFIN.out.1, HFIN.out.2.1, HFIN.out.2.2], by rw [← HRW.out.1]; exact hown, hbw⟩
                      simp [results, Tryd.results23, go_sem, u0, u1, u2, u3, u4]
      · have g1 : ¬ ((t : Int) < 9) := by omega
        have HWc := HW
        have HFI : Hid (KRow wr kq U) := HK
        clear ht9 htT hg HK HW
        go_upto_region 12 with (fail)
        clear y0 y1 y2 y3 i00
        go_loopw [11] (fun i wr => ∃ (k : Nat) (U : Nat → Bool), k ≤ m ∧ i = .int .i64 k ∧ Hid (KRow wr kq U) ∧ Hid (Below w5.heap.size w5 wr) ∧ Hid (∀ i, i < 9 → (U i = true ↔ (i : Int) ∈ needL x 0 ∨ (i : Int) ∈ x.params.take k))) (fun i _ => m - (intOf i).toNat)
        case atStart => exact ⟨0, U, Nat.zero_le _, rfl, HFI, HWc, Lib.hid (fun i hi => by rw [HU1.out i hi]; simp)⟩
        case round =>
          clear HFI HWc HU1
          obtain ⟨k, U, hk, rfl, HK, HW, HU⟩ := hrel
          obtain ⟨⟨y0, y1, y2, y3⟩, _⟩ := HBX.out wr (below_then HB5.out HW.out)
          have k0 : (0 : Int) ≤ k := by omega
          by_cases hkm : k < m
          · obtain ⟨a, ha⟩ : ∃ a, x.params[k]? = some a := ⟨_, List.getElem?_eq_getElem (by have := HM.out; omega)⟩
            obtain ⟨p0, p1⟩ := HPN.out a (List.mem_of_getElem? ha)
            obtain ⟨q, hq⟩ : ∃ q : Nat, a = q := ⟨a.toNat, by omega⟩
            subst hq
            obtain ⟨g, o, c', hv, hc0, hgl, hc2, hc3⟩ := ints_cell (HPL.out.below (below_then HB2.out (below_then HB5.out HW.out))) ha
            rw [← HM.out] at hv hc2
            injection hv with e1 _ e3
            subst e1 e3
            have ki : (k : Int) < m := by omega
            have k2 : (m : Int) ≤ pc := by omega
            have k3 : (pc : Int) ≤ 9223372036854775807 := by omega
            have HKM : Hid (k < m) := Lib.hid hkm
            have HTK : Hid (x.params.take (k + 1) = x.params.take k ++ [(q : Int)]) := Lib.hid (by rw [List.take_add_one, ha]; rfl)
            clear ha hc2 hc3 hkm
            by_cases h9 : q < 9
            · have q9 : (q : Int) < 9 := by omega
              obtain ⟨k4, k5⟩ := HK.out.cell h9
              have HKS := Lib.hid (HK.out.set (t := q) true)
              have HWS := Lib.hid (HSET.out wr q (.bool true) HW.out)
              have HUS : Hid (∀ i, i < 9 → (kb U q true i = true ↔ (i : Int) ∈ needL x 0 ∨ (i : Int) ∈ x.params.take (k + 1))) := Lib.hid (kb_iff HU.out fun i hi => by
                rw [HTK.out, List.mem_append, List.mem_singleton]
                constructor
                · rintro (h | h | h)
                  · exact .inl (.inl h)
                  · exact .inl (.inr h)
                  · exact .inr (by omega)
                · rintro ((h | h) | h)
                  · exact .inl h
                  · exact .inr (.inl h)
                  · exact .inr (.inr (by omega)))
              clear h9
              go_wp2
              exact ⟨⟨k + 1, _, by have := HKM.out; omega, by go_num, HKS, HWS, HUS⟩, by have := HKM.out; simp [intOf]; omega⟩
            · have q9 : ¬ ((q : Int) < 9) := by omega
              have HUS : Hid (∀ i, i < 9 → (U i = true ↔ (i : Int) ∈ needL x 0 ∨ (i : Int) ∈ x.params.take (k + 1))) := Lib.hid (fun i hi => by
                rw [HU.out i hi, HTK.out, List.mem_append, List.mem_singleton]
                constructor
                · rintro (h | h)
                  · exact .inl h
                  · exact .inr (.inl h)
                · rintro (h | h | h)
                  · exact .inl h
                  · exact .inr h
                  · omega)
              clear h9
              go_wp2
              exact ⟨⟨k + 1, _, by have := HKM.out; omega, by go_num, HK, HW, HUS⟩, by have := HKM.out; simp [intOf]; omega⟩
          · have ki : ¬ ((k : Int) < m) := by omega
            have HU2 : Hid (∀ i, i < 9 → (U i = true ↔ (i : Int) ∈ needL x 0 ∨ (i : Int) ∈ x.params)) := Lib.hid (fun i hi => by
              rw [HU.out i hi, List.take_of_length_le (by have := HM.out; omega)])
            clear HU
            go_upto_region 17 with (fail)
            clear y0 y1 y2 y3
            go_loopw [12] (fun i wr => ∃ (b : Nat) (U : Nat → Bool), b ≤ n ∧ i = .int .i64 b ∧ Hid (KRow wr kq U) ∧ Hid (Below w5.heap.size w5 wr) ∧ Hid (∀ i, i < 9 → (U i = true ↔ ((i : Int) ∈ needL x 0 ∨ (i : Int) ∈ x.params) ∨ ∃ blk ∈ x.blocks.take b, ∃ y ∈ blk.code, setsI y = (i : Int)))) (fun i _ => n - (intOf i).toNat)
            case atStart => exact ⟨0, U, Nat.zero_le _, rfl, HK, HW, Lib.hid (fun i hi => by rw [HU2.out i hi]; simp)⟩
            case round =>
              clear HK HW HU2
              obtain ⟨b, U, hb, rfl, HK, HW, HU⟩ := hrel
              obtain ⟨⟨y0, y1, y2, y3⟩, _⟩ := HBX.out wr (below_then HB5.out HW.out)
              have b0 : (0 : Int) ≤ b := by omega
              by_cases hbn : b < n
              · obtain ⟨blk, hblk⟩ : ∃ blk, x.blocks[b]? = some blk := ⟨_, List.getElem?_eq_getElem (by have := HN.out; omega)⟩
                obtain ⟨g, o, cap, hv, hcap, hgl, _⟩ := SlR.form2 HBK.out (by have := HN.out; omega)
                rw [← HN.out] at hv
                injection hv with e1 e2 e3
                clear e2
                subst e1 e3
                have bi : (b : Int) < n := by omega
                have b2 : (n : Int) ≤ bc := by have := hcap.1; have := HN.out; omega
                have b3 : (bc : Int) ≤ 9223372036854775807 := by have := hcap.2; omega
                obtain ⟨pk, ck, pz, cc, pt, ct, ⟨c0w, _, _, _, _, _, _, _, _, _⟩, hck, hel, hg9⟩ := blk_at HBK.out (Below.refl _ w) hblk
                have HC0 : Hid (∀ W, Below w5.heap.size w5 W → W.cell? ⟨g, o + b * 10, none⟩ = some (.slice pk blk.code.length ck)) := Lib.hid (fun W hW => (cell_below (below_then HB2.out (below_then HB5.out hW)) hg9 _).trans c0w)
                have HCK := Lib.hid hck
                obtain ⟨l, hl⟩ : ∃ l, l = blk.code.length := ⟨_, rfl⟩
                have HL := Lib.hid hl
                rw [← hl] at HC0
                have HBL := Lib.hid hblk
                have HBN : Hid (b < n) := Lib.hid hbn
                have HTK : Hid (x.blocks.take (b + 1) = x.blocks.take b ++ [blk]) := Lib.hid (by rw [List.take_add_one, hblk]; rfl)
                have hm31 : (l : Int) ≤ 9223372036854775807 := by
                  rcases Nat.eq_zero_or_pos l with h0 | h0
                  · omega
                  · obtain ⟨_, _, _, hv, hcap2, _, _⟩ := SlR.form2 HCK.out (by omega)
                    injection hv with _ e5 e6
                    omega
                clear hck hel hl hgl hcap hg9 c0w hblk hbn
                go_upto_region 20 with (fail)
                clear y0 y1 y2 y3
                go_loopw [13] (fun i wq => ∃ (k : Nat) (U : Nat → Bool), k ≤ l ∧ i = .int .i64 k ∧ Hid (KRow wq kq U) ∧ Hid (Below w5.heap.size w5 wq) ∧ Hid (∀ i, i < 9 → (U i = true ↔ (((i : Int) ∈ needL x 0 ∨ (i : Int) ∈ x.params) ∨ ∃ blk ∈ x.blocks.take b, ∃ y ∈ blk.code, setsI y = (i : Int)) ∨ ∃ y ∈ blk.code.take k, setsI y = (i : Int)))) (fun i _ => l - (intOf i).toNat)
                case atStart => exact ⟨0, U, Nat.zero_le _, rfl, HK, HW, Lib.hid (fun i hi => by rw [HU.out i hi]; simp)⟩
                case round =>
                  clear HK HW HU
                  obtain ⟨k, U, hk, rfl, HK, HW, HU⟩ := hrel
                  obtain ⟨⟨y0, y1, y2, y3⟩, _⟩ := HBX.out wr (below_then HB5.out HW.out)
                  have c0 := HC0.out _ HW.out
                  have k0 : (0 : Int) ≤ k := by omega
                  by_cases hkl : k < l
                  · obtain ⟨y, hy⟩ : ∃ y, blk.code[k]? = some y := ⟨_, List.getElem?_eq_getElem (by have := HL.out; omega)⟩
                    obtain ⟨gc, oc, cp, hv, hcap2, hgl, hP⟩ := SlR.form2 HCK.out (by have := HL.out; omega)
                    rw [← HL.out] at hv
                    injection hv with e1 e2 e3
                    clear e2
                    subst e1 e3
                    obtain ⟨va, vr, hR0⟩ := hP k (by have := HL.out; omega) y hy
                    have hWw : Below w.heap.size w wr := below_then HB2.out (below_then HB5.out HW.out)
                    have hR := hR0.below hgl hWw
                    obtain ⟨z0, z1, z2, z3, z4, z5, z6, z7, _⟩ := hR
                    obtain ⟨_, _, _, _, _, _, _, _, hl0⟩ := hR0
                    have j1 : (k : Int) < l := by omega
                    have k2 : (l : Int) ≤ ck := by have := hcap2.1; have := HL.out; omega
                    have k3 : (ck : Int) ≤ 9223372036854775807 := by have := hcap2.2; omega
                    have HST := Lib.hid (Graph.sets_any y va vr wr (hl0.below hWw))
                    have HRA : Hid (-1 ≤ setsI y) := Lib.hid (HSR.out b k blk y HBL.out hy)
                    have HTK2 : Hid (blk.code.take (k + 1) = blk.code.take k ++ [y]) := Lib.hid (by rw [List.take_add_one, hy]; rfl)
                    have HKL : Hid (k < l) := Lib.hid hkl
                    obtain ⟨ap9, ac9, rfl⟩ := hl0.args.form
                    obtain ⟨rp9, rc9, rfl⟩ := hl0.arrs.form
                    unfold insV at HST
                    clear hy hP hl0 hWw hcap2 hgl hkl
                    obtain ⟨d, hd0⟩ : ∃ d, d = setsI y := ⟨_, rfl⟩
                    have HDY := Lib.hid hd0
                    rw [← hd0] at HST HRA
                    clear hd0
                    go_upto_region 23 with (
                      go_at_call 36
                      refine HST.out.mono ?_
                      rintro e w6 ⟨rfl, hb6⟩
                      have HB6' := Lib.hid hb6
                      clear hb6)
                    have HK6' := Lib.hid (HK.out.keep (HB6'.out.block kq HK.out.lt))
                    have HW6 := Lib.hid (below_then HW.out HB6'.out)
                    clear y0 y1 y2 y3 c0 z0 z1 z2 z3 z4 z5 z6 z7 HST
                    by_cases hd : 0 ≤ d ∧ d < 9
                    · obtain ⟨q, hq⟩ : ∃ q : Nat, d = q := ⟨d.toNat, by omega⟩
                      subst hq
                      have d0 : (0 : Int) ≤ q := hd.1
                      have d9 : (q : Int) < 9 := hd.2
                      obtain ⟨k4, k5⟩ := HK6'.out.cell (b := q) (by omega)
                      have HKS := Lib.hid (HK6'.out.set (t := q) true)
                      have HWS := Lib.hid (HSET.out w6 q (.bool true) HW6.out)
                      have HUS : Hid (∀ i, i < 9 → (kb U q true i = true ↔ (((i : Int) ∈ needL x 0 ∨ (i : Int) ∈ x.params) ∨ ∃ blk ∈ x.blocks.take b, ∃ y ∈ blk.code, setsI y = (i : Int)) ∨ ∃ y ∈ blk.code.take (k + 1), setsI y = (i : Int))) := Lib.hid (kb_iff HU.out fun i hi => by
                        rw [take_ex HTK2.out, ← HDY.out]
                        constructor
                        · rintro (h | h | h)
                          · exact .inl (.inl h)
                          · exact .inl (.inr h)
                          · exact .inr (by omega)
                        · rintro ((h | h) | h)
                          · exact .inl h
                          · exact .inr (.inl h)
                          · exact .inr (.inr (by omega)))
                      clear hd
                      go_wp2
                      exact ⟨⟨k + 1, _, by have := HKL.out; omega, by go_num, HKS, HWS, HUS⟩, by have := HKL.out; simp [intOf]; omega⟩
                    · have HUS : Hid (∀ i, i < 9 → (U i = true ↔ (((i : Int) ∈ needL x 0 ∨ (i : Int) ∈ x.params) ∨ ∃ blk ∈ x.blocks.take b, ∃ y ∈ blk.code, setsI y = (i : Int)) ∨ ∃ y ∈ blk.code.take (k + 1), setsI y = (i : Int))) := Lib.hid (fun i hi => by
                        rw [HU.out i hi, take_ex HTK2.out, ← HDY.out]
                        constructor
                        · rintro (h | h)
                          · exact .inl h
                          · exact .inr (.inl h)
                        · rintro (h | h | h)
                          · exact .inl h
                          · exact .inr h
                          · exact absurd ⟨by omega, by omega⟩ hd)
                      by_cases hd0 : d < 0
                      · have d0 : ¬ (0 : Int) ≤ d := by omega
                        clear hd hd0
                        go_wp2
                        exact ⟨⟨k + 1, _, by have := HKL.out; omega, by go_num, HK6', HW6, HUS⟩, by have := HKL.out; simp [intOf]; omega⟩
                      · have d0 : (0 : Int) ≤ d := by omega
                        have d9 : ¬ (d < 9) := by omega
                        clear hd hd0
                        go_wp2
                        exact ⟨⟨k + 1, _, by have := HKL.out; omega, by go_num, HK6', HW6, HUS⟩, by have := HKL.out; simp [intOf]; omega⟩
                  · have ki : ¬ ((k : Int) < l) := by omega
                    have HUS : Hid (∀ i, i < 9 → (U i = true ↔ ((i : Int) ∈ needL x 0 ∨ (i : Int) ∈ x.params) ∨ ∃ blk ∈ x.blocks.take (b + 1), ∃ y ∈ blk.code, setsI y = (i : Int))) := Lib.hid (fun i hi => by
                      have e : blk.code.take k = blk.code := List.take_of_length_le (by have := HL.out; omega)
                      rw [HU.out i hi, take_exb HTK.out, or_assoc, e])
                    go_wp2
                    exact ⟨⟨b + 1, _, by have := HBN.out; omega, by go_num, HK, HW, HUS⟩, by have := HBN.out; simp [intOf]; omega⟩
              · have bi : ¬ ((b : Int) < n) := by omega
                have HU3 : Hid (∀ i, i < 9 → (U i = true ↔ ((i : Int) ∈ needL x 0 ∨ (i : Int) ∈ x.params) ∨ ∃ blk ∈ x.blocks, ∃ y ∈ blk.code, setsI y = (i : Int))) := Lib.hid (fun i hi => by
                  rw [HU.out i hi, List.take_of_length_le (by have := HN.out; omega)])
                clear HU
                have hk9 := HK.out.cell (b := 0) (by decide)
                obtain ⟨k1, k2⟩ := hk9
                have HKS := Lib.hid (HK.out.set (t := 0) true)
                have HWS := Lib.hid (HSET.out wr 0 (.bool true) HW.out)
                go_upto_if 104 with (fail)
                go_cut [] from 103 to 105 (fun wq => ∃ U : Nat → Bool, Hid (KRow wq kq U) ∧ Hid (Below w5.heap.size w5 wq) ∧ Hid (∀ i, i < 9 → (U i = true ↔ keptD x (needL x 0) i)))
                case first =>
                  by_cases hL : 0 < L
                  · have HKD : Hid (∀ i, i < 9 → (kb U 0 true i = true ↔ keptD x (needL x 0) i)) := Lib.hid (kb_iff HU3.out fun i hi => by
                      unfold keptD
                      have h1 := HLP.out.1 hL
                      constructor
                      · rintro (h | h | h)
                        · exact .inl (.inl h)
                        · exact .inl (.inr h)
                        · exact .inr h.2
                      · rintro ((h | h) | h)
                        · exact .inl h
                        · exact .inr (.inl h)
                        · exact .inr (.inr ⟨h1, h⟩))
                    go_wp2
                    go_meet
                    exact ⟨_, HKS, HWS, HKD⟩
                  · have HKD : Hid (∀ i, i < 9 → (U i = true ↔ keptD x (needL x 0) i)) := Lib.hid (fun i hi => by
                      unfold keptD
                      rw [HU3.out i hi]
                      have h1 := fun h => hL (HLP.out.2 h)
                      constructor
                      · rintro (h | h)
                        · exact .inl h
                        · exact .inr (.inl h)
                      · rintro (h | h | h)
                        · exact .inl h
                        · exact .inr h
                        · exact absurd h.1 h1)
                    go_wp2
                    go_meet
                    exact ⟨_, HK, HW, HKD⟩
                case rest =>
                  obtain ⟨U9, HK9, HW9, HD9⟩ := hcut
                  clear HK HW HKS HWS k1 k2 HU3 y0 y1 y2 y3
                  obtain ⟨⟨y0, y1, y2, y3⟩, _⟩ := HBX.out wc (below_then HB5.out HW9.out)
                  have HS0 : Hid (slotsOf x = max ((T : Int) - 9) 0) := Lib.hid (by rw [HSL.out, Int.max_comm])
                  have hs0 : 0 ≤ max ((T : Int) - 9) 0 := Int.le_max_right _ _
                  have hs1 : max ((T : Int) - 9) 0 ≤ 8000 := by omega
                  have HFL := Lib.hid (HRG.out U9 HD9.out)
                  have HX7 := Lib.hid (heap_new wc (.cells #[.int .i64 ((m : Int) + 2 * P), .slice none 0 0, .int .i64 (max ((T : Int) - 9) 0), .int .i64 L, .int .i64 0] 51))
                  have HB7 := Lib.hid (Graph.below_alloc wc (.cells #[.int .i64 ((m : Int) + 2 * P), .slice none 0 0, .int .i64 (max ((T : Int) - 9) 0), .int .i64 L, .int .i64 0] 51))
                  go_upto_region 28 with (fail)
                  generalize wc.alloc (.cells #[.int .i64 ((m : Int) + 2 * P), .slice none 0 0, .int .i64 (max ((T : Int) - 9) 0), .int .i64 L, .int .i64 0] 51) = W7 at HX7 HB7 ⊢
                  generalize max ((T : Int) - 9) 0 = SS at *
                  obtain ⟨AA, hAA⟩ : ∃ AA, AA = (m : Int) + 2 * P := ⟨_, rfl⟩
                  rw [← hAA] at HX7 HAG
                  have HAA := Lib.hid hAA
                  have hA0 : 0 ≤ AA := by omega
                  have hA1 : AA ≤ 24 := by omega
                  obtain ⟨lb, hlb⟩ : ∃ lb, lb = wc.heap.size := ⟨_, rfl⟩
                  have HLB := Lib.hid hlb
                  rw [← hlb] at HX7 ⊢
                  clear hAA hlb
                  go_upto_region 29 with (fail)
                  clear y0 y1 y2 y3
                  go_loopw [16] (fun i wr => ∃ (t q : Nat) (v : Value), t ≤ 9 ∧ i = .int .i64 t ∧ Hid (wr.heap[lb]? = some (.cells #[.int .i64 AA, v, .int .i64 SS, .int .i64 L, .int .i64 0] 51 (0, 0))) ∧ Hid (q = ((List.range t).filter U9).length ∧ wr.ownsRow (lb + 1) 3 1 v q (((List.range t).filter U9).map iN)) ∧ Hid (Below wc.heap.size wc wr)) (fun i _ => 9 - (intOf i).toNat)
                  case atStart => exact ⟨0, 0, _, Nat.zero_le _, rfl, HX7, Lib.hid ⟨rfl, World.ownsRow_nil _ _ _ _⟩, HB7⟩
                  case round =>
                    clear HX7 HB7
                    obtain ⟨t, q, v, ht, rfl, HXL, HRW, HWL⟩ := hrel
                    obtain ⟨pr, cr, rfl, hr63⟩ := own_form HRW.out.2
                    have i00 : (0 : Int) ≤ t := by omega
                    obtain ⟨l0, f0⟩ := cell_of_block HXL.out (k := 0) rfl
                    obtain ⟨l1, f1⟩ := cell_of_block HXL.out (k := 1) rfl
                    obtain ⟨l2, f2⟩ := cell_of_block HXL.out (k := 2) rfl
                    obtain ⟨l3, f3⟩ := cell_of_block HXL.out (k := 3) rfl
                    obtain ⟨l4, f4⟩ := cell_of_block HXL.out (k := 4) rfl
                    have HQ9 : Hid (q ≤ 9) := Lib.hid (by have := filt_len U9 t; have := HRW.out.1; omega)
                    by_cases ht9 : t < 9
                    · have g1 : (t : Int) < 9 := by omega
                      have HK10 := Lib.hid (HK9.out.keep (HWL.out.block kq HK9.out.lt))
                      have hc1 := (HK10.out.cell ht9).1
                      have HFS := Lib.hid (filt_succ U9 t)
                      have HT9 : Hid (t < 9) := Lib.hid ht9
                      clear ht9 hr63
                      cases hu : U9 t
                      · rw [hu] at hc1
                        rw [hu] at HFS
                        clear hu
                        go_wp2
                        exact ⟨⟨t + 1, q, _, by have := HT9.out; omega, by go_num, HXL, Lib.hid (by rw [HFS.out, if_neg (by decide), List.append_nil]; exact HRW.out), HWL⟩, by have := HT9.out; simp [intOf]; omega⟩
                      · rw [hu] at hc1
                        rw [hu] at HFS
                        clear hu
                        have HNW := Lib.hid (news_one (w := wr) (x := (t : Int)) (H := wr.heap.size) (t := 3) rfl)
                        have HO4 : Hid ((wr.alloc (.cells #[.int .i64 (t : Int)] 3)).ownsRow (lb + 1) 3 1 (.slice pr q cr) q (((List.range t).filter U9).map iN)) := Lib.hid (own_below HRW.out.2 (Graph.below_alloc wr _))
                        have HSB : Hid (lb + 1 ≤ (wr.alloc (.cells #[.int .i64 (t : Int)] 3)).heap.size) := Lib.hid (by rw [World.size_alloc]; have := (Array.getElem?_eq_some_iff.1 HXL.out).1; omega)
                        have HB4 : Hid (Below wc.heap.size wc (wr.alloc (.cells #[.int .i64 (t : Int)] 3))) := Lib.hid (HWL.out.alloc HWL.out.size _)
                        have HXA : Hid ((wr.alloc (.cells #[.int .i64 (t : Int)] 3)).heap[lb]? = some (.cells #[.int .i64 AA, .slice pr q cr, .int .i64 SS, .int .i64 L, .int .i64 0] 51 (0, 0))) := Lib.hid (by rw [Below.heap_alloc _ _ _ (Array.getElem?_eq_some_iff.1 HXL.out).1]; exact HXL.out)
                        clear l0 l2 l3 l4 f0 f1 f2 f3 f4
                        go_wp2_with (
                          at_builtin
                          go_loud (refine wpList_append_lies _ (by rfl) _ _ 22 (by rfl) (lb + 1) 3 i0 _ 1 8 Tryd.underlying22 HI.out hz0 hz1 hz2 rfl (by omega) _ q _ (by rfl) HO4.out ⟨wr.heap.size, 0, none⟩ 1 1 [.int .i64 (t : Int)] (by first | rfl | simp) rfl HNW.out (by simp [Value.oneCell']) (by omega) (by unfold maxLen; have := HQ9.out; omega) (by have := HQ9.out; omega) HSB.out _ rfl ?_)
                          intro g5 c5 w7 h5 h6 h7 h8
                          have H5 := Lib.hid h5
                          have hx7 := (h6.block lb (by have := HSB.out; omega) (fun e => by have := (HO4.out.lt lb e.symm).1; omega)).trans HXA.out
                          have HX7 := Lib.hid hx7
                          obtain ⟨l1', f1'⟩ := cell_of_block hx7 (k := 1) rfl
                          have HB7 : Hid (Below wc.heap.size wc w7) := Lib.hid (Below.grown HB4.out h6 HB4.out.size (fun q hq => by have := (HO4.out.lt q hq).1; have := HLB.out; omega))
                          clear h5 h6 h7 h8 hx7)
                        exact ⟨⟨t + 1, q + 1, _, by have := HT9.out; omega, by go_num, Lib.hid (heap_setCell_same w7 lb 1 _ _ _ HX7.out), Lib.hid ⟨by rw [HFS.out, if_pos rfl, List.length_append, ← HRW.out.1]; rfl, by rw [HFS.out, if_pos rfl, List.map_append]; exact own_keep H5.out (fun g hg => heap_setCell_other w7 ⟨lb, 1, none⟩ g _ (by have := (H5.out.lt g hg).1; show g ≠ lb; omega))⟩, Lib.hid (below_set HB7.out (by have := HLB.out; omega))⟩, by have := HT9.out; simp [intOf]; omega⟩
                    · have ht2 : t = 9 := by omega
                      have g1 : ¬ ((t : Int) < 9) := by omega
                      have q0 : (0 : Int) ≤ q := by omega
                      have q9 : (q : Int) ≤ 9 := by have := HQ9.out; omega
                      rw [ht2, HFL.out] at HRW
                      have HBW : Hid (Below W2.heap.size W2 wr) := Lib.hid (below_then HB5.out (below_then HW9.out HWL.out))
                      obtain ⟨_, hres⟩ := HBX.out wr HBW.out
                      obtain ⟨z0, e0⟩ := cell_of_block hres (k := 0) rfl
                      obtain ⟨z1, e1⟩ := cell_of_block hres (k := 1) rfl
                      obtain ⟨z2, e2⟩ := cell_of_block hres (k := 2) rfl
                      obtain ⟨z3, e3⟩ := cell_of_block hres (k := 3) rfl
                      obtain ⟨z4, e4⟩ := cell_of_block hres (k := 4) rfl
                      have HRES := Lib.hid hres
                      have hlne : lb ≠ w.heap.size + 1 := by
                        have h1 := HLB.out
                        have h2 := HS2.out
                        have h3 := HB5.out.size
                        have h4 := HW9.out.size
                        omega
                      have HLW : Hid (w.heap.size ≤ lb) := Lib.hid (by
                        have h1 := HLB.out
                        have h2 := HS2.out
                        have h3 := HB5.out.size
                        have h4 := HW9.out.size
                        omega)
                      have HFIN : Hid (argsOf x = AA ∧ slotsOf x = SS ∧ wordsN x = AA + q + SS + L) := Lib.hid ⟨HAG.out, HS0.out, by rw [HWN.out, HAG.out, HS0.out, ← HRW.out.1]⟩
                      clear hres ht2 ht9 hr63
                      go_wp2
                      obtain ⟨hbk, hoth, _, hbb⟩ := five ((heap_setCell_other wr ⟨lb, 4, none⟩ (w.heap.size + 1) (.int .i64 (AA + q + SS + L)) (Ne.symm hlne)).trans HRES.out) (.int .i64 AA) (.slice pr q cr) (.int .i64 SS) (.int .i64 L) (.int .i64 (AA + q + SS + L))
                      have hbw := hbb w.heap.size w (below_set (k := 4) (v := .int .i64 (AA + q + SS + L)) (below_then HB2.out HBW.out) HLW.out) (by omega)
                      have hown : (set5 (wr.setCell ⟨lb, 4, none⟩ (.int .i64 (AA + q + SS + L))) (w.heap.size + 1) (.int .i64 AA) (.slice pr q cr) (.int .i64 SS) (.int .i64 L) (.int .i64 (AA + q + SS + L))).ownsRow w.heap.size 3 1 (.slice pr q cr) q ((regsOf x).map iN) := own_keep (own_base HRW.out.2 (by have := HLW.out; omega)) fun g hg => (hoth g (fun e => by have := (HRW.out.2.lt g hg).1; have := HLW.out; have := HLB.out; have h2 := HS2.out; have h3 := HB5.out.size; have h4 := HW9.out.size; omega)).trans (heap_setCell_other wr ⟨lb, 4, none⟩ g _ (by have := (HRW.out.2.lt g hg).1; show g ≠ lb; omega))
                      unfold set5 at hbk hbw hown
                      clear hoth hbb
                      generalize ((((((wr.setCell ⟨lb, 4, none⟩ (.int .i64 (AA + q + SS + L))).setCell ⟨w.heap.size + 1, 0, none⟩ (.int .i64 AA)).setCell ⟨w.heap.size + 1, 1, none⟩ (.slice pr q cr)).setCell ⟨w.heap.size + 1, 2, none⟩ (.int .i64 SS)).setCell ⟨w.heap.size + 1, 3, none⟩ (.int .i64 L)).setCell ⟨w.heap.size + 1, 4, none⟩ (.int .i64 (AA + q + SS + L))) = W12 at hbk hbw hown ⊢
                      obtain ⟨u0, _⟩ := cell_of_block hbk (k := 0) rfl
                      obtain ⟨u1, _⟩ := cell_of_block hbk (k := 1) rfl
                      obtain ⟨u2, _⟩ := cell_of_block hbk (k := 2) rfl
                      obtain ⟨u3, _⟩ := cell_of_block hbk (k := 3) rfl
                      obtain ⟨u4, _⟩ := cell_of_block hbk (k := 4) rfl
                      refine bodyPost_ret (v := .tuple #[.agg #[.int .i64 AA, .slice pr q cr, .int .i64 SS, .int .i64 L, .int .i64 (AA + q + SS + L)], .int .i64 0]) ?_ rfl ⟨.slice pr q cr, by rw [HFIN.out.1, HFIN.out.2.1, HFIN.out.2.2], by rw [← HRW.out.1]; exact hown, hbw⟩
                      simp [results, Tryd.results23, go_sem, u0, u1, u2, u3, u4]

end Go.Proofs.YtcijaaiopfbffaaDoor.Live
