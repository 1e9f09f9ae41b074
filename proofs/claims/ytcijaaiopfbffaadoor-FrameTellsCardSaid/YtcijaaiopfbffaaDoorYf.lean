/- The document's Next. -/
import Derived.Test.YtcijaaiopfbffaaDoorYe
namespace Go.Proofs.YtcijaaiopfbffaaDoor.Graph
open Go.RowKit

theorem own_cap {w : World} {B : Nat} {e : TypeId} {k g n cap : Nat} {xs : List Value} (h : w.ownsRow B e k (.slice (some ⟨g, 0, none⟩) n cap) n xs) : n ≤ cap := by
  rcases h.2 with ⟨h0, _⟩ | ⟨g', cap', cur, h0, _, _, h1, _⟩
  · cases h0
  · injection h0 with _ _ h2
    omega
theorem ints_of_own {w : World} {B : Nat} {v : Value} {l : List Int} (h : w.ownsRow B 3 1 v l.length (l.map iv)) : IntsR w v l := by
  rcases own_form h with ⟨h0, p, c, rfl⟩ | ⟨h0, g, cap, rfl, hg, h1, h2, h3⟩
  · exact .inl ⟨h0, p, c, rfl⟩
  · exact .inr ⟨g, 0, cap, rfl, h0, ⟨h1, h2⟩, hg, fun i hi x hx => by rw [Nat.mul_one, Nat.zero_add]; exact h3 i x hi hx⟩
theorem news_many {w w2 : World} {g o : Nat} {l : List Int} {c : Nat} (h : IntsR w (.slice (some ⟨g, o, none⟩) l.length c) l) (hb : Below w.heap.size w w2) : ∀ j u, (l.map iv)[j]? = some u → w2.cell? ((⟨g, o, none⟩ : Addr).add j) = some u := fun j u hj => by
  rw [List.getElem?_map] at hj
  obtain ⟨x, hx, rfl⟩ := Option.map_eq_some_iff.1 hj
  have hjl : j < l.length := by
    rcases Nat.lt_or_ge j l.length with h | h
    · exact h
    · rw [List.getElem?_eq_none h] at hx; cases hx
  obtain ⟨h1, h2⟩ := SlR.at_ h hjl
  have h3 := h1 x hx
  rw [Nat.mul_one] at h3
  rw [add_none, hb.cell (p := ⟨g, o + j, none⟩) h2]
  exact h3
theorem mem_iv {l : List Int} : ∀ u ∈ l.map iv, u.oneCell' = true := by
  intro u hu
  obtain ⟨x, _, rfl⟩ := List.mem_map.1 hu
  rfl
theorem news_list {w : World} {l : List Int} {H : Nat} (hH : w.heap.size = H) : ∀ j u, (l.map iv)[j]? = some u → (w.alloc (.cells (l.map iv).toArray 3)).cell? ((⟨H, 0, none⟩ : Addr).add j) = some u := fun j u hj => by
  subst hH
  rw [add_none, Nat.zero_add]
  exact (cell_of_block (heap_new w _) (k := j) (by simpa using hj)).1
set_option maxHeartbeats 8000000 in
set_option maxRecDepth 100000 in
theorem rnext_any (x : PGr) (vp va vb : Value) (b : Int) (w : World) (h : GrL w vp va vb x) (hs : SmG x) :
    Calls Tryd.prog 15 #[grV x vp va vb, .int .i64 b] w (OwnL w (nextL x b)) := by
  obtain ⟨pp, pc, rfl⟩ := h.params.form
  obtain ⟨ap, ac, rfl⟩ := h.arrays.form
  have HB := Lib.hid h.blocks
  obtain ⟨bp, bc, rfl⟩ := h.blocks.form
  have HS := Lib.hid hs.2.2.2
  unfold grV
  obtain ⟨n, hn⟩ : ∃ n, n = x.blocks.length := ⟨_, rfl⟩
  have HN := Lib.hid hn
  have hL : nextL x b = if belowB b n then match x.blocks[b.toNat]? with | some t => Lib.compact (sortL (namedL t.fin)) | none => [] else [] := by rw [hn]; rfl
  rw [← hn, hL]
  have HBL := Lib.hid (fun w => rbelow_any b n w)
  clear h hs hn hL
  by_cases hb : belowB b n = true
  case neg =>
    have hb2 : belowB b n = false := by simpa using hb
    rw [hb2] at HBL ⊢
    clear hb hb2
    go_enter Tryd.func15, Tryd.ntmps15
    go_wp2_with (go_at_call 38; refine (HBL.out _).mono ?_; rintro e w2 ⟨rfl, h2⟩; have H2 := Lib.hid h2; clear h2)
    go_ret
    exact ⟨_, rfl, World.ownsRow_nil _ _ _ _, by rw [H2.out]; exact below_alloc w _⟩
  have hb1 : 0 ≤ b ∧ b < n := by simpa [belowB] using hb
  obtain ⟨b0, b1⟩ := hb1
  rw [hb] at HBL ⊢
  rw [if_pos rfl]
  obtain ⟨t, ht⟩ : ∃ t, x.blocks[b.toNat]? = some t := ⟨_, List.getElem?_eq_getElem (by have := HN.out; omega)⟩
  rw [ht]
  obtain ⟨tcode, kd, op, ea, eb, en, dst, els, cases, targets⟩ := t
  simp only
  obtain ⟨g, o, cap, hv, hcap, hgl, _⟩ := SlR.form2 HB.out (by have := HN.out; omega)
  injection hv with hv hv1 hv2
  clear hv1
  subst hv hv2
  obtain ⟨m1, m2⟩ := hcap
  have HT : Hid (SmE ⟨kd, op, ea, eb, en, dst, els, cases, targets⟩) := Lib.hid (HS.out _ (List.mem_of_getElem? ht)).2.2
  have HAT := Lib.hid (fun (wr : World) (hw : Below w.heap.size w wr) => blk_at HB.out hw ht)
  have i2 : (n : Int) ≤ bc := by have := HN.out; omega
  have i3 : (bc : Int) ≤ 9223372036854775807 := by omega
  clear hb ht m1 m2 HS HB
  go_enter Tryd.func15, Tryd.ntmps15
  go_upto_region 3 with (go_at_call 38; refine (HBL.out _).mono ?_; rintro e w2 ⟨rfl, rfl⟩)
  generalize hbx : Obj.cells #[.slice pp x.params.length pc, .int .i64 x.temps, .slice ap x.arrays.length ac, .slice (some ⟨g, o, none⟩) n bc] 26 = bx
  have hb1 := below_alloc w bx
  obtain ⟨pk, ck, cp, cc, tp, tc, ⟨c0, c1, c2, c3, c4, c5, c6, c7, c8, c9⟩, _, hl, l0⟩ := HAT.out _ hb1
  have d0 : (w.alloc bx).cell? ⟨w.heap.size, 3, none⟩ = some (.slice (some ⟨g, o, none⟩) n bc) := by rw [← hbx]; exact (cell_of_block (heap_new w _) (k := 3) rfl).1
  have HLN := Lib.hid (named_len _ HT.out)
  have HL := Lib.hid hl
  have HB1 := Lib.hid hb1
  obtain ⟨b1', b2'⟩ := HT.out
  have HSC : Hid (cases.length * 16 ≤ 140737488351232) := Lib.hid b1'
  have HST : Hid (targets.length * 8 ≤ 140737488351232) := Lib.hid b2'
  clear hl hb1 hbx b1' b2' HT HAT
  simp only at c1 c2 c3 c4 c5 c6 c7 c8 c9
  go_upto_region 4 with (fail)
  generalize heb : Obj.cells #[.int .i64 kd, .int .i64 op, .int .i64 ea, .int .i64 eb, .int .u32 en, .int .i64 dst, .int .i64 els, .slice cp cases.length cc, .slice tp targets.length tc] 40 = ob
  have hbe := below_then HB1.out (below_alloc (w.alloc bx) ob)
  have HBE := Lib.hid hbe
  have HL2 := Lib.hid (HL.out.below (below_alloc (w.alloc bx) ob))
  have hblk : ((w.alloc bx).alloc ob).heap[w.heap.size + 1]? = some ob := by have h := heap_new (w.alloc bx) ob; rw [World.size_alloc] at h; exact h
  generalize hw2 : (w.alloc bx).alloc ob = w2
  rw [hw2] at HBE HL2 hblk
  rw [← heb] at hblk
  have HBK := Lib.hid hblk
  obtain ⟨e0, _⟩ := cell_of_block hblk (k := 0) rfl
  obtain ⟨e5, _⟩ := cell_of_block hblk (k := 5) rfl
  obtain ⟨e6, _⟩ := cell_of_block hblk (k := 6) rfl
  obtain ⟨e7, _⟩ := cell_of_block hblk (k := 7) rfl
  obtain ⟨e8, _⟩ := cell_of_block hblk (k := 8) rfl
  have hsz := lt_of_block HBK.out
  obtain ⟨i0, hi, hz0, hz1, hz2⟩ := info_parts info_int
  have HI := Lib.hid hi
  have HBT := Lib.hid (below_alloc w2 (.cells #[iv dst] 3))
  have HR0 : Hid ((w2.alloc (.cells #[iv dst] 3)).ownsRow w2.heap.size 3 1 (.slice none 0 0) 0 []) := Lib.hid (World.ownsRow_nil _ _ _ _)
  have HNW := Lib.hid (news_one (w := w2) (x := dst) rfl)
  clear hw2 heb hblk hi c0 c1 c2 c3 c4 c5 c6 c7 c8 c9 d0 l0 HB1 HL hbe
  by_cases k1 : kd = 1
  · subst k1
    have hL : namedL ⟨1, op, ea, eb, en, dst, els, cases, targets⟩ = [dst] := rfl
    rw [hL]
    clear hL HLN
    go_wp2_with (first
    | (
      at_builtin
      go_loud (refine wpList_append_lies _ (by rfl) _ _ 22 (by rfl) w2.heap.size 3 i0 _ 1 8 Tryd.underlying22 HI.out hz0 hz1 hz2 rfl (by omega) _ 0 _ (by rfl) HR0.out ⟨w2.heap.size, 0, none⟩ 1 1 [iv dst] (by rfl) rfl HNW.out (by simp [iv, Value.oneCell']) (by omega) (by unfold maxLen; omega) (by omega) HBT.out.size _ rfl ?_)
      intro g5 c5 w5 h5 h6 _ _
      have H5 := Lib.hid h5
      have H6 := Lib.hid (Below.grown HBT.out h6 HBT.out.size (fun q hq => (World.ownsRow.lt HR0.out q hq).1))
      clear h5 h6)
    | (
      go_at_call 39
      go_loud (refine (sorted_any [dst] _ w5 (ints_of_own (l := [dst]) H5.out) (by simp)).mono ?_)
      rintro e w9 ⟨v9, rfl, h9, h9b⟩
      have H9 := Lib.hid (own_base h9 (Nat.le_trans HBE.out.size H6.out.size))
      have HB9 := Lib.hid (HBE.out.trans ((H6.out.trans (h9b.mono H6.out.size)).mono HBE.out.size))
      clear h9 h9b))
    go_ret
    exact ⟨_, rfl, H9.out, HB9.out⟩
  by_cases k2 : kd = 2
  · subst k2
    have hL : namedL ⟨2, op, ea, eb, en, dst, els, cases, targets⟩ = [dst, els] := rfl
    rw [hL]
    have HBT2 := Lib.hid (below_alloc w2 (.cells #[iv dst, iv els] 3))
    have HR2 : Hid ((w2.alloc (.cells #[iv dst, iv els] 3)).ownsRow w2.heap.size 3 1 (.slice none 0 0) 0 []) := Lib.hid (World.ownsRow_nil _ _ _ _)
    have HNW2 := Lib.hid (news_list (w := w2) (l := [dst, els]) rfl)
    clear hL HLN k1 HBT HR0 HNW
    go_wp2_with (first
    | (
      at_builtin
      go_loud (refine wpList_append_lies _ (by rfl) _ _ 22 (by rfl) w2.heap.size 3 i0 _ 1 8 Tryd.underlying22 HI.out hz0 hz1 hz2 rfl (by omega) _ 0 _ (by rfl) HR2.out ⟨w2.heap.size, 0, none⟩ 2 2 [iv dst, iv els] (by rfl) rfl HNW2.out (mem_iv (l := [dst, els])) (by omega) (by unfold maxLen; omega) (by omega) HBT2.out.size _ rfl ?_)
      intro g5 c5 w5 h5 h6 _ _
      have H5 := Lib.hid h5
      have H6 := Lib.hid (Below.grown HBT2.out h6 HBT2.out.size (fun q hq => (World.ownsRow.lt HR2.out q hq).1))
      clear h5 h6)
    | (
      go_at_call 39
      go_loud (refine (sorted_any [dst, els] _ w5 (ints_of_own (l := [dst, els]) H5.out) (by simp)).mono ?_)
      rintro e w9 ⟨v9, rfl, h9, h9b⟩
      have H9 := Lib.hid (own_base h9 (Nat.le_trans HBE.out.size H6.out.size))
      have HB9 := Lib.hid (HBE.out.trans ((H6.out.trans (h9b.mono H6.out.size)).mono HBE.out.size))
      clear h9 h9b))
    go_ret
    exact ⟨_, rfl, H9.out, HB9.out⟩
  by_cases k3 : kd = 3
  · subst k3
    have hL : namedL ⟨3, op, ea, eb, en, dst, els, cases, targets⟩ = dst :: cases.map (·.to) := rfl
    rw [hL] at HLN
    rw [hL]
    have HCS := Lib.hid HL2.out.cases
    obtain ⟨m, hm⟩ : ∃ m, m = cases.length := ⟨_, rfl⟩
    have HM := Lib.hid hm
    rw [← hm] at e7
    have HSM : Hid (m * 16 ≤ 140737488351232) := Lib.hid (by rw [hm]; exact HSC.out)
    have b3 : m ≤ 9223372036854775807 := by have := HSM.out; omega
    have b4 : (m : Int) ≤ 9223372036854775807 := by omega
    clear hL hm
    go_wp2_with (
      at_builtin
      go_loud (refine wpList_append_lies _ (by rfl) _ _ 22 (by rfl) w2.heap.size 3 i0 _ 1 8 Tryd.underlying22 HI.out hz0 hz1 hz2 rfl (by omega) _ 0 _ (by rfl) HR0.out ⟨w2.heap.size, 0, none⟩ 1 1 [iv dst] (by rfl) rfl HNW.out (by simp [iv, Value.oneCell']) (by omega) (by unfold maxLen; omega) (by omega) HBT.out.size _ rfl ?_)
      intro g5 c5 w5 h5 h6 _ _
      have H5 := Lib.hid h5
      have H6 := Lib.hid (Below.grown HBT.out h6 HBT.out.size (fun q hq => (World.ownsRow.lt HR0.out q hq).1))
      clear h5 h6)
    go_loopw [6, 7] (fun v i wr => ∃ k : Nat, k ≤ m ∧ i = .int .i64 k ∧ Hid (wr.ownsRow w2.heap.size 3 1 v (k + 1) ((dst :: (cases.take k).map (·.to)).map iv)) ∧ Below w2.heap.size w2 wr) (fun _ i _ => m - (intOf i).toNat)
    case atStart => exact ⟨0, Nat.zero_le _, rfl, Lib.hid H5.out, H6.out⟩
    case round =>
      obtain ⟨k, hk, rfl, HV, hbw⟩ := hrel
      have HBW := Lib.hid hbw
      have e7' := (hbw.cell (p := ⟨w.heap.size + 1, 7, none⟩) hsz).trans e7
      have hsz' : w.heap.size + 1 < wr.heap.size := Nat.lt_of_lt_of_le hsz hbw.size
      by_cases hlt : k < m
      · obtain ⟨t, ht⟩ := getN HM.out hlt
        obtain ⟨g2, o2, cap2, hv, hcap2, hgl2, hcell⟩ := SlR.form2 HCS.out (by have := HM.out; omega)
        injection hv with hv hvn hv2
        clear hvn
        subst hv hv2
        obtain ⟨_, c1⟩ := hcell k (by have := HM.out; omega) t ht
        replace c1 := (hbw.cell (p := ⟨g2, o2 + k * 2 + 1, none⟩) hgl2).trans c1
        have l0 : g2 < wr.heap.size := Nat.lt_of_lt_of_le hgl2 hbw.size
        have HTK := Lib.hid (map_take ht dst)
        have k0 : (0 : Int) ≤ k := by omega
        have k1 : (k : Int) < m := by omega
        have k2 : (m : Int) ≤ cc := by have := HM.out; omega
        have hba := below_alloc wr (.cells #[iv t.to] 3)
        have HR3 := Lib.hid (row_below HV.out hba)
        have HBT3 := Lib.hid (HBW.out.trans (hba.mono HBW.out.size))
        have HNW3 := Lib.hid (news_one (w := wr) (x := t.to) rfl)
        clear ht hbw hcap2 hcell hba
        go_wp2_with (
          at_builtin
          go_loud (refine wpList_append_lies _ (by rfl) _ _ 22 (by rfl) w2.heap.size 3 i0 _ 1 8 Tryd.underlying22 HI.out hz0 hz1 hz2 rfl (by omega) _ (k + 1) _ (by rfl) HR3.out ⟨wr.heap.size, 0, none⟩ 1 1 [iv t.to] (by rfl) rfl HNW3.out (by simp [iv, Value.oneCell']) (by omega) (by unfold maxLen; have := HSM.out; omega) (by have := HSM.out; omega) HBT3.out.size _ rfl ?_)
          intro g5 c5 w7 h5 h6 _ _
          have H7 := Lib.hid h5
          have H8 := Lib.hid (Below.grown HBT3.out h6 HBT3.out.size (fun q hq => (World.ownsRow.lt HR3.out q hq).1))
          clear h5 h6)
        exact ⟨⟨k + 1, Nat.succ_le_of_lt hlt, by go_num, by rw [HTK.out]; exact H7, H8.out⟩, by simp [intOf]; omega⟩
      · obtain rfl : k = m := by omega
        clear hbw
        have HV2 : Hid (wr.ownsRow w2.heap.size 3 1 u6 (dst :: cases.map (·.to)).length ((dst :: cases.map (·.to)).map iv)) := Lib.hid (by
          have h := HV.out
          rw [HM.out, List.take_length] at h
          simpa using h)
        go_wp2_with (
          go_at_call 39
          go_loud (refine (sorted_any (dst :: cases.map (·.to)) _ wr (ints_of_own (l := (dst :: cases.map (·.to))) HV2.out) (HLN.out)).mono ?_)
          rintro e w9 ⟨v9, rfl, h9, h9b⟩
          have H9 := Lib.hid (own_base h9 (Nat.le_trans HBE.out.size HBW.out.size))
          have HB9 := Lib.hid (HBE.out.trans ((HBW.out.trans (h9b.mono HBW.out.size)).mono HBE.out.size))
          clear h9 h9b)
        go_ret
        exact ⟨_, rfl, H9.out, HB9.out⟩
  by_cases k4 : kd = 4
  · subst k4
    have hL : namedL ⟨4, op, ea, eb, en, dst, els, cases, targets⟩ = dst :: targets := rfl
    rw [hL] at HLN
    rw [hL]
    have HTG := Lib.hid HL2.out.targets
    clear HSC k1 k2 k3 hL
    go_upto_region 18 with (
      at_builtin
      go_loud (refine wpList_append_lies _ (by rfl) _ _ 22 (by rfl) w2.heap.size 3 i0 _ 1 8 Tryd.underlying22 HI.out hz0 hz1 hz2 rfl (by omega) _ 0 _ (by rfl) HR0.out ⟨w2.heap.size, 0, none⟩ 1 1 [iv dst] (by rfl) rfl HNW.out (by simp [iv, Value.oneCell']) (by omega) (by unfold maxLen; omega) (by omega) HBT.out.size _ rfl ?_)
      intro g5 c5 w5 h5 h6 _ _
      have H5 := Lib.hid h5
      have H6 := Lib.hid (Below.grown HBT.out h6 HBT.out.size (fun q hq => (World.ownsRow.lt HR0.out q hq).1))
      clear h5 h6)
    have e8' := (H6.out.cell (p := ⟨w.heap.size + 1, 8, none⟩) hsz).trans e8
    have hsz' : w.heap.size + 1 < w5.heap.size := Nat.lt_of_lt_of_le hsz H6.out.size
    have hc5 : 0 + 1 ≤ c5 := own_cap H5.out
    by_cases h0 : targets.length = 0
    · have e1 : targets = [] := List.length_eq_zero_iff.1 h0
      subst e1
      simp only [List.length_nil] at e8 e8'
      clear HLN HTG h0
      go_wp2_with (first
      | (
        at_builtin
        refine wpList_append_zero (by rfl) _ _ 22 (by rfl) 3 1 Tryd.underlying22 (by kernel_rfl) _ (0 + 1) c5 tc tp hc5 (by rfl) (by rfl) ?_)
      | (
        go_at_call 39
        go_loud (refine (sorted_any [dst] _ w5 (ints_of_own (l := [dst]) H5.out) (by simp)).mono ?_)
        rintro e w9 ⟨v9, rfl, h9, h9b⟩
        have H9 := Lib.hid (own_base h9 (Nat.le_trans HBE.out.size H6.out.size))
        have HB9 := Lib.hid (HBE.out.trans ((H6.out.trans (h9b.mono H6.out.size)).mono HBE.out.size))
        clear h9 h9b))
      go_ret
      exact ⟨_, rfl, H9.out, HB9.out⟩
    · obtain ⟨g3, o3, c3, hv, _, _, _⟩ := SlR.form2 HTG.out (by show 0 < targets.length; omega)
      injection hv with hv hvn hv2
      clear hvn
      subst hv hv2
      obtain ⟨m, hm⟩ : ∃ m, m = targets.length := ⟨_, rfl⟩
      have hm0 : 0 < m := by omega
      have HM := Lib.hid hm
      have HSM : Hid (m * 8 ≤ 140737488351232) := Lib.hid (by rw [hm]; exact HST.out)
      have HNT := Lib.hid (news_many HTG.out H6.out)
      rw [← hm] at e8'
      clear h0 hm e8 HST
      go_wp2_with (first
      | (
        at_builtin
        go_loud (refine wpList_append_lies _ (by rfl) _ _ 22 (by rfl) w2.heap.size 3 i0 _ 1 8 Tryd.underlying22 HI.out hz0 hz1 hz2 rfl (by omega) _ (0 + 1) _ (by rfl) H5.out ⟨g3, o3, none⟩ m tc (targets.map iv) (by rfl) (by rw [List.length_map, HM.out, Nat.mul_one]) HNT.out mem_iv hm0 (by unfold maxLen; have := HSM.out; omega) (by have := HSM.out; omega) H6.out.size _ rfl ?_)
        intro g5 c5 w7 h5 h6 _ _
        have H7 := Lib.hid h5
        have H8 := Lib.hid (Below.grown H6.out h6 H6.out.size (fun q hq => (World.ownsRow.lt H5.out q hq).1))
        clear h5 h6
        have HV2 : Hid (w7.ownsRow w2.heap.size 3 1 (.slice (some ⟨g5, 0, none⟩) (0 + 1 + m) c5) (dst :: targets).length ((dst :: targets).map iv)) := Lib.hid (by
          rw [show (dst :: targets).length = 0 + 1 + m by rw [List.length_cons, HM.out]; omega]
          exact H7.out))
      | (
        go_at_call 39
        go_loud (refine (sorted_any (dst :: targets) _ w7 (ints_of_own (l := (dst :: targets)) HV2.out) (HLN.out)).mono ?_)
        rintro e w9 ⟨v9, rfl, h9, h9b⟩
        have H9 := Lib.hid (own_base h9 (Nat.le_trans HBE.out.size H8.out.size))
        have HB9 := Lib.hid (HBE.out.trans ((H8.out.trans (h9b.mono H8.out.size)).mono HBE.out.size))
        clear h9 h9b))
      go_ret
      exact ⟨_, rfl, H9.out, HB9.out⟩
  · have z1 : (kd == 1) = false := by simpa using k1
    have z2 : (kd == 2) = false := by simpa using k2
    have z3 : (kd == 3) = false := by simpa using k3
    have z4 : (kd == 4) = false := by simpa using k4
    have hL : namedL ⟨kd, op, ea, eb, en, dst, els, cases, targets⟩ = [] := by simp [namedL, k1, k2, k3, k4]
    rw [hL]
    have HBR := Lib.hid (Below.refl w2.heap.size w2)
    have HLL := Lib.hid hL
    clear hL HLN k1 k2 k3 k4
    go_wp2_with (
      go_at_call 39
      go_loud (refine (sorted_any [] _ w2 (ints_of_own (l := []) (World.ownsRow_nil w2 w2.heap.size _ _)) (by simp)).mono ?_)
      rintro e w9 ⟨v9, rfl, h9, h9b⟩
      have H9 := Lib.hid (own_base h9 (Nat.le_trans HBE.out.size HBR.out.size))
      have HB9 := Lib.hid (HBE.out.trans ((HBR.out.trans (h9b.mono HBR.out.size)).mono HBE.out.size))
      clear h9 h9b)
    go_ret
    refine ⟨_, rfl, ?_, HB9.out⟩
    rw [HLL.out]
    exact H9.out
end Go.Proofs.YtcijaaiopfbffaaDoor.Graph
