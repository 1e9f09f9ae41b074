/- The law EmuNoughts, where the program's machine does what the plain one does. -/
import Derived.Test.YtjbiikbmbacjkaaDoorGD
import Derived.Test.YtjbiikbmbacjkaaDoorDb
namespace Go.Proofs.YtjbiikbmbacjkaaDoor.Emu
open Go.RowKit Go.Proofs.YtjbiikbmbacjkaaDoor.Enc Go.Proofs.YtjbiikbmbacjkaaDoor.Graph
set_option maxHeartbeats 16000000 in
set_option maxRecDepth 100000 in
theorem noughts_any {ar : Int → Int → Int → Option Int} {hs : Int → Int → Int → Bool} (D : DoesRun ar hs) (m : Image) (vw vk vd : Value) (input : List UInt8) (fuel many : Int) (w : World) (h : ImgR w m vw vk vd) (hm : SmI m) (hf : inR fuel) (hy : inR many) (hF : FormsAt w) :
    Calls Tryd.prog 10 #[.agg #[vw, vk, vd, .int .i64 m.entry], .string ⟨input.toArray⟩, .int .i64 fuel, .int .i64 many] w (Is (.bool true) w) := by
  have HL := Lib.hid (fun w hF => live_any D w hF)
  have HCP := Lib.hid (fun (wx : World) (hx : Below w.heap.size w wx) => copy_any m vw vk vd wx (h.below hx) hm)
  have r1 := pickP_range many (n := 5000) (by omega)
  obtain ⟨mn, hmn⟩ : ∃ mn : Nat, pickP many 5000 = mn := ⟨(pickP many 5000).toNat, by omega⟩
  have HP1 := Lib.hid (fun w => hmn ▸ pick_any many 5000 w hy (by omega))
  rw [hmn] at r1
  have r2 := pickP_range fuel (n := 30000) (by omega)
  obtain ⟨F, hFF⟩ : ∃ F, F = pickP fuel 30000 := ⟨_, rfl⟩
  have HP2 := Lib.hid (fun w => hFF ▸ pick_any fuel 30000 w hf (by omega))
  rw [← hFF] at r2
  obtain ⟨o, er, ho⟩ : ∃ o er, runP ar hs m input F = (o, er) := ⟨_, _, rfl⟩
  have hdl := sl_len h.data
  have HA := Lib.hid (fun (wx : World) (hx : Below w.heap.size w wx) => D.at_ ho wx (h.below hx) hm (by unfold inR; omega) (hF.below hx))
  have HRB := Lib.hid (fun (hlen : m.data.length + mn ≤ 524288) vw vk vd (wx : World) hi hF => D.at_ ((run_noughts (ar := ar) (hs := hs) (m := m) (input := input) (fuel := F) hlen).trans ho) (vw := vw) (vk := vk) (vd := vd) wx hi
    ⟨hm.words, fun x hx => by
      rcases List.mem_append.1 hx with h1 | h1
      · exact hm.data x h1
      · have := List.eq_of_mem_replicate h1; omega, hm.entry, hm.lw, hm.lk, by simp only [List.length_append, List.length_replicate]; omega⟩ (by unfold inR; omega) hF)
  obtain ⟨pw, cw, rfl⟩ := h.words.form
  obtain ⟨pk, ck, rfl⟩ := h.kinds.form
  obtain ⟨pd, cd, rfl⟩ := h.data.form
  clear ho h hm hf hy D hmn hFF
  obtain ⟨words, kinds, data, entry⟩ := m
  obtain ⟨os, oc, obs, ot⟩ := o
  simp only at HA HCP HRB hdl ⊢
  obtain ⟨nw, hnw⟩ : ∃ n, n = words.length := ⟨_, rfl⟩
  obtain ⟨nk, hnk⟩ : ∃ n, n = kinds.length := ⟨_, rfl⟩
  obtain ⟨nd, hnd⟩ : ∃ n, n = data.length := ⟨_, rfl⟩
  have HNW := Lib.hid hnw
  have HNK := Lib.hid hnk
  have HND := Lib.hid hnd
  rw [← hnw] at HA HCP ⊢
  rw [← hnk] at HA HCP ⊢
  rw [← hnd] at HA HCP HRB hdl ⊢
  have n0 : (nd : Int) ≤ 9223372036854775807 := by omega
  have n1 : (mn : Int) < 5000 := by omega
  have f0 : IntKind.i64.wrap (524288 - (mn : Int)) = 524288 - (mn : Int) := IntWalk.i64_in _ (by omega)
  generalize (⟨obs.toArray⟩ : ByteArray) = ob at HA HRB
  generalize ((ot : Nat) : Int) = ot at HA HRB
  obtain ⟨F1, F2⟩ := r2
  clear hnw hnk hnd hdl r1
  by_cases hlen : nd + mn ≤ 524288
  case neg =>
    have g1 : 524288 - (mn : Int) < nd := by omega
    clear hlen HRB HP2
    go_enter Tryd.func10, Tryd.ntmps10
    go_wp2_with (first
      | (go_at_call 16; (with_reducible refine (HP1.out _).mono ?_); rintro e w ⟨rfl, rfl⟩)
      | (go_at_call 14; refine (HL.out _ (hF.alloc _)).mono ?_; rintro e w9 ⟨rfl, hb9⟩; have H9 := Lib.hid hb9; clear hb9))
    go_ret
    exact ⟨rfl, bt (below_one w _) H9.out⟩
  have HRUN := Lib.hid (HRB.out hlen)
  have HLEN := Lib.hid hlen
  have g1 : (nd : Int) ≤ 524288 - (mn : Int) := by omega
  clear hlen HRB
  go_enter Tryd.func10, Tryd.ntmps10
  go_upto_region 5 with (first
    | (go_at_call 16; (with_reducible refine (HP1.out _).mono ?_); rintro e w ⟨rfl, rfl⟩)
    | (go_at_call 11; refine (HCP.out _ (below_one w _)).mono ?_; rintro e w3 ⟨v4, v5, v6, rfl, ho3, hb3⟩
       have h4 : ∃ p c, v4 = .slice p nw c ∧ nw ≤ c := by rw [HNW.out]; exact own_form ho3.words
       have h5 : ∃ p c, v5 = .slice p nk c ∧ nk ≤ c := by rw [HNK.out]; exact own_form ho3.kinds
       have h6 : ∃ p c, v6 = .slice p nd c ∧ nd ≤ c := by rw [HND.out]; exact own_form ho3.data
       obtain ⟨p4, c4, rfl, _⟩ := h4
       obtain ⟨p5, c5, rfl, _⟩ := h5
       obtain ⟨p6, c6, rfl, _⟩ := h6
       have HO3 := Lib.hid ho3
       have HB3 := Lib.hid hb3
       clear ho3 hb3))
  have HX4 : Hid ((w3.alloc (.cells #[.slice p4 nw c4, .slice p5 nk c5, .slice p6 nd c6, .int .i64 entry] 25)).heap[w.heap.size]? = some (.cells #[.slice pw nw cw, .slice pk nk ck, .slice pd nd cd, .int .i64 entry] 25 (0, 0))) := Lib.hid ((heap_alloc_old _ _ (by have := HB3.out.size; simp at this; omega)).trans ((HB3.out.block w.heap.size (by simp)).trans (heap_alloc_new w _)))
  have HI4 : Hid ((w3.alloc (.cells #[.slice p4 nw c4, .slice p5 nk c5, .slice p6 nd c6, .int .i64 entry] 25)).heap[w3.heap.size]? = some (.cells #[.slice p4 nw c4, .slice p5 nk c5, .slice p6 nd c6, .int .i64 entry] 25 (0, 0))) := Lib.hid (heap_alloc_new w3 _)
  have HO4 := Lib.hid (HO3.out.below (below_one w3 (.cells #[.slice p4 nw c4, .slice p5 nk c5, .slice p6 nd c6, .int .i64 entry] 25)))
  have HB4 : Hid (Below w.heap.size w (w3.alloc (.cells #[.slice p4 nw c4, .slice p5 nk c5, .slice p6 nd c6, .int .i64 entry] 25))) := Lib.hid (bt (below_one w _) (bt HB3.out (below_one w3 _)))
  have HN4 : Hid ((Value.slice p4 nw c4).ownBlock ≠ some w3.heap.size) := Lib.hid (fun hg => by have := (HO3.out.words.lt _ hg).2; omega)
  have HN5 : Hid ((Value.slice p5 nk c5).ownBlock ≠ some w3.heap.size) := Lib.hid (fun hg => by have := (HO3.out.kinds.lt _ hg).2; omega)
  have HN6 : Hid ((Value.slice p6 nd c6).ownBlock ≠ some w3.heap.size) := Lib.hid (fun hg => by have := (HO3.out.data.lt _ hg).2; omega)
  have HSI : Hid (w3.heap.size < (w3.alloc (.cells #[.slice p4 nw c4, .slice p5 nk c5, .slice p6 nd c6, .int .i64 entry] 25)).heap.size) := Lib.hid (by simp)
  have HSB : Hid ((w.alloc (.cells #[.slice pw nw cw, .slice pk nk ck, .slice pd nd cd, .int .i64 entry] 25)).heap.size ≤ (w3.alloc (.cells #[.slice p4 nw c4, .slice p5 nk c5, .slice p6 nd c6, .int .i64 entry] 25)).heap.size) := Lib.hid (by have := HB3.out.size; simp at this ⊢; omega)
  obtain ⟨bi, hbi⟩ : ∃ bi, bi = w3.heap.size := ⟨_, rfl⟩
  obtain ⟨ba, hba⟩ : ∃ ba, ba = w.heap.size := ⟨_, rfl⟩
  obtain ⟨B0, hB0⟩ : ∃ B0, B0 = (w.alloc (.cells #[.slice pw nw cw, .slice pk nk ck, .slice pd nd cd, .int .i64 entry] 25)).heap.size := ⟨_, rfl⟩
  have HBASE : Hid (w.heap.size < B0 ∧ ba = w.heap.size) := Lib.hid (by rw [hB0]; exact ⟨by simp, hba⟩)
  have HBI : Hid (w.heap.size ≤ bi ∧ ba ≠ bi) := Lib.hid (by rw [hbi, hba]; have := HB3.out.size; simp at this; omega)
  rw [← hB0] at HO4 HSB
  rw [← hba] at HX4 ⊢
  rw [← hbi] at HI4 HN4 HN5 HN6 HSI ⊢
  clear hB0 hba hbi HO3 HB3 HCP
  generalize (w3.alloc (.cells #[.slice p4 nw c4, .slice p5 nk c5, .slice p6 nd c6, .int .i64 entry] 25)) = x4 at HX4 HI4 HO4 HB4 HSI HSB ⊢
  obtain ⟨j0, j1, j2, j3, jf0, jf1, jf2, jf3, jl⟩ := box4 HI4.out
  obtain ⟨iu, HIU, hz0, hz1, hz2⟩ := info_parts info_u32
  have hR7 := run_append_zeros_own x4 B0 22 3 22 27 .i64 .i64 iu (.int .u32 0) Tryd.underlying22 Tryd.underlying3 HIU hz0 hz1 (by rw [hz2]; omega) rfl rfl (.slice p6 nd c6) nd (data.map uv) (by have := HO4.out.data; simp only at this; rw [← HND.out] at this; exact this) mn (by have := HLEN.out; omega) HSB.out
  obtain ⟨v7, w5, hr7, h5, h6, h7⟩ := hR7
  have hv7 := own_form h5
  obtain ⟨p7, c7, rfl, _⟩ := hv7
  have HO5 := Lib.hid (ImgOwn.data_grown (xs := List.replicate mn 0) HO4.out (by simp only; rw [List.length_replicate, List.map_replicate, ← HND.out]; exact h5) h6 h7)
  have HI5 := Lib.hid (grown_block h6 HI4.out HN6.out)
  have HX5 := Lib.hid (grown_block h6 HX4.out (fun e => by have := (HO4.out.data.lt _ e).1; have := HBASE.out; omega))
  have HB5 : Hid (Below w.heap.size w w5) := Lib.hid (HB4.out.grown h6 HB4.out.size (fun g hg => by have := (HO4.out.data.lt _ hg).1; have := HBASE.out; omega))
  have HN7 : Hid ((Value.slice p7 (nd + mn) c7).ownBlock ≠ some bi) := Lib.hid (fun hg => by
    rcases h7 bi hg with k | k
    · exact HN6.out k
    · have := HSI.out; omega)
  obtain ⟨k0, k1, k2, k3, kf0, kf1, kf2, kf3, kl⟩ := box4 HI5.out
  have HR7 := Lib.hid hr7
  clear h5 h6 h7 hr7 HIU hz0 hz1 hz2
  go_upto_region 6 with (at_builtin; refine Lib.wpList_append_run _ ?n1 (.tmp 26) (.tmp 27) 22 3 ?n2 _ _ ?n3 ?n4 _ _ HR7.out ?n5; (case n1 => rfl); (case n2 => rfl); (case n3 => rfl); (case n4 => rfl))
  have HO6 := Lib.hid (ImgOwn.keep (b := bi) (i := 2) (u := .slice p7 (nd + mn) c7) HO5.out HN4.out HN5.out HN7.out)
  have HI6 : Hid ((w5.setCell ⟨bi, 2, none⟩ (.slice p7 (nd + mn) c7)).heap[bi]? = some (.cells #[.slice p4 nw c4, .slice p5 nk c5, .slice p7 (nd + mn) c7, .int .i64 entry] 25 (0, 0))) := Lib.hid (heap_setCell_same w5 bi 2 _ _ _ HI5.out)
  have HX6 := Lib.hid (set_other (b := bi) (i := 2) (v := .slice p7 (nd + mn) c7) HX5.out HBI.out.2)
  have HB6 : Hid (Below w.heap.size w (w5.setCell ⟨bi, 2, none⟩ (.slice p7 (nd + mn) c7))) := Lib.hid (HB5.out.setCell (show w.heap.size ≤ bi from HBI.out.1) _)
  clear HO5 HI5 HX5 HB5 HO4 HI4 HX4 HB4 k0 k1 k2 k3 kf0 kf1 kf2 kf3 kl HSI HSB HN4 HR7 j0 j1 j2 j3 jf0 jf1 jf2 jf3 jl
  generalize (w5.setCell ⟨bi, 2, none⟩ (.slice p7 (nd + mn) c7)) = x6 at HO6 HI6 HX6 HB6 ⊢
  obtain ⟨j0, j1, j2, j3, _, _, _, _, jl⟩ := box4 HI6.out
  obtain ⟨i0, i1, i2, i3, _, _, _, _, il⟩ := box4 HX6.out
  have HIM := Lib.hid HO6.out.img
  go_upto_region 8 with (first
    | (go_at_call 16; (with_reducible refine (HP2.out _).mono ?_); rintro e wx ⟨rfl, rfl⟩)
    | (go_at_call 12; (with_reducible refine (HA.out _ HB6.out).mono ?_); rintro e w7 ⟨rfl, hb7⟩; have H7 := Lib.hid hb7; clear hb7))
  have HX7 : Hid ((w7.alloc (.cells #[.int .i64 os, .int .u32 oc, .string ob, .int .i64 ot] 29)).heap[w7.heap.size]? = some (.cells #[.int .i64 os, .int .u32 oc, .string ob, .int .i64 ot] 29 (0, 0))) := Lib.hid (heap_alloc_new w7 _)
  have HI7 : Hid ((w7.alloc (.cells #[.int .i64 os, .int .u32 oc, .string ob, .int .i64 ot] 29)).heap[bi]? = some (.cells #[.slice p4 nw c4, .slice p5 nk c5, .slice p7 (nd + mn) c7, .int .i64 entry] 25 (0, 0))) := Lib.hid ((heap_alloc_old _ _ (Nat.lt_of_lt_of_le jl H7.out.size)).trans ((H7.out.block bi jl).trans HI6.out))
  have HB7 : Hid (Below w.heap.size w (w7.alloc (.cells #[.int .i64 os, .int .u32 oc, .string ob, .int .i64 ot] 29))) := Lib.hid (bt HB6.out (bt H7.out (below_one w7 _)))
  have HIM7 := Lib.hid (HIM.out.below (bt H7.out (below_one w7 (.cells #[.int .i64 os, .int .u32 oc, .string ob, .int .i64 ot] 29))))
  obtain ⟨bo, hbo⟩ : ∃ bo, bo = w7.heap.size := ⟨_, rfl⟩
  rw [← hbo] at HX7 ⊢
  clear hbo HIM HI6 HX6 HB6 HA H7 j0 j1 j2 j3 jl i0 i1 i2 i3 il HO6
  generalize (w7.alloc (.cells #[.int .i64 os, .int .u32 oc, .string ob, .int .i64 ot] 29)) = x7 at HX7 HI7 HB7 HIM7 ⊢
  have kf7 := hF.below HB7.out
  obtain ⟨j0, j1, j2, j3, _, _, _, _, jl⟩ := box4 HI7.out
  have zo := lt_of_block HX7.out
  go_wp2_with (first
    | (go_at_call 12; (with_reducible refine (HRUN.out _ _ _ _ HIM7.out kf7).mono ?_); rintro e w8 ⟨rfl, hb8⟩; have H8 := Lib.hid hb8; have kf8 := kf7.below hb8; have x8 := (hb8.block bo zo).trans HX7.out; have HX8 := Lib.hid x8; have e0 := cell_of_block x8 (k := 0) rfl; have e1 := cell_of_block x8 (k := 1) rfl; have e2 := cell_of_block x8 (k := 2) rfl; have e3 := cell_of_block x8 (k := 3) rfl; have z7 := lt_of_block x8; have z8 : bo ≠ w8.heap.size := (by omega); have z9 : w8.heap.size ≠ bo := (by omega); clear hb8 x8)
    | (go_at_call 14; refine (HL.out _ (kf8.alloc _)).mono ?_; rintro e w9 ⟨rfl, hb9⟩; have H9 := Lib.hid hb9; have f0 := (hb9.cell (p := ⟨bo, 0, none⟩) (by simp; omega)).trans (by go_simp : _ = some (Value.int .i64 os)); have f1 := (hb9.cell (p := ⟨bo, 1, none⟩) (by simp; omega)).trans (by go_simp : _ = some (Value.int .u32 oc)); have f2 := (hb9.cell (p := ⟨bo, 2, none⟩) (by simp; omega)).trans (by go_simp : _ = some (Value.string ob)); have f3 := (hb9.cell (p := ⟨bo, 3, none⟩) (by simp; omega)).trans (by go_simp : _ = some (Value.int .i64 ot)); have d0 := hb9.cell (p := ⟨w8.heap.size, 0, none⟩) (by simp); have d1 := hb9.cell (p := ⟨w8.heap.size, 1, none⟩) (by simp); have d2 := hb9.cell (p := ⟨w8.heap.size, 2, none⟩) (by simp); have d3 := hb9.cell (p := ⟨w8.heap.size, 3, none⟩) (by simp); clear hb9))
  go_ret
  exact ⟨by simp, bt HB7.out (bt H8.out (bt (below_one w8 _) H9.out))⟩
end Go.Proofs.YtjbiikbmbacjkaaDoor.Emu
