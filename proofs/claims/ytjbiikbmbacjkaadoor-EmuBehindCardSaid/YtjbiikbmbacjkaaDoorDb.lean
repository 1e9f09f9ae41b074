/- The law EmuBehind, where the program's machine does what the plain one does. -/
import Derived.Test.YtjbiikbmbacjkaaDoorGD
import Derived.Deep.DeepCutAuto
namespace Go.Proofs.YtjbiikbmbacjkaaDoor.Emu
open Go.RowKit Go.Proofs.YtjbiikbmbacjkaaDoor.Enc Go.Proofs.YtjbiikbmbacjkaaDoor.Graph
theorem ImgOwn.keep {w : World} {B : Nat} {m : Image} {vw vk vd : Value} {b i : Nat} {u : Value} (h : ImgOwn w B m vw vk vd) (h1 : vw.ownBlock ≠ some b) (h2 : vk.ownBlock ≠ some b) (h3 : vd.ownBlock ≠ some b) : ImgOwn (w.setCell ⟨b, i, none⟩ u) B m vw vk vd :=
  ⟨own_keep h.words h1, own_keep h.kinds h2, own_keep h.data h3, h.wk, h.wd, h.kd⟩
theorem grown_block {w w' : World} {v : Value} {b : Nat} {o : Obj} (h : w.grownBy w' v.ownBlock) (hb : w.heap[b]? = some o) (hne : v.ownBlock ≠ some b) : w'.heap[b]? = some o :=
  (h.block b (Array.getElem?_eq_some_iff.1 hb).1 (fun e => hne e.symm)).trans hb
theorem row_one (w : World) (u : Value) (t : TypeId) : RowAt (w.alloc (.cells #[u] t)) (.slice (some ⟨w.heap.size, 0, none⟩) 1 1) [u] := by
  refine .inr ⟨w.heap.size, 0, 1, rfl, by simp, ⟨by simp, by omega⟩, by simp, fun i hi x hx => ?_⟩
  have h0 : i = 0 := by simp at hi; omega
  subst h0
  injection hx with hx
  subst hx
  exact cell_of_block (heap_alloc_new w _) (k := 0) rfl
set_option maxHeartbeats 16000000 in
set_option maxRecDepth 100000 in
theorem behind_any {ar : Int → Int → Int → Option Int} {hs : Int → Int → Int → Bool} (D : DoesRun ar hs) (m : Image) (vw vk vd vn : Value) (input : List UInt8) (ws : List Int) (w : World) (h : ImgR w m vw vk vd) (hm : SmI m) (hn : WordsR w vn ws) (hws : ∀ x ∈ ws, 0 ≤ x ∧ x ≤ 4294967295) (hF : FormsAt w) :
    Calls Tryd.prog 7 #[.agg #[vw, vk, vd, .int .i64 m.entry], .string ⟨input.toArray⟩, vn] w (Is (.bool true) w) := by
  obtain ⟨o, er, ho⟩ : ∃ o er, runP ar hs m input 30000 = (o, er) := ⟨_, _, rfl⟩
  have HA := Lib.hid (fun (wx : World) (hx : Below w.heap.size w wx) => D.at_ ho wx (h.below hx) hm (by unfold inR; omega) (hF.below hx))
  have HL := Lib.hid (fun w hF => live_any D w hF)
  have HCP := Lib.hid (fun (wx : World) (hx : Below w.heap.size w wx) => copy_any m vw vk vd wx (h.below hx) hm)
  have hwl := sl_len h.words
  have hnl := sl_len hn
  by_cases he : er = 0
  case neg =>
    obtain ⟨pw, cw, rfl⟩ := h.words.form
    obtain ⟨pk, ck, rfl⟩ := h.kinds.form
    obtain ⟨pd, cd, rfl⟩ := h.data.form
    have g0 : (er == 0) = false := by simpa using he
    have g1 : (er != 0) = true := by simpa using he
    clear ho h hm hn hws D he HCP hwl hnl
    obtain ⟨words, kinds, data, entry⟩ := m
    obtain ⟨os, oc, obs, ot⟩ := o
    simp only at HA ⊢
    go_enter Tryd.func7, Tryd.ntmps7
    go_wp2_with (first
      | (go_at_call 12; (with_reducible refine (HA.out _ (below_one w _)).mono ?_); rintro e w2 ⟨rfl, hb2⟩; have hi2 := (hb2.block w.heap.size (by simp)).trans (heap_alloc_new w _); have HI2 := Lib.hid hi2; have i0 := cell_of_block hi2 (k := 0) rfl; have i1 := cell_of_block hi2 (k := 1) rfl; have i2 := cell_of_block hi2 (k := 2) rfl; have i3 := cell_of_block hi2 (k := 3) rfl; have z2 := lt_of_block hi2; have z3 : w.heap.size ≠ w2.heap.size := (by omega); have z4 : w2.heap.size ≠ w.heap.size := (by omega); have H2 := Lib.hid (bt (below_one w _) hb2); have kf2 := (hF.alloc _).below hb2; clear hb2 hi2)
      | (go_at_call 14; refine (HL.out _ (kf2.alloc _)).mono ?_; rintro e w9 ⟨rfl, hb9⟩; have H9 := Lib.hid hb9; clear hb9))
    go_ret
    exact ⟨rfl, bt H2.out (bt (below_one w2 _) H9.out)⟩
  subst he
  obtain ⟨p1, p2, p3, p4', _, _⟩ := may_parts (run_yes ho).1
  have HRB := Lib.hid (fun (hst : o.stop = 1) (hlen : ws.length + m.words.length ≤ 65536) vw vk vd (wx : World) hi hF => D.at_ (run_behind ho hst (ws := ws) hlen) (vw := vw) (vk := vk) (vd := vd) wx hi
    ⟨fun x hx => by
      rcases List.mem_append.1 hx with h1 | h1
      · exact hm.words x h1
      · exact hws x h1, hm.data, hm.entry, by simp only [List.length_append]; omega, by simp only [List.length_append, List.length_replicate]; omega, hm.ld⟩ (by unfold inR; omega) hF)
  have HWS := Lib.hid (row_words hn)
  obtain ⟨pn, cn, rfl⟩ := hn.form
  obtain ⟨pw, cw, rfl⟩ := h.words.form
  obtain ⟨pk, ck, rfl⟩ := h.kinds.form
  obtain ⟨pd, cd, rfl⟩ := h.data.form
  clear ho h hm hn hws D
  obtain ⟨words, kinds, data, entry⟩ := m
  obtain ⟨os, oc, obs, ot⟩ := o
  simp only at HA HCP HRB hwl p1 p2 p3 p4' ⊢
  obtain ⟨nw, hnw⟩ : ∃ n, n = words.length := ⟨_, rfl⟩
  obtain ⟨nk, hnk⟩ : ∃ n, n = kinds.length := ⟨_, rfl⟩
  obtain ⟨nd, hnd⟩ : ∃ n, n = data.length := ⟨_, rfl⟩
  obtain ⟨nn, hnn⟩ : ∃ n, n = ws.length := ⟨_, rfl⟩
  have HNW := Lib.hid hnw
  have HNK := Lib.hid hnk
  have HND := Lib.hid hnd
  have HNN := Lib.hid hnn
  rw [← hnw] at HA HCP p2 p3 hwl HRB ⊢
  rw [← hnk] at HA HCP p3 ⊢
  rw [← hnd] at HA HCP p4' ⊢
  rw [← hnn] at hnl HWS HRB ⊢
  have HP3 := Lib.hid p3
  have n0 : (nk : Int) ≤ 65536 := by omega
  have n1 : (nw : Int) ≤ 65536 := by omega
  have n2 : (nn : Int) ≤ 9223372036854775807 := by omega
  have f0 : IntKind.i64.wrap (65536 - (nw : Int)) = 65536 - (nw : Int) := IntWalk.i64_in _ (by omega)
  generalize (⟨obs.toArray⟩ : ByteArray) = ob at HA HRB
  generalize ((ot : Nat) : Int) = ot at HA HRB
  have HP1 : Hid (1 ≤ words.length) := Lib.hid p1
  clear hnw hnk hnd hnn p3 p1 hwl hnl
  by_cases hst : os = 1
  case neg =>
    have g0 : (os == 1) = false := by simpa using hst
    have g1 : (os != 1) = true := by simpa using hst
    clear hst HRB
    go_enter Tryd.func7, Tryd.ntmps7
    go_wp2_with (first
      | (go_at_call 12; (with_reducible refine (HA.out _ (below_one w _)).mono ?_); rintro e w2 ⟨rfl, hb2⟩; have hi2 := (hb2.block w.heap.size (by simp)).trans (heap_alloc_new w _); have HI2 := Lib.hid hi2; have i0 := cell_of_block hi2 (k := 0) rfl; have i1 := cell_of_block hi2 (k := 1) rfl; have i2 := cell_of_block hi2 (k := 2) rfl; have i3 := cell_of_block hi2 (k := 3) rfl; have z2 := lt_of_block hi2; have z3 : w.heap.size ≠ w2.heap.size := (by omega); have z4 : w2.heap.size ≠ w.heap.size := (by omega); have H2 := Lib.hid (bt (below_one w _) hb2); have kf2 := (hF.alloc _).below hb2; clear hb2 hi2)
      | (go_at_call 14; refine (HL.out _ (kf2.alloc _)).mono ?_; rintro e w9 ⟨rfl, hb9⟩; have H9 := Lib.hid hb9; clear hb9))
    go_ret
    exact ⟨rfl, bt H2.out (bt (below_one w2 _) H9.out)⟩
  subst hst
  by_cases hlen : nn + nw ≤ 65536
  case neg =>
    have g1 : 65536 - (nw : Int) < nn := by omega
    clear hlen HRB p2 p4'
    go_enter Tryd.func7, Tryd.ntmps7
    go_wp2_with (first
      | (go_at_call 12; (with_reducible refine (HA.out _ (below_one w _)).mono ?_); rintro e w2 ⟨rfl, hb2⟩; have hi2 := (hb2.block w.heap.size (by simp)).trans (heap_alloc_new w _); have HI2 := Lib.hid hi2; have i0 := cell_of_block hi2 (k := 0) rfl; have i1 := cell_of_block hi2 (k := 1) rfl; have i2 := cell_of_block hi2 (k := 2) rfl; have i3 := cell_of_block hi2 (k := 3) rfl; have z2 := lt_of_block hi2; have z3 : w.heap.size ≠ w2.heap.size := (by omega); have z4 : w2.heap.size ≠ w.heap.size := (by omega); have H2 := Lib.hid (bt (below_one w _) hb2); have kf2 := (hF.alloc _).below hb2; clear hb2 hi2)
      | (go_at_call 14; refine (HL.out _ (kf2.alloc _)).mono ?_; rintro e w9 ⟨rfl, hb9⟩; have H9 := Lib.hid hb9; clear hb9))
    go_ret
    exact ⟨rfl, bt H2.out (bt (below_one w2 _) H9.out)⟩
  have HRUN := Lib.hid (HRB.out rfl hlen)
  have HLEN := Lib.hid hlen
  have g1 : (nn : Int) ≤ 65536 - (nw : Int) := by omega
  have HP2 := Lib.hid p2
  clear hlen HRB p2 p4'
  go_enter Tryd.func7, Tryd.ntmps7
  go_upto_region 5 with (first
    | (go_at_call 12; (with_reducible refine (HA.out _ (below_one w _)).mono ?_); rintro e w2 ⟨rfl, hb2⟩; have hi2 := (hb2.block w.heap.size (by simp)).trans (heap_alloc_new w _); have HI2 := Lib.hid hi2; have i0 := cell_of_block hi2 (k := 0) rfl; have i1 := cell_of_block hi2 (k := 1) rfl; have i2 := cell_of_block hi2 (k := 2) rfl; have i3 := cell_of_block hi2 (k := 3) rfl; have z2 := lt_of_block hi2; have z3 : w.heap.size ≠ w2.heap.size := (by omega); have z4 : w2.heap.size ≠ w.heap.size := (by omega); have H2 := Lib.hid (bt (below_one w _) hb2); have kf2 := (hF.alloc _).below hb2; clear hb2 hi2)
    | (go_at_call 11; refine (HCP.out _ (bt H2.out (below_one w2 _))).mono ?_; rintro e w3 ⟨v4, v5, v6, rfl, ho3, hb3⟩
       have h4 : ∃ p c, v4 = .slice p nw c ∧ nw ≤ c := by rw [HNW.out]; exact own_form ho3.words
       have h5 : ∃ p c, v5 = .slice p nk c ∧ nk ≤ c := by rw [HNK.out]; exact own_form ho3.kinds
       have h6 : ∃ p c, v6 = .slice p nd c ∧ nd ≤ c := by rw [HND.out]; exact own_form ho3.data
       obtain ⟨p4, c4, rfl, _⟩ := h4
       obtain ⟨p5, c5, rfl, _⟩ := h5
       obtain ⟨p6, c6, rfl, _⟩ := h6
       have HO3 := Lib.hid ho3
       have HB3 := Lib.hid hb3
       clear ho3 hb3))
  have HX4 : Hid ((w3.alloc (.cells #[.slice p4 nw c4, .slice p5 nk c5, .slice p6 nd c6, .int .i64 entry] 25)).heap[w2.heap.size]? = some (.cells #[.int .i64 1, .int .u32 oc, .string ob, .int .i64 ot] 29 (0, 0))) := Lib.hid ((heap_alloc_old _ _ (by have := HB3.out.size; simp at this; omega)).trans ((HB3.out.block w2.heap.size (by simp)).trans (heap_alloc_new w2 _)))
  have HI4 : Hid ((w3.alloc (.cells #[.slice p4 nw c4, .slice p5 nk c5, .slice p6 nd c6, .int .i64 entry] 25)).heap[w3.heap.size]? = some (.cells #[.slice p4 nw c4, .slice p5 nk c5, .slice p6 nd c6, .int .i64 entry] 25 (0, 0))) := Lib.hid (heap_alloc_new w3 _)
  have HO4 := Lib.hid (HO3.out.below (below_one w3 (.cells #[.slice p4 nw c4, .slice p5 nk c5, .slice p6 nd c6, .int .i64 entry] 25)))
  have HB4 : Hid (Below w.heap.size w (w3.alloc (.cells #[.slice p4 nw c4, .slice p5 nk c5, .slice p6 nd c6, .int .i64 entry] 25))) := Lib.hid (bt (bt H2.out (below_one w2 _)) (bt HB3.out (below_one w3 _)))
  have HBO : Hid (w2.heap.size < (w2.alloc (.cells #[.int .i64 1, .int .u32 oc, .string ob, .int .i64 ot] 29)).heap.size) := Lib.hid (by simp)
  have HN4 : Hid ((Value.slice p4 nw c4).ownBlock ≠ some w3.heap.size) := Lib.hid (fun hg => by have := (HO3.out.words.lt _ hg).2; omega)
  have HN5 : Hid ((Value.slice p5 nk c5).ownBlock ≠ some w3.heap.size) := Lib.hid (fun hg => by have := (HO3.out.kinds.lt _ hg).2; omega)
  have HN6 : Hid ((Value.slice p6 nd c6).ownBlock ≠ some w3.heap.size) := Lib.hid (fun hg => by have := (HO3.out.data.lt _ hg).2; omega)
  have HSI : Hid (w3.heap.size < (w3.alloc (.cells #[.slice p4 nw c4, .slice p5 nk c5, .slice p6 nd c6, .int .i64 entry] 25)).heap.size) := Lib.hid (by simp)
  have HSB : Hid ((w2.alloc (.cells #[.int .i64 1, .int .u32 oc, .string ob, .int .i64 ot] 29)).heap.size ≤ (w3.alloc (.cells #[.slice p4 nw c4, .slice p5 nk c5, .slice p6 nd c6, .int .i64 entry] 25)).heap.size) := Lib.hid (by have := HB3.out.size; simp at this ⊢; omega)
  obtain ⟨bo, hbo⟩ : ∃ bo, bo = w2.heap.size := ⟨_, rfl⟩
  obtain ⟨bi, hbi⟩ : ∃ bi, bi = w3.heap.size := ⟨_, rfl⟩
  obtain ⟨B0, hB0⟩ : ∃ B0, B0 = (w2.alloc (.cells #[.int .i64 1, .int .u32 oc, .string ob, .int .i64 ot] 29)).heap.size := ⟨_, rfl⟩
  have HBASE : Hid (w.heap.size ≤ B0) := Lib.hid (by rw [hB0]; have := H2.out.size; simp; omega)
  have HBI : Hid (w.heap.size ≤ bi ∧ bo ≠ bi) := Lib.hid (by rw [hbi, hbo]; have := H2.out.size; have := HB3.out.size; simp at this; omega)
  rw [← hB0] at HO4 HBO HSB
  rw [← hbo] at HX4 HBO ⊢
  rw [← hbi] at HI4 HN4 HN5 HN6 HSI ⊢
  clear hB0 hbo hbi HO3 HB3 i0 i1 i2 i3 HI2 kf2 H2 z2 z3 z4 HCP HA
  generalize (w3.alloc (.cells #[.slice p4 nw c4, .slice p5 nk c5, .slice p6 nd c6, .int .i64 entry] 25)) = x4 at HX4 HI4 HO4 HB4 HSI HSB ⊢
  obtain ⟨j0, j1, j2, j3, jf0, jf1, jf2, jf3, jl⟩ := box4 HI4.out
  have HXL : Hid ((ws.map uv).length = nn) := Lib.hid (by rw [List.length_map, HNN.out])
  go_upto_region 6 with (
    at_builtin
    refine wpList_append_any ?w1 (.tmp 39) (.tmp 40) 22 27 _ 4 ?w2 Tryd.underlying22 info_u32 rfl (by omega) B0 (.slice p4 nw c4) nw (words.map uv) ?w3 (by have := HO4.out.words; simp only at this; rw [← HNW.out] at this; exact this) HSB.out (ws.map uv) (.slice pn nn cn) ?w4 (SlR.below HWS.out HB4.out (fun i b o hl hP x hx => (HB4.out.cell (p := ⟨b, o, none⟩) hl).trans (hP x hx))) one_uv ?w5 ?w6
    (case w1 => rfl)
    (case w2 => rfl)
    (case w3 => rfl)
    (case w4 => rfl)
    (case w5 => have := HXL.out; have := HLEN.out; omega)
    intro v7 w5 h5 h6 h7
    have hv7 := own_form h5
    rw [HXL.out] at hv7
    obtain ⟨p7, c7, rfl, _⟩ := hv7
    have HO5 := Lib.hid (ImgOwn.words_grown (xs := ws) HO4.out (by rw [HXL.out] at h5; simp only; rw [← HNN.out, ← HNW.out]; exact h5) h6 h7)
    have HI5 := Lib.hid (grown_block h6 HI4.out HN4.out)
    have HX5 := Lib.hid (grown_block h6 HX4.out (fun e => by have := (HO4.out.words.lt _ e).1; have := HBO.out; omega))
    have HB5 : Hid (Below w.heap.size w w5) := Lib.hid (HB4.out.grown h6 HB4.out.size (fun g hg => by have := (HO4.out.words.lt _ hg).1; have := HBASE.out; omega))
    have HN7 : Hid ((Value.slice p7 (nw + nn) c7).ownBlock ≠ some bi) := Lib.hid (fun hg => by
      rcases h7 bi hg with k | k
      · exact HN4.out k
      · have := HSI.out; omega)
    obtain ⟨k0, k1, k2, k3, kf0, kf1, kf2, kf3, kl⟩ := box4 HI5.out
    clear h5 h6 h7 j0 j1 j2 j3 jf0 jf1 jf2 jf3 jl)
  have HO6 := Lib.hid (ImgOwn.keep (b := bi) (i := 0) (u := .slice p7 (nw + nn) c7) HO5.out HN7.out HN5.out HN6.out)
  have HI6 : Hid ((w5.setCell ⟨bi, 0, none⟩ (.slice p7 (nw + nn) c7)).heap[bi]? = some (.cells #[.slice p7 (nw + nn) c7, .slice p5 nk c5, .slice p6 nd c6, .int .i64 entry] 25 (0, 0))) := Lib.hid (heap_setCell_same w5 bi 0 _ _ _ HI5.out)
  have HX6 := Lib.hid (set_other (b := bi) (i := 0) (v := .slice p7 (nw + nn) c7) HX5.out HBI.out.2)
  have HB6 : Hid (Below w.heap.size w (w5.setCell ⟨bi, 0, none⟩ (.slice p7 (nw + nn) c7))) := Lib.hid (HB5.out.setCell (show w.heap.size ≤ bi from HBI.out.1) _)
  clear HO5 HI5 HX5 HB5 HO4 HI4 HX4 HB4 k0 k1 k2 k3 kf0 kf1 kf2 kf3 kl HSI HSB HN4
  generalize (w5.setCell ⟨bi, 0, none⟩ (.slice p7 (nw + nn) c7)) = x6 at HO6 HI6 HX6 HB6 ⊢
  go_wp2
  go_loopw [10] (fun i wr => ∃ (k : Nat) (q : Option Addr) (c : Nat), k ≤ nn ∧ i = .int .i64 k ∧ Hid ((Value.slice q (nk + k) c).ownBlock ≠ some bi) ∧ Hid (ImgOwn wr B0 ⟨words ++ ws, kinds ++ List.replicate k 2, data, entry⟩ (.slice p7 (nw + nn) c7) (.slice q (nk + k) c) (.slice p6 nd c6)) ∧ Hid (wr.heap[bo]? = some (.cells #[.int .i64 1, .int .u32 oc, .string ob, .int .i64 ot] 29 (0, 0))) ∧ Hid (wr.heap[bi]? = some (.cells #[.slice p7 (nw + nn) c7, .slice q (nk + k) c, .slice p6 nd c6, .int .i64 entry] 25 (0, 0))) ∧ Hid (Below w.heap.size w wr)) (fun i _ => nn - (intOf i).toNat)
  case atStart => exact ⟨0, p5, c5, Nat.zero_le _, rfl, HN5, Lib.hid (by simpa using HO6.out), HX6, HI6, HB6⟩
  case round =>
    clear HO6 HI6 HX6 HB6 HN5
    obtain ⟨k, q, c, hk, rfl, HNQ, HOR, HXR, HIR, HBR⟩ := hrel
    obtain ⟨j0, j1, j2, j3, jf0, jf1, jf2, jf3, jl⟩ := box4 HIR.out
    have y0 : (0 : Int) ≤ k := by omega
    by_cases hlt : k < nn
    · have y1 : (k : Int) < nn := by omega
      have HOA := Lib.hid (HOR.out.below (below_one wr (.cells #[.int .i64 2] 3)))
      have HIA := Lib.hid ((heap_alloc_old wr (.cells #[.int .i64 2] 3) jl).trans HIR.out)
      have HXA := Lib.hid ((heap_alloc_old wr (.cells #[.int .i64 2] 3) (lt_of_block HXR.out)).trans HXR.out)
      have HBA : Hid (Below w.heap.size w (wr.alloc (.cells #[.int .i64 2] 3))) := Lib.hid (bt HBR.out (below_one wr _))
      have HKL : Hid ((kinds ++ List.replicate k 2).length = nk + k) := Lib.hid (by rw [List.length_append, List.length_replicate, ← HNK.out])
      have hb0 : B0 ≤ (wr.alloc (.cells #[.int .i64 2] 3)).heap.size := by
        have h1 := HOA.out.words
        obtain ⟨_, ⟨e, h0⟩ | ⟨g, cap, cur, e, h2, h3, _⟩⟩ := h1
        · have h4 := HP1.out
          simp only [List.length_append] at h0
          omega
        · exact Nat.le_trans h2 (Nat.le_of_lt (lt_of_block h3))
      go_wp2_with (
        at_builtin
        refine wpList_append_any ?x1 (.tmp 50) (.tmp 51) 23 3 _ 8 ?x2 Tryd.underlying23 info_int rfl (by omega) B0 (.slice q (nk + k) c) (nk + k) ((kinds ++ List.replicate k 2).map iv) ?x3 (by have := HOA.out.kinds; simp only at this; rw [HKL.out] at this; exact this) hb0 [iv 2] (.slice (some ⟨wr.heap.size, 0, none⟩) 1 1) ?x4 (row_one wr _ _) (by simp [iv, Value.oneCell']) ?x5 ?x6
        (case x1 => rfl)
        (case x2 => rfl)
        (case x3 => rfl)
        (case x4 => rfl)
        (case x5 => simp; omega)
        intro v8 w8 h5 h6 h7
        have hv8 := own_form h5
        obtain ⟨p8, c8, hv8, _⟩ := hv8
        rw [show nk + k + [iv 2].length = nk + (k + 1) from rfl] at hv8
        subst hv8
        have HO8 := Lib.hid (ImgOwn.kinds_grown (xs := [2]) HOA.out (by simp only; rw [HKL.out]; exact h5) h6 h7)
        have HI8 := Lib.hid (grown_block h6 HIA.out HNQ.out)
        have HX8 := Lib.hid (grown_block h6 HXA.out (fun e => by have := (HOA.out.kinds.lt _ e).1; have := HBO.out; omega))
        have HB8 : Hid (Below w.heap.size w w8) := Lib.hid (HBA.out.grown h6 HBA.out.size (fun g hg => by have := (HOA.out.kinds.lt _ hg).1; have := HBASE.out; omega))
        have HN8 : Hid ((Value.slice p8 (nk + (k + 1)) c8).ownBlock ≠ some bi) := Lib.hid (fun hg => by
          rcases h7 bi hg with k | k
          · exact HNQ.out k
          · simp at k; omega)
        obtain ⟨k0, k1, k2, k3, kf0, kf1, kf2, kf3, kl⟩ := box4 HI8.out
        clear h5 h6 h7)
      refine ⟨⟨k + 1, p8, c8, by omega, by go_num, HN8, ?_, ?_, ?_, ?_⟩, by simp [intOf]; omega⟩
      · refine Lib.hid ?_
        have h1 := ImgOwn.keep (b := bi) (i := 1) (u := .slice p8 (nk + (k + 1)) c8) HO8.out HN7.out HN8.out HN6.out
        simp only [List.append_assoc] at h1
        rw [show List.replicate k (2 : Int) ++ [2] = List.replicate (k + 1) 2 from (List.replicate_succ' ..).symm] at h1
        exact h1
      · exact Lib.hid (set_other HX8.out HBI.out.2)
      · exact Lib.hid (heap_setCell_same w8 bi 1 _ _ _ HI8.out)
      · exact Lib.hid (HB8.out.setCell (show w.heap.size ≤ bi from HBI.out.1) _)
    · have y1 : decide (k < nn) = false := decide_eq_false hlt
      have hkn : k = nn := by omega
      subst hkn
      have kfr := hF.below HBR.out
      have HIM := Lib.hid HOR.out.img
      have zo := lt_of_block HXR.out
      clear hlt hk
      go_wp2_with (first
        | (go_at_call 12; (with_reducible refine (HRUN.out _ _ _ wr HIM.out kfr).mono ?_); rintro e w7 ⟨rfl, hb7⟩; have H7 := Lib.hid hb7; have kf7 := kfr.below hb7; have x7 := (hb7.block bo zo).trans HXR.out; have HX7 := Lib.hid x7; have e0 := cell_of_block x7 (k := 0) rfl; have e1 := cell_of_block x7 (k := 1) rfl; have e2 := cell_of_block x7 (k := 2) rfl; have e3 := cell_of_block x7 (k := 3) rfl; have z7 := lt_of_block x7; have z8 : bo ≠ w7.heap.size := (by omega); have z9 : w7.heap.size ≠ bo := (by omega); clear hb7 x7)
        | (go_at_call 14; refine (HL.out _ (kf7.alloc _)).mono ?_; rintro e w9 ⟨rfl, hb9⟩; have H9 := Lib.hid hb9; have f0 := (hb9.cell (p := ⟨bo, 0, none⟩) (by simp; omega)).trans (by go_simp : _ = some (Value.int .i64 1)); have f1 := (hb9.cell (p := ⟨bo, 1, none⟩) (by simp; omega)).trans (by go_simp : _ = some (Value.int .u32 oc)); have f2 := (hb9.cell (p := ⟨bo, 2, none⟩) (by simp; omega)).trans (by go_simp : _ = some (Value.string ob)); have f3 := (hb9.cell (p := ⟨bo, 3, none⟩) (by simp; omega)).trans (by go_simp : _ = some (Value.int .i64 ot)); have d0 := hb9.cell (p := ⟨w7.heap.size, 0, none⟩) (by simp); have d1 := hb9.cell (p := ⟨w7.heap.size, 1, none⟩) (by simp); have d2 := hb9.cell (p := ⟨w7.heap.size, 2, none⟩) (by simp); have d3 := hb9.cell (p := ⟨w7.heap.size, 3, none⟩) (by simp); clear hb9))
      go_ret
      exact ⟨by simp, bt HBR.out (bt H7.out (bt (below_one w7 _) H9.out))⟩
end Go.Proofs.YtjbiikbmbacjkaaDoor.Emu
