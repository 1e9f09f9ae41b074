/- The law EmuKinds, where the program's machine does what the plain one does. -/
import Derived.Test.YtjbiikbmbacjkaaDoorGC
import Derived.Deep.RegionWith
import Derived.Deep.DeepCutAuto
import Derived.IntWalk
namespace Go.Proofs.YtjbiikbmbacjkaaDoor.Emu
open Go.RowKit Go.Proofs.YtjbiikbmbacjkaaDoor.Enc Go.Proofs.YtjbiikbmbacjkaaDoor.Graph
theorem ints_at {w : World} {p : Option Addr} {n c : Nat} {l : List Int} (h : IntsR w (.slice p n c) l) {k : Nat} (hk : k < l.length) :
    ∃ b o x, p = some ⟨b, o, none⟩ ∧ l[k]? = some x ∧ b < w.heap.size ∧ w.cell? ⟨b, o + k, none⟩ = some (.int .i64 x) ∧ l.length ≤ c ∧ c ≤ 9223372036854775807 := by
  obtain ⟨b, o, c', h1, h2, h3, h4⟩ := SlR.form2 h (by omega)
  injection h1 with h1 h5 h6
  subst h1 h6
  obtain ⟨x, hx⟩ : ∃ x, l[k]? = some x := ⟨_, List.getElem?_eq_getElem hk⟩
  have := h4 k hk x hx
  rw [Nat.mul_one] at this
  exact ⟨b, o, x, rfl, hx, h3, this, h2.1, h2.2⟩
set_option maxHeartbeats 16000000 in
set_option maxRecDepth 100000 in
theorem kinds_any {ar : Int → Int → Int → Option Int} {hs : Int → Int → Int → Bool} (D : DoesRun ar hs) (m : Image) (vw vk vd vn : Value) (input : List UInt8) (ns : List Int) (w : World) (h : ImgR w m vw vk vd) (hm : SmI m) (hn : IntsR w vn ns) (hns : ∀ x ∈ ns, inR x) (hF : FormsAt w) :
    Calls Tryd.prog 5 #[.agg #[vw, vk, vd, .int .i64 m.entry], .string ⟨input.toArray⟩, vn] w (Is (.bool true) w) := by
  obtain ⟨o, er, ho⟩ : ∃ o er, runP ar hs m input 30000 = (o, er) := ⟨_, _, rfl⟩
  have HA := Lib.hid (fun (wx : World) (hx : Below w.heap.size w wx) => D.at_ ho wx (h.below hx) hm (by unfold inR; omega) (hF.below hx))
  have HL := Lib.hid (fun w hF => live_any D w hF)
  have HCP := Lib.hid (fun (wx : World) (hx : Below w.heap.size w wx) => copy_any m vw vk vd wx (h.below hx) hm)
  by_cases he : er = 0
  case neg =>
    have hno := run_no ho he
    subst hno
    obtain ⟨pw, cw, rfl⟩ := h.words.form
    obtain ⟨pk, ck, rfl⟩ := h.kinds.form
    obtain ⟨pd, cd, rfl⟩ := h.data.form
    have g0 : (er == 0) = false := by simpa using he
    have g1 : (er != 0) = true := by simpa using he
    unfold noOut at HA
    simp only at HA
    clear ho h hm hn hns D he HCP
    obtain ⟨words, kinds, data, entry⟩ := m
    simp only at HA ⊢
    go_enter Tryd.func5, Tryd.ntmps5
    go_wp2_with (first
      | (go_at_call 12; refine (HA.out _ (below_one w _)).mono ?_; rintro e w2 ⟨rfl, hb2⟩; have H2 := Lib.hid hb2; have kf2 := (hF.alloc _).below hb2; clear hb2)
      | (go_at_call 14; refine (HL.out _ (kf2.alloc _)).mono ?_; rintro e w9 ⟨rfl, hb9⟩; have H9 := Lib.hid hb9; have d0 := hb9.cell (p := ⟨w2.heap.size, 0, none⟩) (by simp); have d1 := hb9.cell (p := ⟨w2.heap.size, 1, none⟩) (by simp); have d2 := hb9.cell (p := ⟨w2.heap.size, 2, none⟩) (by simp); have d3 := hb9.cell (p := ⟨w2.heap.size, 3, none⟩) (by simp); clear hb9))
    go_ret
    exact ⟨by simp, bt (below_one w _) (bt H2.out (bt (below_one w2 _) H9.out))⟩
  subst he
  have HRK := Lib.hid (fun ks h1 h2 => run_kinds ho (ks := ks) h1 h2)
  have hsm : ∀ ks : List Int, ks.length = m.kinds.length → SmI { m with kinds := ks } := fun ks h1 => ⟨hm.words, hm.data, hm.entry, hm.lw, by simp only; rw [h1]; exact hm.lk, hm.ld⟩
  have HRB := Lib.hid (fun ks h1 h2 vw vk vd (wx : World) hi hF => D.at_ (run_kinds ho (ks := ks) h1 h2) (vw := vw) (vk := vk) (vd := vd) wx hi (hsm ks h1) (by unfold inR; omega) hF)
  have HMK := Lib.hid (may_parts (run_yes ho).1)
  obtain ⟨pn, cn, rfl⟩ := hn.form
  have hcn := sl_len hn
  have HN := Lib.hid hn
  have HNS := Lib.hid hns
  have HPK := Lib.hid (fun c w hc => pick_any c 3 w hc (by omega))
  obtain ⟨pw, cw, rfl⟩ := h.words.form
  obtain ⟨pk, ck, rfl⟩ := h.kinds.form
  obtain ⟨pd, cd, rfl⟩ := h.data.form
  clear ho h hm hn hns D hsm
  obtain ⟨words, kinds, data, entry⟩ := m
  obtain ⟨os, oc, obs, ot⟩ := o
  simp only at HA HCP HRK HRB HMK ⊢
  obtain ⟨nw, hnw⟩ : ∃ n, n = words.length := ⟨_, rfl⟩
  obtain ⟨nk, hnk⟩ : ∃ n, n = kinds.length := ⟨_, rfl⟩
  obtain ⟨nd, hnd⟩ : ∃ n, n = data.length := ⟨_, rfl⟩
  obtain ⟨nn, hnn⟩ : ∃ n, n = ns.length := ⟨_, rfl⟩
  have HNW := Lib.hid hnw
  have HNK := Lib.hid hnk
  have HND := Lib.hid hnd
  have HNN := Lib.hid hnn
  obtain ⟨p1, p2, p3, p4', _, p6'⟩ := HMK.out
  rw [← hnw] at HA HCP p2 p3 ⊢
  rw [← hnk] at HA HCP p3 ⊢
  rw [← hnd] at HA HCP ⊢
  rw [← hnn] at hcn HN ⊢
  have HP6 := Lib.hid p6'
  have n1 : (nk : Int) ≤ 65536 := by omega
  have n2 : (nn : Int) ≤ 9223372036854775807 := by omega
  generalize (⟨obs.toArray⟩ : ByteArray) = ob at HA HRB
  generalize ((ot : Nat) : Int) = ot at HA HRB
  clear hnw hnk hnd hnn HMK p1 p3 p4' p6'
  go_enter Tryd.func5, Tryd.ntmps5
  go_wp2_with (first
    | (go_at_call 12; refine (HA.out _ (below_one w _)).mono ?_; rintro e w2 ⟨rfl, hb2⟩; have hi2 := (hb2.block w.heap.size (by simp)).trans (heap_alloc_new w _); have HI2 := Lib.hid hi2; have i0 := cell_of_block hi2 (k := 0) rfl; have i1 := cell_of_block hi2 (k := 1) rfl; have i2 := cell_of_block hi2 (k := 2) rfl; have i3 := cell_of_block hi2 (k := 3) rfl; have z2 := lt_of_block hi2; have H2 := Lib.hid (bt (below_one w _) hb2); have kf2 := (hF.alloc _).below hb2; clear hb2 hi2)
    | (go_at_call 11; refine (HCP.out _ (bt H2.out (below_one w2 _))).mono ?_; rintro e w3 ⟨v4, v5, v6, rfl, ho3, hb3⟩
       have h4 : ∃ p c, v4 = .slice p nw c ∧ nw ≤ c := by rw [HNW.out]; exact own_form ho3.words
       have h5 : ∃ p c, v5 = .slice p nk c ∧ nk ≤ c := by rw [HNK.out]; exact own_form ho3.kinds
       have h6 : ∃ p c, v6 = .slice p nd c ∧ nd ≤ c := by rw [HND.out]; exact own_form ho3.data
       obtain ⟨p4, c4, rfl, _⟩ := h4
       obtain ⟨p5, c5, rfl, _⟩ := h5
       obtain ⟨p6, c6, rfl, _⟩ := h6
       have HO3 := Lib.hid ho3
       have HB3 := Lib.hid hb3
       clear ho3 hb3))
  have HX4 : Hid ((w3.alloc (.cells #[.slice p4 nw c4, .slice p5 nk c5, .slice p6 nd c6, .int .i64 entry] 25)).heap[w2.heap.size]? = some (.cells #[.int .i64 os, .int .u32 oc, .string ob, .int .i64 ot] 29 (0, 0))) := Lib.hid ((heap_alloc_old _ _ (by have := HB3.out.size; simp at this; omega)).trans ((HB3.out.block w2.heap.size (by simp)).trans (heap_alloc_new w2 _)))
  have HI4 : Hid ((w3.alloc (.cells #[.slice p4 nw c4, .slice p5 nk c5, .slice p6 nd c6, .int .i64 entry] 25)).heap[w3.heap.size]? = some (.cells #[.slice p4 nw c4, .slice p5 nk c5, .slice p6 nd c6, .int .i64 entry] 25 (0, 0))) := Lib.hid (heap_alloc_new w3 _)
  have HO4 := Lib.hid (HO3.out.below (below_one w3 (.cells #[.slice p4 nw c4, .slice p5 nk c5, .slice p6 nd c6, .int .i64 entry] 25)))
  have HB4 : Hid (Below w.heap.size w (w3.alloc (.cells #[.slice p4 nw c4, .slice p5 nk c5, .slice p6 nd c6, .int .i64 entry] 25))) := Lib.hid (bt (bt H2.out (below_one w2 _)) (bt HB3.out (below_one w3 _)))
  have HBO : Hid (w2.heap.size < (w2.alloc (.cells #[.int .i64 os, .int .u32 oc, .string ob, .int .i64 ot] 29)).heap.size) := Lib.hid (by simp)
  have HROW : Hid (∀ g, (Value.slice p5 nk c5).ownBlock = some g → g < w3.heap.size) := Lib.hid (fun g hg => (HO3.out.kinds.lt g hg).2)
  obtain ⟨bo, hbo⟩ : ∃ bo, bo = w2.heap.size := ⟨_, rfl⟩
  obtain ⟨bi, hbi⟩ : ∃ bi, bi = w3.heap.size := ⟨_, rfl⟩
  obtain ⟨B0, hB0⟩ : ∃ B0, B0 = (w2.alloc (.cells #[.int .i64 os, .int .u32 oc, .string ob, .int .i64 ot] 29)).heap.size := ⟨_, rfl⟩
  have HBASE : Hid (w.heap.size ≤ B0) := Lib.hid (by rw [hB0]; have := H2.out.size; simp; omega)
  rw [← hB0] at HO4
  rw [← hbo] at HX4 HBO ⊢
  rw [← hbi] at HI4 HROW ⊢
  rw [← hB0] at HBO
  clear hB0 hbo hbi HO3 HB3 i0 i1 i2 i3 HI2 kf2 H2 z2 HCP HA
  generalize (w3.alloc (.cells #[.slice p4 nw c4, .slice p5 nk c5, .slice p6 nd c6, .int .i64 entry] 25)) = x4 at HX4 HI4 HO4 HB4 ⊢
  go_loopw [10] (fun i wr => ∃ (k : Nat) (ks : List Int), k ≤ nk ∧ i = .int .i64 k ∧ ks.length = nk ∧ Hid (∀ x ∈ ks, 1 ≤ x ∧ x ≤ 3) ∧ Hid (ImgOwn wr B0 ⟨words, ks, data, entry⟩ (.slice p4 nw c4) (.slice p5 nk c5) (.slice p6 nd c6)) ∧ Hid (wr.heap[bo]? = some (.cells #[.int .i64 os, .int .u32 oc, .string ob, .int .i64 ot] 29 (0, 0))) ∧ Hid (wr.heap[bi]? = some (.cells #[.slice p4 nw c4, .slice p5 nk c5, .slice p6 nd c6, .int .i64 entry] 25 (0, 0))) ∧ Hid (Below w.heap.size w wr)) (fun i _ => nk - (intOf i).toNat)
  case atStart => exact ⟨0, kinds, Nat.zero_le _, rfl, HNK.out.symm, HP6, HO4, HX4, HI4, HB4⟩
  case round =>
    obtain ⟨k, ks, hk, rfl, hks, HK13, HOR, HXR, HIR, HBR⟩ := hrel
    have y0 : (0 : Int) ≤ k := by omega
    have kfr := hF.below HBR.out
    have HOI := Lib.hid HOR.out.img
    have j0 := cell_of_block HIR.out (k := 0) rfl
    have j1 := cell_of_block HIR.out (k := 1) rfl
    have j2 := cell_of_block HIR.out (k := 2) rfl
    have j3 := cell_of_block HIR.out (k := 3) rfl
    have zi := lt_of_block HIR.out
    have zo := lt_of_block HXR.out
    by_cases ha : k < nk
    · by_cases hb : k < nn
      · have y1 : (k : Int) < nk := by omega
        have y2 : (k : Int) < nn := by omega
        obtain ⟨b1, o1, x, rfl, hx, hl1, e1, hcn1, _⟩ := ints_at HN.out (k := k) (by rw [← HNN.out]; exact hb)
        have hxr := HNS.out x (List.mem_of_getElem? hx)
        have e2 := (HBR.out.cell (p := ⟨b1, o1 + k, none⟩) hl1).trans e1
        have hpr := pickP_range x (n := 3) (by omega)
        have HPX := Lib.hid (fun w => HPK.out x w hxr)
        obtain ⟨q, hq⟩ : ∃ q, q = pickP x 3 := ⟨_, rfl⟩
        rw [← hq] at hpr HPX
        have y3 : (nn : Int) ≤ cn := by have := HNN.out; omega
        have y4 : (cn : Int) ≤ 9223372036854775807 := by omega
        have hkx : k < ks.length := by omega
        obtain ⟨g5, c5', hv5, hat5⟩ : ∃ g c, Value.slice p5 nk c5 = .slice (some ⟨g, 0, none⟩) nk c ∧ wr.cell? ⟨g, k, none⟩ = some (iv ks[k]) ∧ wr.frozen? ⟨g, k, none⟩ = false ∧ B0 ≤ g ∧ g < wr.heap.size ∧ nk ≤ c ∧ c ≤ 9223372036854775807 := by
          have hK := HOR.out.kinds
          simp only at hK
          rw [hks] at hK
          have hK2 := hK
          obtain ⟨_, ⟨e, h0⟩ | ⟨g, cap, cur, e, _⟩⟩ := hK
          · omega
          · rw [e] at hK2
            exact ⟨g, cap, e, own_at hK2 (by rw [List.getElem?_map, List.getElem?_eq_getElem hkx]; rfl)⟩
        injection hv5 with hv5 _ hv6
        subst hv5 hv6
        obtain ⟨r1, r2, r3, r4, r5, r6⟩ := hat5
        have r7 : (nk : Int) ≤ c5 := by omega
        have r8 : (c5 : Int) ≤ 9223372036854775807 := by omega
        have r9 : g5 ≠ bo := by have := HBO.out; omega
        have r10 : g5 ≠ bi := by have := HROW.out g5 rfl; omega
        have f9 : IntKind.i64.wrap (1 + q) = 1 + q := IntWalk.i64_in _ (by omega)
        clear hx e1 hxr hq ha hb
        go_wp2
        go_region_with (go_at_call 16; refine (HPX.out _).mono ?_; rintro e wx ⟨rfl, rfl⟩)
        all_goals
          go_wp2
          go_roundw
          case rel =>
            refine ⟨k + 1, ks.set k (1 + q), by omega, by go_num, by rw [List.length_set]; exact hks, ?_, ?_, ?_, ?_, ?_⟩
            · exact Lib.hid (fun x hx => by
                rcases List.mem_or_eq_of_mem_set hx with h1 | h1
                · exact HK13.out x h1
                · omega)
            · exact Lib.hid (ImgOwn.drew (ImgOwn.setKind (k := k) HOR.out hks.symm (by omega) (1 + q)))
            · exact Lib.hid (set_other HXR.out (fun e => r9 e.symm))
            · exact Lib.hid (set_other HIR.out (fun e => r10 e.symm))
            · exact Lib.hid (Below.drew (HBR.out.setCell (p := ⟨g5, k, none⟩) (show w.heap.size ≤ g5 by have := HBASE.out; omega) (.int .i64 (1 + q))))
          case measure => simp [intOf]; omega
      · have y1 : (k : Int) < nk := by omega
        have y2 : decide (k < nn) = false := decide_eq_false hb
        clear ha hb
        go_wp2_with (first
          | (go_at_call 12; refine (HRB.out ks (by rw [hks, HNK.out]) HK13.out _ _ _ wr HOI.out kfr).mono ?_; rintro e w7 ⟨rfl, hb7⟩; have H7 := Lib.hid hb7; have kf7 := kfr.below hb7; have x7 := (hb7.block bo zo).trans HXR.out; have HX7 := Lib.hid x7; have e0 := cell_of_block x7 (k := 0) rfl; have e1 := cell_of_block x7 (k := 1) rfl; have e2 := cell_of_block x7 (k := 2) rfl; have e3 := cell_of_block x7 (k := 3) rfl; have z7 := lt_of_block x7; have z8 : bo ≠ w7.heap.size := (by omega); have z9 : w7.heap.size ≠ bo := (by omega); clear hb7 x7)
          | (go_at_call 14; refine (HL.out _ (kf7.alloc _)).mono ?_; rintro e w9 ⟨rfl, hb9⟩; have H9 := Lib.hid hb9; have f0 := (hb9.cell (p := ⟨bo, 0, none⟩) (by simp; omega)).trans (by go_simp : _ = some (Value.int .i64 os)); have f1 := (hb9.cell (p := ⟨bo, 1, none⟩) (by simp; omega)).trans (by go_simp : _ = some (Value.int .u32 oc)); have f2 := (hb9.cell (p := ⟨bo, 2, none⟩) (by simp; omega)).trans (by go_simp : _ = some (Value.string ob)); have f3 := (hb9.cell (p := ⟨bo, 3, none⟩) (by simp; omega)).trans (by go_simp : _ = some (Value.int .i64 ot)); have d0 := hb9.cell (p := ⟨w7.heap.size, 0, none⟩) (by simp); have d1 := hb9.cell (p := ⟨w7.heap.size, 1, none⟩) (by simp); have d2 := hb9.cell (p := ⟨w7.heap.size, 2, none⟩) (by simp); have d3 := hb9.cell (p := ⟨w7.heap.size, 3, none⟩) (by simp); clear hb9))
        go_ret
        exact ⟨by simp, bt HBR.out (bt H7.out (bt (below_one w7 _) H9.out))⟩
    · have y1 : decide (k < nk) = false := decide_eq_false ha
      clear ha
      go_wp2_with (first
        | (go_at_call 12; refine (HRB.out ks (by rw [hks, HNK.out]) HK13.out _ _ _ wr HOI.out kfr).mono ?_; rintro e w7 ⟨rfl, hb7⟩; have H7 := Lib.hid hb7; have kf7 := kfr.below hb7; have x7 := (hb7.block bo zo).trans HXR.out; have HX7 := Lib.hid x7; have e0 := cell_of_block x7 (k := 0) rfl; have e1 := cell_of_block x7 (k := 1) rfl; have e2 := cell_of_block x7 (k := 2) rfl; have e3 := cell_of_block x7 (k := 3) rfl; have z7 := lt_of_block x7; have z8 : bo ≠ w7.heap.size := (by omega); have z9 : w7.heap.size ≠ bo := (by omega); clear hb7 x7)
        | (go_at_call 14; refine (HL.out _ (kf7.alloc _)).mono ?_; rintro e w9 ⟨rfl, hb9⟩; have H9 := Lib.hid hb9; have f0 := (hb9.cell (p := ⟨bo, 0, none⟩) (by simp; omega)).trans (by go_simp : _ = some (Value.int .i64 os)); have f1 := (hb9.cell (p := ⟨bo, 1, none⟩) (by simp; omega)).trans (by go_simp : _ = some (Value.int .u32 oc)); have f2 := (hb9.cell (p := ⟨bo, 2, none⟩) (by simp; omega)).trans (by go_simp : _ = some (Value.string ob)); have f3 := (hb9.cell (p := ⟨bo, 3, none⟩) (by simp; omega)).trans (by go_simp : _ = some (Value.int .i64 ot)); have d0 := hb9.cell (p := ⟨w7.heap.size, 0, none⟩) (by simp); have d1 := hb9.cell (p := ⟨w7.heap.size, 1, none⟩) (by simp); have d2 := hb9.cell (p := ⟨w7.heap.size, 2, none⟩) (by simp); have d3 := hb9.cell (p := ⟨w7.heap.size, 3, none⟩) (by simp); clear hb9))
      go_ret
      exact ⟨by simp, bt HBR.out (bt H7.out (bt (below_one w7 _) H9.out))⟩
end Go.Proofs.YtjbiikbmbacjkaaDoor.Emu
