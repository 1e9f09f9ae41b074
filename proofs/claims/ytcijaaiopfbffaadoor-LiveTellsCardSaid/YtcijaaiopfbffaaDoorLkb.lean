/- What lookAt does: what each block says alone, and which lead to which. No condition but that the graph fits. -/
import Derived.Test.YtcijaaiopfbffaaDoorLkd
import Derived.Deep.RegionLaw
namespace Go.Proofs.YtcijaaiopfbffaaDoor.Live
open Go.RowKit Go.Proofs.YtcijaaiopfbffaaDoor.Graph

structure LookPostG (x : PGr) (n lb ub db ab : Nat) (L : Nat → Look) (A : Nat → List Nat) (w w' : World) : Prop where
  lk : LookSt lb ub db n (.slice (some ⟨ab, 0, none⟩) n n) L w'
  ah : AhR w' (.slice (some ⟨ab, 0, none⟩) n n) n A
  below : Below w.heap.size w w'
  upto : AhUpto x n A
  looks : (∀ b t, x.blocks[b]? = some t → L b = lookB t) ∧ (∀ b, n ≤ b → L b = look0) ∧ ∀ b, (L b).Lt
def LookAtPost (x : PGr) (n : Nat) (w : World) (e : Ending) (w' : World) : Prop := ∃ lb ub db ab L A, e = .returned (.pointer (some ⟨lb, 0, none⟩)) ∧ LookPostG x n lb ub db ab L A w w'
set_option maxHeartbeats 8000000 in
set_option maxRecDepth 100000 in
theorem lookAt_any (x : PGr) (vp va vb : Value) (w : World) (h : GrL w vp va vb x) (hs : SmN x) (hf : fitsB x = true) (hn : x.blocks.length ≤ 20000) :
    Calls Tryd.prog 31 #[grV x vp va vb] w (LookAtPost x x.blocks.length w) := by
  have HG := Lib.hid h
  have HS := Lib.hid hs
  have HF := Lib.hid hf
  obtain ⟨pp, pc, rfl⟩ := h.params.form
  obtain ⟨ap, ac, rfl⟩ := h.arrays.form
  have HB := Lib.hid h.blocks
  obtain ⟨bp, bc, rfl⟩ := h.blocks.form
  unfold grV
  obtain ⟨n, hnn⟩ : ∃ n, n = x.blocks.length := ⟨_, rfl⟩
  have HN := Lib.hid hnn
  rw [← hnn] at hn ⊢
  have ni : (n : Int) ≤ 20000 := by omega
  have hm1 := fun w => make_sets n hn w
  have hm2 := fun w => make_lists n hn w
  clear h hs hf hnn
  go_enter Tryd.func31, Tryd.ntmps31
  go_upto_region 2 with (fail)
  have HBX : Hid ((w.alloc (.cells #[.slice pp x.params.length pc, .int .i64 x.temps, .slice ap x.arrays.length ac, .slice bp n bc] 26)).heap[w.heap.size]? = some (.cells #[.slice pp x.params.length pc, .int .i64 x.temps, .slice ap x.arrays.length ac, .slice bp n bc] 26 (0, 0))) := Lib.hid (heap_new w _)
  have HB1 := Lib.hid (Graph.below_alloc w (.cells #[.slice pp x.params.length pc, .int .i64 x.temps, .slice ap x.arrays.length ac, .slice bp n bc] 26))
  generalize w.alloc (.cells #[.slice pp x.params.length pc, .int .i64 x.temps, .slice ap x.arrays.length ac, .slice bp n bc] 26) = w1 at HBX HB1 ⊢
  go_cut [4] from 11 to 18 (fun p wq => ∃ lb ub db ab, p = .pointer (some ⟨lb, 0, none⟩) ∧ Hid (LMade w1 wq lb ub db ab n))
  case first =>
    go_region
    all_goals
      go_wp2
      go_meet
      exact ⟨_, _, _, _, rfl, Lib.hid (made_look w1 1 _ _ _ _ n _ _ _ (by first | rfl | (simp only [World.size_alloc]; omega)) (by first | exact .inl ⟨rfl, rfl⟩ | exact .inr (.inl ⟨rfl, rfl⟩) | exact .inr (.inr ⟨rfl, rfl⟩)) (by first | exact .inl ⟨rfl, rfl⟩ | exact .inr (.inl ⟨rfl, rfl⟩) | exact .inr (.inr ⟨rfl, rfl⟩)) (by first | exact .inl ⟨rfl, rfl⟩ | exact .inr (.inl ⟨rfl, rfl⟩) | exact .inr (.inr ⟨rfl, rfl⟩)) (by refine ⟨?_, ?_, ?_⟩ <;> omega) _ rfl)⟩
  case rest =>
    obtain ⟨lb, ub, db, ab, rfl, HMD⟩ := hcut
    clear hm1 hm2
    obtain ⟨B, hB⟩ : ∃ B, B = wc.heap.size := ⟨_, rfl⟩
    have HBB : Hid (lb < B ∧ ub < B ∧ db < B ∧ ab < B ∧ w.heap.size < B) := Lib.hid (by
      have h1 := (Array.getElem?_eq_some_iff.1 HMD.out.lk.look).1
      have h2 := HMD.out.lk.us.lt
      have h3 := HMD.out.lk.ds.lt
      have h4 := (Array.getElem?_eq_some_iff.1 HMD.out.ah).1
      have h5 := (Array.getElem?_eq_some_iff.1 HBX.out).1
      have h6 := HMD.out.below.size
      omega)
    have h5 := (Array.getElem?_eq_some_iff.1 HBX.out).1
    have HNE : Hid (w.heap.size < lb ∧ w.heap.size < ub ∧ w.heap.size < db ∧ w.heap.size < ab ∧ ab ≠ lb ∧ ab ≠ ub ∧ ab ≠ db) := Lib.hid (by have := HMD.out.new; have := HMD.out.ne; omega)
    have HLK := Lib.hid HMD.out.lk
    have HAH : Hid (AhSt B ab n (fun _ => []) (fun _ => .slice none 0 0) wc) := Lib.hid (AhSt.made HMD.out.ah)
    have HBW : Hid (Below w.heap.size w wc) := Lib.hid (HB1.out.trans (HMD.out.below.mono HB1.out.size))
    have hbx := (HMD.out.below.block _ h5).trans HBX.out
    have HBC := Lib.hid hbx
    have HBZ := Lib.hid hB
    obtain ⟨a3, _⟩ := cell_of_block hbx (k := 3) rfl
    obtain ⟨bx, hbxe⟩ : ∃ bx, bx = Obj.cells #[.slice pp x.params.length pc, .int .i64 x.temps, .slice ap x.arrays.length ac, .slice bp n bc] 26 := ⟨_, rfl⟩
    rw [← hbxe] at HBC
    clear hbx hB HMD HBX HB1 h5
    go_wp2
    clear a3
    go_loopw [22] (fun i wr => ∃ (k : Nat) (L : Nat → Look) (A : Nat → List Nat) (vs : Nat → Value), k ≤ n ∧ i = .int .i64 k ∧ Hid (LookSt lb ub db n (.slice (some ⟨ab, 0, none⟩) n n) L wr) ∧ Hid (AhSt B ab n A vs wr) ∧ Hid (wr.heap[w.heap.size]? = some bx) ∧ Hid (Below w.heap.size w wr) ∧ Hid (B ≤ wr.heap.size) ∧ Hid ((∀ b t, b < k → x.blocks[b]? = some t → L b = lookB t) ∧ (∀ b, k ≤ b → L b = look0) ∧ ∀ b, (L b).Lt) ∧ Hid (AhUpto x k A)) (fun i _ => n - (intOf i).toNat)
    case atStart => exact ⟨0, _, _, _, Nat.zero_le _, rfl, HLK, HAH, HBC, HBW, Lib.hid (by rw [HBZ.out]; exact Nat.le_refl _), Lib.hid ⟨fun b t hb => absurd hb (Nat.not_lt_zero _), fun _ _ => rfl, fun _ => look0_lt⟩, Lib.hid ⟨fun _ => List.nodup_nil, fun b c => by simp⟩⟩
    case round =>
      obtain ⟨k, L, A, vs, hk, rfl, HL, HA, HX, HW, HZ, HLL, HAA⟩ := hrel
      by_cases hlt : k < n
      · obtain ⟨t, ht⟩ : ∃ t, x.blocks[k]? = some t := ⟨_, List.getElem?_eq_getElem (by have := HN.out; omega)⟩
        obtain ⟨gb, ob, cap, hv, hcap, hgl, hP⟩ := SlR.form2 HB.out (by have := HN.out; omega)
        injection hv with e1 e2 e3
        clear e2
        subst e1 e3
        obtain ⟨vk, vc, vt, hR⟩ := hP k (by have := HN.out; omega) t ht
        obtain ⟨m1, m2⟩ := hcap
        have i2 : (n : Int) ≤ bc := by have := HN.out; omega
        have i3 : (bc : Int) ≤ 9223372036854775807 := by omega
        have k0 : (0 : Int) ≤ k := by omega
        have k1 : (k : Int) < n := by omega
        have hft : x.temps ≤ 8000 := by
          have := HF.out
          unfold fitsB at this
          rw [Bool.and_eq_true] at this
          have := of_decide_eq_true this.1
          omega
        have HBLK := Lib.hid (block_any t x.temps hft (fits_blk HF.out ht).1 gb (ob + k * 10) vk vc vt hR hgl HW.out HL.out (by have := HNE.out; omega) (by have := HNE.out; omega) HLL.out.2.2 hlt hn)
        rw [HLL.out.2.1 k (Nat.le_refl _)] at HBLK
        have hlw := (Array.getElem?_eq_some_iff.1 HX.out).1
        have hX := HX.out
        rw [hbxe] at hX
        obtain ⟨a3, _⟩ := cell_of_block hX (k := 3) rfl
        have HT := Lib.hid ht
        have HNXT := Lib.hid (fun (W : World) (hW : Below w.heap.size w W) => next_any x _ _ _ (k : Int) W (HG.out.below hW) HS.out)
        unfold grV at HNXT
        rw [← HN.out] at HNXT
        clear hX hP hR m1 m2 ht
        go_wp2_with (first
          | (go_at_call 54
             refine HBLK.out.mono ?_
             rintro e w3 ⟨rfl, h1, h2⟩
             have H1 := Lib.hid h1
             have H2 := Lib.hid h2
             have HX3 : Hid (w3.heap[w.heap.size]? = some bx) := Lib.hid ((h2.block _ hlw (by have := HNE.out; omega) (by have := HNE.out; omega)).trans HX.out)
             have hX3 := HX3.out
             rw [hbxe] at hX3
             obtain ⟨b0, _⟩ := cell_of_block hX3 (k := 0) rfl
             obtain ⟨b1, _⟩ := cell_of_block hX3 (k := 1) rfl
             obtain ⟨b2, _⟩ := cell_of_block hX3 (k := 2) rfl
             obtain ⟨b3, _⟩ := cell_of_block hX3 (k := 3) rfl
             have HW3 : Hid (Below w.heap.size w w3) := Lib.hid (h2.below HW.out (by have := HNE.out; omega) (by have := HNE.out; omega) HW.out.size)
             clear h1 h2 hX3)
          | (go_at_call 53
             refine (HNXT.out w3 HW3.out).mono ?_
             rintro e w4 ⟨v4, rfl, h4, hb4⟩
             obtain ⟨p4, c4, rfl, hm4⟩ := own_form h4
             have H4 := Lib.hid h4
             have HB4 := Lib.hid hb4
             clear h4 hb4))
        obtain ⟨m, hm⟩ : ∃ m, m = (nextL x (k : Int)).length := ⟨_, rfl⟩
        have HNB : Hid (∀ s, s ∈ nextL x (k : Int) ↔ s ∈ namedN t.fin) := Lib.hid (next_mem HT.out)
        have HNS := Lib.hid (next_strict x (k : Int))
        have HBT : Hid (∀ s ∈ nextL x (k : Int), 0 ≤ s ∧ s < n) := Lib.hid (fun s hs => by
          have h1 := List.all_eq_true.1 (fits_blk HF.out HT.out).2 s ((HNB.out s).1 hs)
          have := HN.out
          unfold belowB at h1
          simp only [Bool.and_eq_true, decide_eq_true_eq] at h1
          omega)
        rw [← hm] at hm4 H4 ⊢
        have HM := Lib.hid hm
        generalize nextL x (k : Int) = LL at *
        have HIN : Hid (InLk w bx B w3.heap.size lb ub db ab n m (.slice p4 m c4) LL (fun b => if b = k then lookB t else L b) A vs w4) := Lib.hid (by
          have hz3 : wr.heap.size ≤ w3.heap.size := H2.out.size
          have hz4 := HB4.out.size
          have ha := HA.out.turn H2.out (by have := HBB.out; have := HNE.out; omega) (by have := HBB.out; have := HNE.out; omega)
          refine ⟨H1.out.keep HB4.out, ha.keep HB4.out, (HB4.out.block _ (Array.getElem?_eq_some_iff.1 HX3.out).1).trans HX3.out, below_then HW3.out HB4.out, H4.out, fun b q hb hq e => ?_, by have := HBB.out; have := HZ.out; omega, by have := HNE.out; omega⟩
          have h9 := ((ha.rows b hb).lt q hq).2
          have h8 := (H4.out.lt q e).1
          omega)
        have HAI := Lib.hid (AhInv.zero (k := k) (LL := LL) HAA.out.1)
        have HSZ : Hid (B ≤ w3.heap.size) := Lib.hid (by have := H2.out.size; have := HZ.out; omega)
        clear HL HA HX HW HZ HBLK HNXT H1 H2 HX3 HW3 HB4 H4 b0 b1 b2 b3 a3 hm hlw hgl
        go_loopw [36] (fun i wq => ∃ (j : Nat) (A' : Nat → List Nat) (vs' : Nat → Value), j ≤ m ∧ i = .int .i64 j ∧ Hid (InLk w bx B w3.heap.size lb ub db ab n m (.slice p4 m c4) LL (fun b => if b = k then lookB t else L b) A' vs' wq) ∧ Hid (AhInv k j LL A A')) (fun i _ => m - (intOf i).toNat)
        case atStart => exact ⟨0, A, vs, Nat.zero_le _, rfl, HIN, HAI⟩
        case round =>
          obtain ⟨j, A', vs', hj, rfl, HI1, HA1⟩ := hrel
          by_cases hjm : j < m
          · obtain ⟨s, hs⟩ : ∃ s, LL[j]? = some s := ⟨_, List.getElem?_eq_getElem (by have := HM.out; omega)⟩
            obtain ⟨g4, cc4, hv4, ce, _, _, _, hc1, hc2⟩ := own_cell HI1.out.row (k := j) (x := iv s) (by rw [List.getElem?_map, hs]; rfl) hjm
            have hv5 := hv4
            injection hv5 with e1 _ e3
            subst e1 e3
            obtain ⟨q0, q1⟩ := HBT.out s (List.mem_of_getElem? hs)
            obtain ⟨a, rfl⟩ := Int.eq_ofNat_of_zero_le q0
            have ha : a < n := by omega
            have j5 : (j : Int) < m := by omega
            have j6 : (0 : Int) ≤ j := by omega
            have j7 : (m : Int) ≤ c4 := by omega
            have j8 : (c4 : Int) ≤ 9223372036854775807 := by omega
            have HS4 := Lib.hid hs
            have HAL : Hid ((A' a).length ≤ 20000) := Lib.hid (by
              have := AhUpto.len (k := k) (A := A') (fun b c hc => by
                rcases (HA1.out.mem b c).1 hc with h1 | ⟨h1, _⟩
                · have := ((HAA.out.2 b c).1 h1).1; omega
                · omega) HA1.out.nd a
              omega)
            have HA2 : Hid (AhInv k (j + 1) LL A (fun b => if b = a then A' a ++ [k] else A' b)) := Lib.hid (HA1.out.more HNS.out hs (fun hm => by have := ((HAA.out.2 a k).1 hm).1; omega))
            have hrow := HI1.out.ah.rows a ha
            obtain ⟨cA, fA⟩ := HI1.out.ah.cell ha
            obtain ⟨pv, cv, hvs, hlv⟩ := own_form hrow
            rw [hvs] at cA hrow
            have ce2 : wr.cell? ⟨g4, j, none⟩ = some (.int .i64 (a : Nat)) := ce
            have l2 : wr.cell? ⟨lb, 2, none⟩ = some (.slice (some ⟨ab, 0, none⟩) n n) := by simp [World.cell?, HI1.out.lk.look]
            have hlb : lb < wr.heap.size := (Array.getElem?_eq_some_iff.1 HI1.out.lk.look).1
            have hab : ab < wr.heap.size := HI1.out.ah.lt
            have HROW := Lib.hid hrow
            have HVS := Lib.hid hvs
            have HBZ2 : Hid (B ≤ wr.heap.size ∧ lb < B ∧ ab < B ∧ ab ≠ lb) := Lib.hid (by have := HI1.out.old; have := HI1.out.ne; omega)
            clear hs hc1 hc2 ce hv4 hrow hvs q0
            go_upto_region 10 with (fail)
            obtain ⟨i0, hi, hz0, hz1, hz2⟩ := info_parts info_int
            have HI := Lib.hid hi
            have HBD : Hid (Below wr.heap.size wr ((World.drew wr).alloc (.cells #[.int .i64 (k : Int)] 3))) := Lib.hid (((Below.refl _ wr).drew).alloc (Nat.le_refl _) _)
            have HV3 := Lib.hid (own_below HROW.out HBD.out)
            have HNW := Lib.hid (news_one (w := World.drew wr) (x := (k : Int)) (H := (World.drew wr).heap.size) (t := 3) rfl)
            have HBS : Hid (B ≤ ((World.drew wr).alloc (.cells #[.int .i64 (k : Int)] 3)).heap.size) := Lib.hid (by have := HBD.out.size; have := HBZ2.out; omega)
            have HCE : Hid (∀ w7 : World, ((World.drew wr).alloc (.cells #[.int .i64 (k : Int)] 3)).grownBy w7 (Value.slice pv (A' a).length cv).ownBlock → w7.cell? ⟨lb, 2, none⟩ = some (.slice (some ⟨ab, 0, none⟩) n n) ∧ w7.cell? ⟨ab, a, none⟩ = some (.slice pv (A' a).length cv) ∧ w7.frozen? ⟨ab, a, none⟩ = false) := Lib.hid (fun w7 h6 => by
              have hq : ∀ q, (Value.slice pv (A' a).length cv).ownBlock = some q → B ≤ q := fun q hq => (HROW.out.lt q hq).1
              have e1 := cell_more HBD.out h6 (p := ⟨lb, 2, none⟩) hlb (fun e => absurd (hq _ e) (by show ¬ B ≤ lb; have := HBZ2.out; omega))
              have e2 := cell_more HBD.out h6 (p := ⟨ab, a, none⟩) hab (fun e => absurd (hq _ e) (by show ¬ B ≤ ab; have := HBZ2.out; omega))
              exact ⟨e1.1.trans l2, e2.1.trans cA, e2.2.trans fA⟩)
            clear hi
            refine wp_onlyN ?_
            go_region_law (
              (go_loud (refine step_append_lies _ (by rfl) _ _ 22 (by rfl) B 3 i0 _ 1 8 Tryd.underlying22 HI.out hz0 hz1 hz2 rfl (by omega) _ (A' a).length _ (by rfl) HV3.out ⟨(World.drew wr).heap.size, 0, none⟩ 1 1 [.int .i64 (k : Int)] (by rfl) rfl HNW.out (by simp [Value.oneCell']) (by omega) (by unfold maxLen; have := HAL.out; omega) (by have := HAL.out; omega) HBS.out _ rfl ?_)
               intro g5 c5 w7 h5 h6 h7 h8
               have H5 := Lib.hid h5
               have H6 := Lib.hid h6
               have H7 := Lib.hid h7
               obtain ⟨l2, cA, fA⟩ := HCE.out w7 h6
               clear h5 h6 h7 h8))
            all_goals
              dsimp only [onlyN]
              go_wp2
              exact ⟨⟨j + 1, _, _, by omega, by go_num, Lib.hid (HI1.out.more ha HBD.out H5.out (by rw [HVS.out]; exact H6.out) (by rw [HVS.out]; exact H7.out)), HA2⟩, by simp [intOf]; omega⟩
          · have hjm2 : j = m := by omega
            subst hjm2
            have j5 : ¬ ((j : Int) < j) := by omega
            have HUP : Hid (AhUpto x (k + 1) A') := Lib.hid (by
              have h := HA1.out
              rw [HM.out] at h
              exact h.done HAA.out HT.out HNB.out)
            have HLL2 : Hid ((∀ b t', b < k + 1 → x.blocks[b]? = some t' → (fun b => if b = k then lookB t else L b) b = lookB t') ∧ (∀ b, k + 1 ≤ b → (fun b => if b = k then lookB t else L b) b = look0) ∧ ∀ b, ((fun b => if b = k then lookB t else L b) b).Lt) := Lib.hid ⟨fun b t' hb hbt => by
                by_cases e : b = k
                · subst e
                  rw [HT.out] at hbt
                  injection hbt with hbt
                  simp only [if_true]; rw [hbt]
                · simp only [if_neg e]; exact HLL.out.1 b t' (by omega) hbt, fun b hb => by
                have e : b ≠ k := by omega
                simp only [if_neg e]; exact HLL.out.2.1 b (by omega), fun b => by
                by_cases e : b = k
                · simp only [if_pos e]; exact lookB_lt t
                · simp only [if_neg e]; exact HLL.out.2.2 b⟩
            clear HLL HAA HNS HBT HNB
            go_wp2
            exact ⟨⟨k + 1, _, A', vs', by omega, by go_num, Lib.hid HI1.out.lk, Lib.hid HI1.out.ah, Lib.hid HI1.out.box, Lib.hid HI1.out.below, Lib.hid (by have := HI1.out.old; omega), HLL2, HUP⟩, by simp [intOf]; omega⟩
      · obtain rfl : k = n := by omega
        have hki : ¬ ((k : Int) < k) := by omega
        go_wp2
        go_ret
        refine ⟨lb, ub, db, ab, L, A, rfl, ?_⟩
        exact ⟨HL.out, HA.out.ahead, HW.out, HAA.out, fun b t ht => HLL.out.1 b t (by have := (List.getElem?_eq_some_iff.1 ht).1; have := HN.out; omega) ht, HLL.out.2.1, HLL.out.2.2⟩
end Go.Proofs.YtcijaaiopfbffaaDoor.Live
