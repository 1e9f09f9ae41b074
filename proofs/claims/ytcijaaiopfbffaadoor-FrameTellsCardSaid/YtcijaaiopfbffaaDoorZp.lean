/- What look.block does, walked. -/
import Derived.Test.YtcijaaiopfbffaaDoorZo
import Derived.Test.YtcijaaiopfbffaaDoorZn
namespace Go.Proofs.YtcijaaiopfbffaaDoor.Live
open Go.RowKit Go.Proofs.YtcijaaiopfbffaaDoor.Graph Go.Shelf

attribute [local go_sem] Oper.semAt_some
/-- The end of a statement that can but go on. -/
def onlyN (Q : Exit → Act → World → Prop) : Exit → Act → World → Prop
  | .normal, a, w => Q .normal a w
  | _, _, _ => False
theorem wp_onlyN {P : Program} {c : Code} {Q : Exit → Act → World → Prop} {a : Act} {w : World} (h : c.wp P (onlyN Q) a w) : c.wp P Q a w :=
  Code.wp_mono (fun e a w h => by cases e <;> first | exact h | exact h.elim) h
/-- A temp's place, and what is there. -/
abbrev TV (w0 : World) := {z : Addr × Int // w0.cell? z.1 = some (.int .i64 z.2) ∧ z.1.block < w0.heap.size ∧ 0 ≤ z.2 ∧ z.2 < 8000}
def valsT {w0 : World} (pre : List (TV w0)) : List Int := pre.map fun z => z.val.2
theorem vals_more {w0 : World} (pre : List (TV w0)) (z : TV w0) (M : Look) : (valsT (pre ++ [z])).foldl Look.use M = ((valsT pre).foldl Look.use M).use z.val.2 := by
  unfold valsT
  rw [List.map_append, List.foldl_append]; rfl
theorem take_ins {l : List PIns} {k : Nat} {y : PIns} (h : l[k]? = some y) (M : Look) : (l.take (k + 1)).foldl Look.ins M = ((l.take k).foldl Look.ins M).ins y := by
  rw [List.take_add_one, h, List.foldl_append]; rfl
theorem blk_ins {m : Int} {x : PBlk} (hf : blkFit m x = true) {k : Nat} {y : PIns} (hy : x.code[k]? = some y) : insFit m y = true := by
  unfold blkFit at hf
  rw [Bool.and_eq_true] at hf
  exact List.all_eq_true.1 hf.1 y (List.mem_of_getElem? hy)
theorem ins_temps {m : Int} (hm : m ≤ 8000) {y : PIns} (hf : insFit m y = true) : (∀ s ∈ usesI y, 0 ≤ s ∧ s < 8000) ∧ (setsT y = true → 0 ≤ y.d ∧ y.d < 8000) := by
  unfold insFit at hf
  simp only [Bool.and_eq_true, Bool.or_eq_true, Bool.not_eq_true'] at hf
  refine ⟨fun s hs => ?_, fun h => ?_⟩
  · have := List.all_eq_true.1 hf.2 s hs
    unfold belowB at this; simp at this; omega
  · rcases hf.1.2 with h2 | h2
    · rw [h] at h2; cases h2
    · unfold belowB at h2; simp at h2; omega
theorem end_temps {m : Int} (hm : m ≤ 8000) {x : PBlk} (hf : blkFit m x = true) : ∀ s ∈ usesE x.fin, 0 ≤ s ∧ s < 8000 := by
  unfold blkFit endFit at hf
  simp only [Bool.and_eq_true] at hf
  intro s hs
  have := List.all_eq_true.1 hf.2.2 s hs
  unfold belowB at this; simp at this; omega
set_option maxHeartbeats 8000000 in
set_option maxRecDepth 100000 in
theorem block_any {w0 w : World} {lb ub db n : Nat} {va : Value} {L : Nat → Look} {b : Nat} (x : PBlk) (m : Int) (hm : m ≤ 8000) (hf : blkFit m x = true) (bb ob : Nat) (vk vc vt : Value) (hR : BlkR w0 bb ob x vk vc vt) (hbb : bb < w0.heap.size) (hw0 : Below w0.heap.size w0 w)
    (h : LookSt lb ub db n va L w) (hu : w0.heap.size ≤ ub) (hd : w0.heap.size ≤ db) (hl : ∀ k, (L k).Lt) (hb : b < n) (hn : n ≤ 20000) :
    Calls Tryd.prog 54 #[.pointer (some ⟨lb, 0, none⟩), .int .i64 (b : Nat), .pointer (some ⟨bb, ob, none⟩)] w (LookPost lb ub db n va L b ((x.code.foldl Look.ins (L b)).fin x.fin) w) := by
  have HC := Lib.hid hR.code
  have HE := Lib.hid hR.fin
  have HBK := Lib.hid hR.ck
  obtain ⟨cp, cc, rfl⟩ := hR.code.form
  obtain ⟨mm, hmm⟩ : ∃ mm, mm = x.code.length := ⟨_, rfl⟩
  rw [← hmm] at HC HBK
  have HM := Lib.hid hmm
  have HLT := Lib.hid hl
  have HF := Lib.hid hf
  have c0 : w.cell? ⟨bb, ob, none⟩ = some (.slice cp mm cc) := (hw0.cell (p := ⟨bb, ob, none⟩) hbb).trans HBK.out
  have HW0 := Lib.hid hw0
  have hbw2 : bb < w.heap.size := Nat.lt_of_lt_of_le hbb hw0.size
  have HOLD := Lib.hid (And.intro hu hd)
  have hold : lb < w.heap.size ∧ ub < w.heap.size ∧ db < w.heap.size := ⟨(Array.getElem?_eq_some_iff.1 h.look).1, h.us.lt, h.ds.lt⟩
  have HBF : Hid (BL w lb ub db n va L b ((x.code.take 0).foldl Look.ins (L b)) [] ((w.alloc (.cells #[.pointer (some ⟨lb, 0, none⟩)] 66)).alloc (.cells #[.int .i64 (b : Nat)] 3))) := Lib.hid
    ⟨((h.same (b := b) (M := (x.code.take 0).foldl Look.ins (L b)) rfl).keep (Graph.below_alloc w _)).keep (Graph.below_alloc _ _), (Turn.of_below (Graph.below_alloc w _)).trans (Turn.of_below (Graph.below_alloc _ _)),
      (Boxed.new w 66 _).alloc _, by have := Boxed.new (w.alloc (.cells #[.pointer (some ⟨lb, 0, none⟩)] 66)) 3 (.int .i64 (b : Nat)); rwa [World.size_alloc] at this, Marks.nil _ _, hold⟩
  clear hR hmm hl hf hw0 hu hd hold h
  refine callsIn_wide.1 (callsIn_of_wp_marks (n := 9) Tryd.func54 rfl trivial ?_ rfl)
  refine wpIn_wide.2 ?_
  simp only [Tryd.ntmps54, List.size_toArray, List.length_cons, List.length_nil, Nat.reduceAdd, Nat.reduceSub, Array.replicate_succ, Array.replicate_zero, List.push_toArray, List.append_toArray, List.nil_append, List.cons_append]
  go_wp2
  refine wp_loop (fun a W => ∃ (k : Nat) (ds : List Nat) (u6 u7 u8 u16 u17 u18 u19 u20 u21 u22 u23 u24 u25 u26 u27 u28 u29 u30 u31 u32 u33 u34 u35 u36 u37 u38 u39 u40 u41 u42 u43 u44 u45 u46 : Value), a = ⟨#[.pointer (some ⟨lb, 0, none⟩), .int .i64 (b : Nat), .pointer (some ⟨bb, ob, none⟩), .pointer (some ⟨w.heap.size, 0, none⟩), .pointer (some ⟨w.heap.size + 1, 0, none⟩), undef, u6, u7, u8, undef, .pointer (some ⟨bb, ob, none⟩), .pointer (some ⟨bb, ob, none⟩), .pointer (some ⟨bb, ob, none⟩), .slice cp mm cc, .int .i64 (mm : Nat), .int .i64 (k : Nat), u16, u17, u18, u19, u20, u21, u22, u23, u24, u25, u26, u27, u28, u29, u30, u31, u32, u33, u34, u35, u36, u37, u38, u39, u40, u41, u42, u43, u44, u45, u46, undef, undef, undef, undef, undef, undef, undef, undef, undef, undef, undef], ds.map markD⟩ ∧ k ≤ mm ∧ Hid (BL w lb ub db n va L b ((x.code.take k).foldl Look.ins (L b)) ds W)) (fun a _ => mm - (intOf (a.tmps.getD 15 undef)).toNat) ?atStart ?round
  case atStart => exact ⟨0, [], undef, undef, undef, undef, undef, undef, undef, undef, undef, undef, undef, undef, undef, undef, undef, undef, undef, undef, undef, undef, undef, undef, undef, undef, undef, undef, undef, undef, undef, undef, undef, undef, undef, undef, rfl, Nat.zero_le _, HBF⟩
  case round =>
    rintro a wr ⟨k, ds, u6, u7, u8, u16, u17, u18, u19, u20, u21, u22, u23, u24, u25, u26, u27, u28, u29, u30, u31, u32, u33, u34, u35, u36, u37, u38, u39, u40, u41, u42, u43, u44, u45, u46, rfl, hk, HB⟩
    have HWR : Hid (Below w0.heap.size w0 wr) := Lib.hid (HB.out.turn.below HW0.out HOLD.out.1 HOLD.out.2 HW0.out.size)
    obtain ⟨M, hMd⟩ : ∃ M, M = (x.code.take k).foldl Look.ins (L b) := ⟨_, rfl⟩
    rw [← hMd] at HB
    have HML : Hid M.Lt := Lib.hid (by rw [hMd]; exact (HLT.out b).code)
    have HMD := Lib.hid hMd
    clear hMd
    have c0r := (HWR.out.cell (p := ⟨bb, ob, none⟩) hbb).trans HBK.out
    have hbr : bb < wr.heap.size := Nat.lt_of_lt_of_le hbb HWR.out.size
    by_cases hkm : k < mm
    · obtain ⟨gi, oi, ci, y, va2, vr, hcp, hy, hI, hgi, hcc⟩ := ins_at (v := .slice cp mm cc) (l := x.code) (by rw [HM.out] at HC ⊢; exact HC.out) (k := k) (by have := HM.out; omega)
      rw [← HM.out] at hcp hcc
      injection hcp with e1 _ e3
      subst e1 e3
      have hki : (k : Int) < mm := by omega
      have hk0 : (0 : Int) ≤ k := by omega
      have hcc2 : (mm : Int) ≤ cc := by omega
      have hcc3 : (cc : Int) ≤ 9223372036854775807 := by omega
      have HY := Lib.hid hy
      have HI := Lib.hid hI
      have HGI := Lib.hid hgi
      have HIT := Lib.hid (ins_temps hm (blk_ins HF.out hy))
      clear hI hgi hcc hy hkm
      go_wp2_with (go_at_call 67; refine (callsIn_wide.1 (used_in 0 _ _)).mono ?_; rintro e w1 ⟨rfl, rfl⟩)
      obtain ⟨p, c, ga, oa, hva, hpp, hcl, hargs⟩ := args_at HI.out.l.args
      have HVV : Hid (∀ z ∈ usedAt gi (oi + k * 8) ga oa y, w0.cell? z.1 = some (.int .i64 z.2) ∧ z.1.block < w0.heap.size ∧ 0 ≤ z.2 ∧ z.2 < 8000) := Lib.hid (fun z hz => ⟨(used_cells HI.out HGI.out hargs z hz).1, (used_cells HI.out HGI.out hargs z hz).2, HIT.out.1 z.2 (by rw [← usedAt_vals gi (oi + k * 8) ga oa y]; exact List.mem_map.2 ⟨z, hz, rfl⟩)⟩)
      obtain ⟨W0, hW0⟩ : ∃ W0, W0 = wr.alloc (.cells #[.pointer (some ⟨gi, oi + k * 8, none⟩)] 114) := ⟨_, rfl⟩
      have hbx : W0.heap[wr.heap.size]? = some (.cells #[.pointer (some ⟨gi, oi + k * 8, none⟩)] 114 (0, 0)) := by rw [hW0]; exact heap_new wr _
      have HB0 : Hid (BL w lb ub db n va L b M ds W0) := Lib.hid (by rw [hW0]; exact HB.out.keep (Graph.below_alloc wr _))
      have hb0 : Below w0.heap.size w0 W0 := by rw [hW0]; exact below_then HWR.out (Graph.below_alloc wr _)
      rw [← hW0]
      have hsz0 : wr.heap.size < W0.heap.size := (Array.getElem?_eq_some_iff.1 hbx).1
      have HBX := Lib.hid hbx
      have HP := Lib.hid (And.intro hpp hcl)
      have HVA := Lib.hid hva
      have HBZ := Lib.hid hb0
      have HOW : Hid (lb < W0.heap.size ∧ ub < W0.heap.size ∧ db < W0.heap.size) := Lib.hid (by have := HB.out.old; have := HB.out.turn.size; omega)
      have HNX : Hid (wr.heap.size ≠ ub ∧ wr.heap.size ≠ db) := Lib.hid (by have := HB.out.old; have := HB.out.turn.size; omega)
      clear hW0 hpp hcl hargs hva hbx
      refine (wpIn_wide (n := 9)).1 ?_
      refine wpIn_rangeFunc_ownH (F := Fence.wide) rfl (by decide) (gf := 80) (lb := #[.pointer (some ⟨wr.heap.size, 0, none⟩)]) rfl trivial (enters_of Tryd.func80 (by kernel_rfl) rfl)
        (used_stops (n := 8) (V := fun z => w0.cell? z.1 = some (.int .i64 z.2) ∧ z.1.block < w0.heap.size ∧ 0 ≤ z.2 ∧ z.2 < 8000) (n₀ := w0.heap.size) (w0 := w0) (w := W0) (by decide) HBX.out hb0 HI.out HGI.out (Nat.le_refl _) HVV.out c p HVA.out HP.out.1 HP.out.2)
        KeepB.trans (keepB_b hb0.size hsz0) (Below.refl _ _) (fun _ => rfl)
        (fun (pre : List (TV w0)) W => LookSt lb ub db n va (fun k => if k = b then (valsT pre).foldl Look.use M else L k) W ∧ Turn ub db W0 W)
        (fun _ _ _ => False)
        (own_look (fun (pre : List (TV w0)) => (valsT pre).foldl Look.use M) HOW.out.1 HOW.out.2.1 HOW.out.2.2 (Nat.le_refl _))
        (fun cd => ownFrom_pure _ _)
        ⟨HB0.out.lk, Turn.refl _ _ _⟩
        (fun z a' _ => a' = ({ tmps := #[.pointer (some ⟨lb, 0, none⟩), .int .i64 (b : Nat), .pointer (some ⟨bb, ob, none⟩), .pointer (some ⟨w.heap.size, 0, none⟩), .pointer (some ⟨w.heap.size + 1, 0, none⟩), undef, .int .i64 (k : Nat), .pointer (some ⟨gi, oi + k * 8, none⟩), .pointer (some z.val.1), undef, .pointer (some ⟨bb, ob, none⟩), .pointer (some ⟨bb, ob, none⟩), .pointer (some ⟨bb, ob, none⟩), .slice (some ⟨gi, oi, none⟩) mm cc, .int .i64 (mm : Nat), .int .i64 (k : Nat), .bool true, .int .i64 (k : Nat), .pointer (some ⟨bb, ob, none⟩), .pointer (some ⟨bb, ob, none⟩), .pointer (some ⟨bb, ob, none⟩), .slice (some ⟨gi, oi, none⟩) mm cc, .int .i64 (k : Nat), .pointer (some ⟨gi, oi + k * 8, none⟩), .pointer (some ⟨gi, oi + k * 8, none⟩), .func (.func 80) #[] #[.pointer (some ⟨wr.heap.size, 0, none⟩)], .pointer (some z.val.1), u27, u28, u29, u30, u31, u32, u33, u34, u35, u36, u37, u38, u39, u40, u41, u42, u43, u44, u45, u46, undef, undef, undef, undef, undef, undef, undef, undef, undef, undef, undef], defers := [] } : Act))
        (fun _ _ _ _ _ _ hs _ _ => hs)
        ?assign ?body ?done ?stop
      case assign =>
        rintro l pre z W K hi hK
        gi_wp2
        exact hK _ _ (KeepsFrom.refl _ _) (KeepB.refl _ _ _) hi rfl
      case body =>
        rintro l pre z a' W hl ⟨r, hr⟩ ⟨hA, hT⟩ rfl hlen
        dsimp only
        have hbw : Below w0.heap.size w0 W := hT.below HBZ.out HOLD.out.1 HOLD.out.2 HBZ.out.size
        have hBW := HB0.out.step hA hT
        have cz := (hbw.cell (p := z.val.1) z.property.2.1).trans z.property.1
        have cbl := Boxed.cell hBW.bl
        have cbb := Boxed.cell hBW.bb
        have hmx : Tryd.prog.follows .mixedOrders = true := by kernel_rfl
        have hw : ∀ f : FuncId, (Fence.wide.inRound l).fn f := fun _ => trivial
        have HUSE := Lib.hid (fun (V : World) (hV : Below W.heap.size W V) => CallsIn.inRound l (callsIn_wide (n := 6) |>.2 (use_at (hA.keep hV) HML.out.uses HLT.out hb hn z.property.2.2)))
        have HT := Lib.hid hT
        have HZ : Hid (w0.heap.size ≤ W.heap.size ∧ wr.heap.size < W.heap.size) := Lib.hid (by have := hT.size; have := hbw.size; omega)
        have HFN : Hid (∀ W' : World, LookSt lb ub db n va (fun k => if k = b then ((valsT pre).foldl Look.use M).use z.val.2 else L k) W' → Turn ub db W W' → KeepsFrom W0.heap.size W W' ∧ KeepB w0.heap.size wr.heap.size W W' ∧ LookSt lb ub db n va (fun k => if k = b then (valsT (pre ++ [z])).foldl Look.use M else L k) W' ∧ Turn ub db W0 W') := Lib.hid (fun W' h1 h2 => ⟨turn_keeps h2 HOW.out.2.1 HOW.out.2.2, turn_keepB h2 HOLD.out.1 HOLD.out.2 HZ.out.1 HZ.out.2 HNX.out.1 HNX.out.2, by rw [vals_more]; exact h1, HT.out.trans h2⟩)
        clear hA hT hbw hBW hr HZ
        gi_wp2
        gi_region_with_o (gi_at_call 73; refine (HUSE.out _ (by first | exact Below.refl _ _ | exact (Below.refl _ _).drew | exact Graph.below_drewN _ _)).mono ?_; rintro e w' ⟨rfl, h1, h2⟩; have H1 := Lib.hid h1; have H2 := Lib.hid h2; clear h1 h2)
        all_goals gi_wp2
        all_goals exact HFN.out _ H1.out ((Turn.of_below (Below.refl _ _).drew).trans H2.out)
      case done =>
        rintro D ys W hD hS ⟨hA, hT⟩ hDe
        have hv : valsT ys = usesI y := by
          rw [← usedAt_vals gi (oi + k * 8) ga oa y, ← hS, List.map_map]; rfl
        rw [hv] at hA
        obtain ⟨M1, hM1⟩ : ∃ M1, M1 = (usesI y).foldl Look.use M := ⟨_, rfl⟩
        rw [← hM1] at hA
        have HB1 : Hid (BL w lb ub db n va L b M1 (D :: ds) W) := Lib.hid (HB0.out.cons hA hT hD hDe)
        have HM1L : Hid M1.Lt := Lib.hid (by rw [hM1]; exact HML.out.uses)
        have HW1 : Hid (Below w0.heap.size w0 W) := Lib.hid (hT.below HBZ.out HOLD.out.1 HOLD.out.2 HBZ.out.size)
        have hIr := HI.out.below HGI.out HW1.out
        have HSETS := Lib.hid (sets_any y gi (oi + k * 8) va2 vr W hIr)
        have cyd := hIr.d
        have cbl := Boxed.cell HB1.out.bl
        have cbb := Boxed.cell HB1.out.bb
        have c1 : W.cell? ⟨lb, 1, none⟩ = some (.slice (some ⟨db, 0, none⟩) n n) := by simp [World.cell?, HB1.out.lk.look]
        have HNEXT : Hid (∀ M2, M2 = M1.set y → (x.code.take (k + 1)).foldl Look.ins (L b) = M2) := Lib.hid (fun M2 e => by rw [take_ins HY.out, ← HMD.out, e, hM1]; rfl)
        have hbi : (b : Int) < n := by omega
        have hb0i : (0 : Int) ≤ b := by omega
        have hni : (n : Int) ≤ 20000 := by omega
        clear hA hT hDe hS hv hM1 hIr
        cases hq : setsT y with
        | false =>
          rw [hq] at HSETS
          have HST : Hid ((x.code.take (k + 1)).foldl Look.ins (L b) = M1) := Lib.hid (HNEXT.out M1 (by unfold Look.set; rw [hq]; rfl))
          clear hq
          go_wp2_with (go_at_call 62; refine HSETS.out.mono ?_; rintro e w2 ⟨rfl, rfl⟩)
          exact ⟨⟨k + 1, D :: ds, _, _, _, _, _, _, _, _, _, _, _, _, _, _, _, _, _, _, _, _, _, _, _, _, _, _, _, _, _, _, _, _, _, _, rfl, by omega, by rw [HST.out]; exact HB1⟩, by simp [intOf]; omega⟩
        | true =>
          rw [hq] at HSETS
          have HST : Hid ((x.code.take (k + 1)).foldl Look.ins (L b) = { M1 with d := addW M1.d y.d.toNat }) := Lib.hid (HNEXT.out _ (by unfold Look.set; rw [hq]; rfl))
          have HADD := Lib.hid (fun (V : World) (hV : Below W.heap.size W V) => add_at (HB1.out.lk.keep hV) HM1L.out hb (HIT.out.2 hq))
          clear hq
          go_upto_region 9 with (go_at_call 62; refine HSETS.out.mono ?_; rintro e w2 ⟨rfl, rfl⟩)
          refine wp_onlyN ?_
          go_region_law (first | ((try go_simp); go_at_call 74; refine (HADD.out _ (Graph.below_drewN _ _)).mono ?_; rintro e w3 ⟨rfl, h1, h2⟩; have H1 := Lib.hid h1; have H2 := Lib.hid ((Turn.of_below (Graph.below_drewN _ _)).trans h2); clear h1 h2))
          all_goals dsimp only [onlyN]
          all_goals go_wp2
          all_goals exact ⟨⟨k + 1, D :: ds, _, _, _, _, _, _, _, _, _, _, _, _, _, _, _, _, _, _, _, _, _, _, _, _, _, _, _, _, _, _, _, _, _, _, rfl, by omega, by rw [HST.out]; exact Lib.hid (HB1.out.step H1.out H2.out)⟩, by simp [intOf]; omega⟩
      case stop =>
        rintro D c pre W hD hSp h hDe
        exact h.elim
    · have hkk : k = mm := by omega
      subst hkk
      have hki : ¬ ((k : Int) < k) := by omega
      have HMX : Hid (M = x.code.foldl Look.ins (L b)) := Lib.hid (by rw [HMD.out, HM.out, List.take_length])
      have HTE := Lib.hid (end_temps hm HF.out)
      clear hkm
      go_wp2_with (go_at_call 68; refine (callsIn_wide.1 (usedE_in 0 _ _)).mono ?_; rintro e w1 ⟨rfl, rfl⟩)
      have HVV : Hid (∀ z ∈ usedEAt bb (ob + 1) x.fin, w0.cell? z.1 = some (.int .i64 z.2) ∧ z.1.block < w0.heap.size ∧ 0 ≤ z.2 ∧ z.2 < 8000) := Lib.hid (fun z hz => ⟨(usedE_cells HE.out hbb z hz).1, (usedE_cells HE.out hbb z hz).2, HTE.out z.2 (by rw [← usedEAt_vals bb (ob + 1) x.fin]; exact List.mem_map.2 ⟨z, hz, rfl⟩)⟩)
      obtain ⟨W0, hW0⟩ : ∃ W0, W0 = wr.alloc (.cells #[.pointer (some ⟨bb, ob + 1, none⟩)] 123) := ⟨_, rfl⟩
      have hbx : W0.heap[wr.heap.size]? = some (.cells #[.pointer (some ⟨bb, ob + 1, none⟩)] 123 (0, 0)) := by rw [hW0]; exact heap_new wr _
      have HB0 : Hid (BL w lb ub db n va L b M ds W0) := Lib.hid (by rw [hW0]; exact HB.out.keep (Graph.below_alloc wr _))
      have hb0 : Below w0.heap.size w0 W0 := by rw [hW0]; exact below_then HWR.out (Graph.below_alloc wr _)
      rw [← hW0]
      have hsz0 : wr.heap.size < W0.heap.size := (Array.getElem?_eq_some_iff.1 hbx).1
      have HBX := Lib.hid hbx
      have HBZ := Lib.hid hb0
      have HOW : Hid (lb < W0.heap.size ∧ ub < W0.heap.size ∧ db < W0.heap.size) := Lib.hid (by have := HB.out.old; have := HB.out.turn.size; omega)
      have HNX : Hid (wr.heap.size ≠ ub ∧ wr.heap.size ≠ db) := Lib.hid (by have := HB.out.old; have := HB.out.turn.size; omega)
      clear hW0 hbx
      refine (wpIn_wide (n := 9)).1 ?_
      refine wpIn_rangeFunc_ownH (F := Fence.wide) rfl (by decide) (gf := 83) (lb := #[.pointer (some ⟨wr.heap.size, 0, none⟩)]) rfl trivial (enters_of Tryd.func83 (by kernel_rfl) rfl)
        (end_stops (n := 8) (V := fun z => w0.cell? z.1 = some (.int .i64 z.2) ∧ z.1.block < w0.heap.size ∧ 0 ≤ z.2 ∧ z.2 < 8000) (n₀ := w0.heap.size) (w0 := w0) (w := W0) (by decide) HBX.out rfl hb0 HE.out hbb HVV.out)
        KeepB.trans (keepB_b hb0.size hsz0) (Below.refl _ _) (fun _ => rfl)
        (fun (pre : List (TV w0)) W => LookSt lb ub db n va (fun k => if k = b then (valsT pre).foldl Look.use M else L k) W ∧ Turn ub db W0 W)
        (fun _ _ _ => False)
        (own_look (fun (pre : List (TV w0)) => (valsT pre).foldl Look.use M) HOW.out.1 HOW.out.2.1 HOW.out.2.2 (Nat.le_refl _))
        (fun cd => ownFrom_pure _ _)
        ⟨HB0.out.lk, Turn.refl _ _ _⟩
        (fun z a' _ => a' = ({ tmps := #[.pointer (some ⟨lb, 0, none⟩), .int .i64 (b : Nat), .pointer (some ⟨bb, ob, none⟩), .pointer (some ⟨w.heap.size, 0, none⟩), .pointer (some ⟨w.heap.size + 1, 0, none⟩), undef, u6, u7, u8, .pointer (some z.val.1), .pointer (some ⟨bb, ob, none⟩), .pointer (some ⟨bb, ob, none⟩), .pointer (some ⟨bb, ob, none⟩), .slice cp k cc, .int .i64 (k : Nat), .int .i64 (k : Nat), .bool false, u17, u18, u19, u20, u21, u22, u23, u24, u25, u26, u27, u28, u29, u30, u31, u32, u33, u34, u35, u36, u37, u38, u39, u40, u41, u42, u43, u44, u45, u46, .pointer (some ⟨bb, ob, none⟩), .pointer (some ⟨bb, ob, none⟩), .pointer (some ⟨bb, ob + 1, none⟩), .func (.func 83) #[] #[.pointer (some ⟨wr.heap.size, 0, none⟩)], .pointer (some z.val.1), undef, undef, undef, undef, undef, undef], defers := [] } : Act))
        (fun _ _ _ _ _ _ hs _ _ => hs)
        ?assign ?body ?done ?stop
      case assign =>
        rintro l pre z W K hi hK
        gi_wp2
        exact hK _ _ (KeepsFrom.refl _ _) (KeepB.refl _ _ _) hi rfl
      case body =>
        rintro l pre z a' W hl ⟨r, hr⟩ ⟨hA, hT⟩ rfl hlen
        dsimp only
        have hbw : Below w0.heap.size w0 W := hT.below HBZ.out HOLD.out.1 HOLD.out.2 HBZ.out.size
        have hBW := HB0.out.step hA hT
        have cz := (hbw.cell (p := z.val.1) z.property.2.1).trans z.property.1
        have cbl := Boxed.cell hBW.bl
        have cbb := Boxed.cell hBW.bb
        have hmx : Tryd.prog.follows .mixedOrders = true := by kernel_rfl
        have hw : ∀ f : FuncId, (Fence.wide.inRound l).fn f := fun _ => trivial
        have HUSE := Lib.hid (fun (V : World) (hV : Below W.heap.size W V) => CallsIn.inRound l (callsIn_wide (n := 6) |>.2 (use_at (hA.keep hV) HML.out.uses HLT.out hb hn z.property.2.2)))
        have HT := Lib.hid hT
        have HZ : Hid (w0.heap.size ≤ W.heap.size ∧ wr.heap.size < W.heap.size) := Lib.hid (by have := hT.size; have := hbw.size; omega)
        have HFN : Hid (∀ W' : World, LookSt lb ub db n va (fun k => if k = b then ((valsT pre).foldl Look.use M).use z.val.2 else L k) W' → Turn ub db W W' → KeepsFrom W0.heap.size W W' ∧ KeepB w0.heap.size wr.heap.size W W' ∧ LookSt lb ub db n va (fun k => if k = b then (valsT (pre ++ [z])).foldl Look.use M else L k) W' ∧ Turn ub db W0 W') := Lib.hid (fun W' h1 h2 => ⟨turn_keeps h2 HOW.out.2.1 HOW.out.2.2, turn_keepB h2 HOLD.out.1 HOLD.out.2 HZ.out.1 HZ.out.2 HNX.out.1 HNX.out.2, by rw [vals_more]; exact h1, HT.out.trans h2⟩)
        clear hA hT hbw hBW hr HZ
        gi_wp2
        gi_region_with_o (gi_at_call 73; refine (HUSE.out _ (by first | exact Below.refl _ _ | exact (Below.refl _ _).drew | exact Graph.below_drewN _ _)).mono ?_; rintro e w' ⟨rfl, h1, h2⟩; have H1 := Lib.hid h1; have H2 := Lib.hid h2; clear h1 h2)
        all_goals gi_wp2
        all_goals exact HFN.out _ H1.out ((Turn.of_below (Below.refl _ _).drew).trans H2.out)
      case done =>
        rintro D ys W hD hS ⟨hA, hT⟩ hDe
        have hv : valsT ys = usesE x.fin := by
          rw [← usedEAt_vals bb (ob + 1) x.fin, ← hS, List.map_map]; rfl
        rw [hv, HMX.out] at hA
        have HB1 : Hid (BL w lb ub db n va L b ((x.code.foldl Look.ins (L b)).fin x.fin) (D :: ds) W) := Lib.hid (HB0.out.cons hA hT hD hDe)
        clear hA hT hDe hS hv
        go_wp2
        exact bl_leaves HB1.out
      case stop =>
        rintro D c pre W hD hSp h hDe
        exact h.elim
end Go.Proofs.YtcijaaiopfbffaaDoor.Live
