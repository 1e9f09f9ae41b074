/- The document's Weight of a frame. No condition but sizes. -/
import Derived.Test.YtcijaaiopfbffaaDoorGD
import Derived.Test.YtcijaaiopfbffaaDoorFC
import Derived.BigQuiet
namespace Go.Proofs.YtcijaaiopfbffaaDoor.Live
open Go.RowKit Go.Proofs.YtcijaaiopfbffaaDoor.Graph Go.Shelf

theorem weight19_no (x : PGr) (vp va vb : Value) (w : World) (h : GrL w vp va vb x) (hs : SmG x) (hff : frameFit x = false) :
    Calls Tryd.prog 25 #[grV x vp va vb] w fun e w' => e = .returned (.tuple #[.int .i64 0, .int .i64 1]) ∧ Below w.heap.size w w' := by
  obtain ⟨ap, ac, rfl⟩ := h.arrays.form
  obtain ⟨bp, bc, rfl⟩ := h.blocks.form
  obtain ⟨pp, pc, rfl⟩ := h.params.form
  have HLY := Lib.hid (fun (W : World) (hW : Below w.heap.size w W) => lay19_no x _ _ _ W (h.below hW) hs hff)
  unfold grV layNo at *
  clear h hs hff
  go_enter Tryd.func25, Tryd.ntmps25
  go_wp2_with (
    go_at_call 23
    refine (HLY.out _ (Graph.below_alloc w _)).mono ?_
    rintro e w5 ⟨rfl, hb5⟩
    have HB5 := Lib.hid hb5
    clear hb5)
  go_ret2
  exact ⟨rfl, below_then (Graph.below_alloc w _) (below_then HB5.out (Graph.below_alloc w5 _))⟩
theorem weight19_ok (x : PGr) (vp va vb : Value) (w : World) (h : GrL w vp va vb x) (hs : SmG x) (hff : frameFit x = true) :
    Calls Tryd.prog 25 #[grV x vp va vb] w fun e w' => e = .returned (.tuple #[.int .i64 (4 * wordsN x), .int .i64 0]) ∧ Below w.heap.size w w' := by
  obtain ⟨ap, ac, rfl⟩ := h.arrays.form
  obtain ⟨bp, bc, rfl⟩ := h.blocks.form
  obtain ⟨pp, pc, rfl⟩ := h.params.form
  have HLY := Lib.hid (fun (W : World) (hW : Below w.heap.size w W) => lay19_ok x _ _ _ W (h.below hW) hs hff)
  obtain ⟨hw0, hw1⟩ := words_range hff
  unfold LayPost at HLY
  unfold grV at *
  generalize wordsN x = N at *
  generalize argsOf x = A at *
  generalize slotsOf x = S at *
  generalize localW x.arrays = L at *
  clear h hs hff
  go_enter Tryd.func25, Tryd.ntmps25
  go_wp2_with (
    go_at_call 23
    refine (HLY.out _ (Graph.below_alloc w _)).mono ?_
    rintro e w5 ⟨v, rfl, hv, hb5⟩
    obtain ⟨pv, cv, rfl, _⟩ := own_form hv
    have HB5 := Lib.hid hb5
    clear hb5 hv)
  go_ret2
  exact ⟨rfl, below_then (Graph.below_alloc w _) (below_then HB5.out (Graph.below_alloc w5 _))⟩
end Go.Proofs.YtcijaaiopfbffaaDoor.Live
namespace Go.Proofs.YtcijaaiopfbffaaDoor.Live
open Go.RowKit Go.Proofs.YtcijaaiopfbffaaDoor.Graph Go.Shelf

theorem two_boxes {w W : World} {a b : Array Value} {t : TypeId} (hW : Below ((w.alloc (.cells a t)).alloc (.cells b t)).heap.size ((w.alloc (.cells a t)).alloc (.cells b t)) W) : W.heap[w.heap.size]? = some (.cells a t (0, 0)) ∧ W.heap[w.heap.size + 1]? = some (.cells b t (0, 0)) := by
  refine ⟨?_, ?_⟩
  · rw [hW.block _ (by simp; omega), Below.heap_alloc _ _ _ (by simp)]; exact heap_new w _
  · rw [hW.block _ (by simp)]; have := heap_new (w.alloc (.cells a t)) (.cells b t); simpa using this
theorem sl_len10 {w : World} {sz : Nat} {v : Value} {n : Nat} {P : Nat → Nat → Nat → Prop} (h : SlR w sz v n P) : n ≤ 9223372036854775807 := by
  rcases h with ⟨h0, _⟩ | ⟨_, _, _, _, _, hc, _⟩
  · omega
  · omega
set_option maxHeartbeats 8000000 in
set_option maxRecDepth 100000 in
theorem sameIns10_any (x : PIns) (va vr va2 vr2 : Value) (w : World) (h : InsL w va vr x) (h2 : InsL w va2 vr2 x) :
    Calls Tryd.prog 65 #[insV x va vr, insV x va2 vr2] w (Is (.bool true) w) := by
  have HA := Lib.hid (fun (W : World) (hW : Below w.heap.size w W) => sameInts_true x.args va va2 W (h.args.below hW) (h2.args.below hW))
  have HR := Lib.hid (fun (W : World) (hW : Below w.heap.size w W) => sameInts_true x.arrs vr vr2 W (h.arrs.below hW) (h2.arrs.below hW))
  obtain ⟨pa, ca, rfl⟩ := h.args.form
  obtain ⟨pr, cr, rfl⟩ := h.arrs.form
  obtain ⟨pb, cb, rfl⟩ := h2.args.form
  obtain ⟨ps, cs, rfl⟩ := h2.arrs.form
  unfold insV
  have HX := Lib.hid (fun (W : World) hW => two_boxes (w := w) (W := W) (a := #[.int .i64 x.op, .int .i64 x.d, .int .i64 x.a, .int .i64 x.b, .int .i64 x.f, .int .u32 x.n, .slice pa x.args.length ca, .slice pr x.arrs.length cr]) (b := #[.int .i64 x.op, .int .i64 x.d, .int .i64 x.a, .int .i64 x.b, .int .i64 x.f, .int .u32 x.n, .slice pb x.args.length cb, .slice ps x.arrs.length cs]) (t := 77) hW)
  have HB2 := Lib.hid (below2 w (.cells #[.int .i64 x.op, .int .i64 x.d, .int .i64 x.a, .int .i64 x.b, .int .i64 x.f, .int .u32 x.n, .slice pa x.args.length ca, .slice pr x.arrs.length cr] 77) (.cells #[.int .i64 x.op, .int .i64 x.d, .int .i64 x.a, .int .i64 x.b, .int .i64 x.f, .int .u32 x.n, .slice pb x.args.length cb, .slice ps x.arrs.length cs] 77))
  clear h h2
  go_enter Tryd.func65, Tryd.ntmps65
  go_upto_region 1 with (fail)
  generalize (w.alloc (.cells #[.int .i64 x.op, .int .i64 x.d, .int .i64 x.a, .int .i64 x.b, .int .i64 x.f, .int .u32 x.n, .slice pa x.args.length ca, .slice pr x.arrs.length cr] 77)).alloc (.cells #[.int .i64 x.op, .int .i64 x.d, .int .i64 x.a, .int .i64 x.b, .int .i64 x.f, .int .u32 x.n, .slice pb x.args.length cb, .slice ps x.arrs.length cs] 77) = W2 at HX HB2 ⊢
  obtain ⟨b1, b2⟩ := HX.out W2 (Below.refl _ _)
  obtain ⟨y0, _⟩ := cell_of_block b1 (k := 0) rfl
  obtain ⟨y1, _⟩ := cell_of_block b1 (k := 1) rfl
  obtain ⟨y2, _⟩ := cell_of_block b1 (k := 2) rfl
  obtain ⟨y3, _⟩ := cell_of_block b1 (k := 3) rfl
  obtain ⟨y4, _⟩ := cell_of_block b1 (k := 4) rfl
  obtain ⟨y5, _⟩ := cell_of_block b1 (k := 5) rfl
  obtain ⟨y6, _⟩ := cell_of_block b1 (k := 6) rfl
  obtain ⟨y7, _⟩ := cell_of_block b1 (k := 7) rfl
  obtain ⟨z0, _⟩ := cell_of_block b2 (k := 0) rfl
  obtain ⟨z1, _⟩ := cell_of_block b2 (k := 1) rfl
  obtain ⟨z2, _⟩ := cell_of_block b2 (k := 2) rfl
  obtain ⟨z3, _⟩ := cell_of_block b2 (k := 3) rfl
  obtain ⟨z4, _⟩ := cell_of_block b2 (k := 4) rfl
  obtain ⟨z5, _⟩ := cell_of_block b2 (k := 5) rfl
  obtain ⟨z6, _⟩ := cell_of_block b2 (k := 6) rfl
  obtain ⟨z7, _⟩ := cell_of_block b2 (k := 7) rfl
  clear b1 b2
  go_wp2_with (first
    | (go_at_call 48
       have hh := H3.out
       refine (HR.out _ (below_then HB2.out hh)).mono ?_
       rintro e w4 ⟨rfl, hb4⟩
       have H4 := Lib.hid (below_then hh hb4)
       clear hb4 hh)
    | (go_at_call 48
       refine (HA.out _ HB2.out).mono ?_
       rintro e w3 ⟨rfl, hb3⟩
       obtain ⟨b1, b2⟩ := HX.out w3 hb3
       obtain ⟨x7, _⟩ := cell_of_block b1 (k := 7) rfl
       obtain ⟨u7, _⟩ := cell_of_block b2 (k := 7) rfl
       have H3 := Lib.hid hb3
       clear hb3 b1 b2))
  go_ret
  exact ⟨rfl, below_then HB2.out H4.out⟩
set_option maxHeartbeats 8000000 in
set_option maxRecDepth 100000 in
theorem sameEnd10_any (x : PEnd) (vc vt vc2 vt2 : Value) (w : World) (h : EndL w vc vt x) (h2 : EndL w vc2 vt2 x) :
    Calls Tryd.prog 64 #[endV x vc vt, endV x vc2 vt2] w (Is (.bool true) w) := by
  have HA := Lib.hid (fun (W : World) (hW : Below w.heap.size w W) => sameInts_true x.targets vt vt2 W (h.targets.below hW) (h2.targets.below hW))
  have HC := Lib.hid h.cases
  have HC2 := Lib.hid h2.cases
  obtain ⟨pc, cc, rfl⟩ := h.cases.form
  obtain ⟨pt, ct, rfl⟩ := h.targets.form
  obtain ⟨pd, cd, rfl⟩ := h2.cases.form
  obtain ⟨pu, cu, rfl⟩ := h2.targets.form
  obtain ⟨m, hm⟩ : ∃ m, m = x.cases.length := ⟨_, rfl⟩
  have HM := Lib.hid hm
  have b3 := sl_len10 HC.out
  have b4 : (m : Int) ≤ 9223372036854775807 := by omega
  unfold endV
  rw [← hm]
  have HX := Lib.hid (fun (W : World) hW => two_boxes (w := w) (W := W) (a := #[.int .i64 x.kind, .int .i64 x.op, .int .i64 x.a, .int .i64 x.b, .int .u32 x.n, .int .i64 x.to, .int .i64 x.els, .slice pc m cc, .slice pt x.targets.length ct]) (b := #[.int .i64 x.kind, .int .i64 x.op, .int .i64 x.a, .int .i64 x.b, .int .u32 x.n, .int .i64 x.to, .int .i64 x.els, .slice pd m cd, .slice pu x.targets.length cu]) (t := 40) hW)
  have HB2 := Lib.hid (below2 w (.cells #[.int .i64 x.kind, .int .i64 x.op, .int .i64 x.a, .int .i64 x.b, .int .u32 x.n, .int .i64 x.to, .int .i64 x.els, .slice pc m cc, .slice pt x.targets.length ct] 40) (.cells #[.int .i64 x.kind, .int .i64 x.op, .int .i64 x.a, .int .i64 x.b, .int .u32 x.n, .int .i64 x.to, .int .i64 x.els, .slice pd m cd, .slice pu x.targets.length cu] 40))
  clear h h2 hm b3
  go_enter Tryd.func64, Tryd.ntmps64
  go_upto_region 1 with (fail)
  generalize (w.alloc (.cells #[.int .i64 x.kind, .int .i64 x.op, .int .i64 x.a, .int .i64 x.b, .int .u32 x.n, .int .i64 x.to, .int .i64 x.els, .slice pc m cc, .slice pt x.targets.length ct] 40)).alloc (.cells #[.int .i64 x.kind, .int .i64 x.op, .int .i64 x.a, .int .i64 x.b, .int .u32 x.n, .int .i64 x.to, .int .i64 x.els, .slice pd m cd, .slice pu x.targets.length cu] 40) = W2 at HX HB2 ⊢
  obtain ⟨b1, b2⟩ := HX.out W2 (Below.refl _ _)
  obtain ⟨y0, _⟩ := cell_of_block b1 (k := 0) rfl
  obtain ⟨y1, _⟩ := cell_of_block b1 (k := 1) rfl
  obtain ⟨y2, _⟩ := cell_of_block b1 (k := 2) rfl
  obtain ⟨y3, _⟩ := cell_of_block b1 (k := 3) rfl
  obtain ⟨y4, _⟩ := cell_of_block b1 (k := 4) rfl
  obtain ⟨y5, _⟩ := cell_of_block b1 (k := 5) rfl
  obtain ⟨y6, _⟩ := cell_of_block b1 (k := 6) rfl
  obtain ⟨y7, _⟩ := cell_of_block b1 (k := 7) rfl
  obtain ⟨y8, _⟩ := cell_of_block b1 (k := 8) rfl
  obtain ⟨z0, _⟩ := cell_of_block b2 (k := 0) rfl
  obtain ⟨z1, _⟩ := cell_of_block b2 (k := 1) rfl
  obtain ⟨z2, _⟩ := cell_of_block b2 (k := 2) rfl
  obtain ⟨z3, _⟩ := cell_of_block b2 (k := 3) rfl
  obtain ⟨z4, _⟩ := cell_of_block b2 (k := 4) rfl
  obtain ⟨z5, _⟩ := cell_of_block b2 (k := 5) rfl
  obtain ⟨z6, _⟩ := cell_of_block b2 (k := 6) rfl
  obtain ⟨z7, _⟩ := cell_of_block b2 (k := 7) rfl
  obtain ⟨z8, _⟩ := cell_of_block b2 (k := 8) rfl
  clear b1 b2
  go_upto_region 4 with (
    go_at_call 48
    refine (HA.out _ HB2.out).mono ?_
    rintro e w3 ⟨rfl, hb3⟩
    have H3 := Lib.hid hb3
    clear hb3)
  clear y0 y1 y2 y3 y4 y5 y6 y7 y8 z0 z1 z2 z3 z4 z5 z6 z7 z8
  go_loopw [5] (fun i wr => ∃ k : Nat, k ≤ m ∧ i = .int .i64 k ∧ Hid (Below W2.heap.size W2 wr)) (fun i _ => m - (intOf i).toNat)
  case atStart => exact ⟨0, Nat.zero_le _, rfl, H3⟩
  case round =>
    obtain ⟨k, hk, rfl, HW⟩ := hrel
    obtain ⟨b1, b2⟩ := HX.out wr HW.out
    obtain ⟨y7, _⟩ := cell_of_block b1 (k := 7) rfl
    obtain ⟨z7, _⟩ := cell_of_block b2 (k := 7) rfl
    clear b1 b2
    by_cases hlt : k < m
    · obtain ⟨t, ht⟩ := getN HM.out hlt
      obtain ⟨g, o, cap, hv, hcap, hgl, hcell⟩ := SlR.form2 HC.out (by have := HM.out; omega)
      obtain ⟨g2, o2, cap2, hv2, hcap2, hgl2, hcell2⟩ := SlR.form2 HC2.out (by have := HM.out; omega)
      injection hv with hv hvn hvc
      injection hv2 with hv2 hvn2 hvc2
      clear hvn hvn2
      subst hv hvc hv2 hvc2
      obtain ⟨c0, c1⟩ := hcell k (by have := HM.out; omega) t ht
      obtain ⟨f0, f1⟩ := hcell2 k (by have := HM.out; omega) t ht
      have hb := below_then HB2.out HW.out
      replace c0 := (hb.cell (p := ⟨g, o + k * 2, none⟩) hgl).trans c0
      replace c1 := (hb.cell (p := ⟨g, o + k * 2 + 1, none⟩) hgl).trans c1
      replace f0 := (hb.cell (p := ⟨g2, o2 + k * 2, none⟩) hgl2).trans f0
      replace f1 := (hb.cell (p := ⟨g2, o2 + k * 2 + 1, none⟩) hgl2).trans f1
      have l2 : g < wr.heap.size := Nat.lt_of_lt_of_le hgl hb.size
      have l3 : g2 < wr.heap.size := Nat.lt_of_lt_of_le hgl2 hb.size
      have k0 : (0 : Int) ≤ k := by omega
      have k1 : (k : Int) < m := by omega
      have k2 : (m : Int) ≤ cc := by have := HM.out; have := hcap.1; omega
      have k3 : (m : Int) ≤ cd := by have := HM.out; have := hcap2.1; omega
      clear ht hb hcap hcap2 hcell hcell2
      go_wp2
      go_quiet (fail)
      go_wp2
      exact ⟨⟨k + 1, Nat.succ_le_of_lt hlt, by go_num, Lib.hid (below_then HW.out (by first | exact Below.refl _ _ | exact (Below.refl _ _).drew | exact Graph.below_drewN _ _))⟩, by simp [intOf]; omega⟩
    · obtain rfl : k = m := by omega
      go_wp2
      go_ret
      exact ⟨rfl, below_then HB2.out HW.out⟩
set_option maxHeartbeats 8000000 in
set_option maxRecDepth 100000 in
theorem sameBlock10_any (x : PBlk) (vk vc vt vk2 vc2 vt2 : Value) (w : World) (h : CodeR w vk x.code) (he : EndL w vc vt x.fin) (h2 : CodeR w vk2 x.code) (he2 : EndL w vc2 vt2 x.fin) :
    Calls Tryd.prog 49 #[blkV x vk vc vt, blkV x vk2 vc2 vt2] w (Is (.bool true) w) := by
  have HE := Lib.hid (fun (W : World) (hW : Below w.heap.size w W) => sameEnd10_any x.fin _ _ _ _ W (he.below hW) (he2.below hW))
  have HC := Lib.hid h
  have HC2 := Lib.hid h2
  obtain ⟨pk, ck, rfl⟩ := h.form
  obtain ⟨pk2, ck2, rfl⟩ := h2.form
  obtain ⟨pc, cc, rfl⟩ := he.cases.form
  obtain ⟨pt, ct, rfl⟩ := he.targets.form
  obtain ⟨pd, cd, rfl⟩ := he2.cases.form
  obtain ⟨pu, cu, rfl⟩ := he2.targets.form
  obtain ⟨m, hm⟩ : ∃ m, m = x.code.length := ⟨_, rfl⟩
  have HM := Lib.hid hm
  have b3 := sl_len10 HC.out
  have b4 : (m : Int) ≤ 9223372036854775807 := by omega
  unfold blkV
  unfold endV at HE
  rw [← hm]
  have HX := Lib.hid (fun (W : World) hW => two_boxes (w := w) (W := W) (a := #[.slice pk m ck, .int .i64 x.fin.kind, .int .i64 x.fin.op, .int .i64 x.fin.a, .int .i64 x.fin.b, .int .u32 x.fin.n, .int .i64 x.fin.to, .int .i64 x.fin.els, .slice pc x.fin.cases.length cc, .slice pt x.fin.targets.length ct]) (b := #[.slice pk2 m ck2, .int .i64 x.fin.kind, .int .i64 x.fin.op, .int .i64 x.fin.a, .int .i64 x.fin.b, .int .u32 x.fin.n, .int .i64 x.fin.to, .int .i64 x.fin.els, .slice pd x.fin.cases.length cd, .slice pu x.fin.targets.length cu]) (t := 42) hW)
  have HB2 := Lib.hid (below2 w (.cells #[.slice pk m ck, .int .i64 x.fin.kind, .int .i64 x.fin.op, .int .i64 x.fin.a, .int .i64 x.fin.b, .int .u32 x.fin.n, .int .i64 x.fin.to, .int .i64 x.fin.els, .slice pc x.fin.cases.length cc, .slice pt x.fin.targets.length ct] 42) (.cells #[.slice pk2 m ck2, .int .i64 x.fin.kind, .int .i64 x.fin.op, .int .i64 x.fin.a, .int .i64 x.fin.b, .int .u32 x.fin.n, .int .i64 x.fin.to, .int .i64 x.fin.els, .slice pd x.fin.cases.length cd, .slice pu x.fin.targets.length cu] 42))
  clear h h2 he he2 hm b3
  go_enter Tryd.func49, Tryd.ntmps49
  go_upto_region 1 with (fail)
  generalize (w.alloc (.cells #[.slice pk m ck, .int .i64 x.fin.kind, .int .i64 x.fin.op, .int .i64 x.fin.a, .int .i64 x.fin.b, .int .u32 x.fin.n, .int .i64 x.fin.to, .int .i64 x.fin.els, .slice pc x.fin.cases.length cc, .slice pt x.fin.targets.length ct] 42)).alloc (.cells #[.slice pk2 m ck2, .int .i64 x.fin.kind, .int .i64 x.fin.op, .int .i64 x.fin.a, .int .i64 x.fin.b, .int .u32 x.fin.n, .int .i64 x.fin.to, .int .i64 x.fin.els, .slice pd x.fin.cases.length cd, .slice pu x.fin.targets.length cu] 42) = W2 at HX HB2 ⊢
  obtain ⟨b1, b2⟩ := HX.out W2 (Below.refl _ _)
  obtain ⟨y0, _⟩ := cell_of_block b1 (k := 0) rfl
  obtain ⟨y1, _⟩ := cell_of_block b1 (k := 1) rfl
  obtain ⟨y2, _⟩ := cell_of_block b1 (k := 2) rfl
  obtain ⟨y3, _⟩ := cell_of_block b1 (k := 3) rfl
  obtain ⟨y4, _⟩ := cell_of_block b1 (k := 4) rfl
  obtain ⟨y5, _⟩ := cell_of_block b1 (k := 5) rfl
  obtain ⟨y6, _⟩ := cell_of_block b1 (k := 6) rfl
  obtain ⟨y7, _⟩ := cell_of_block b1 (k := 7) rfl
  obtain ⟨y8, _⟩ := cell_of_block b1 (k := 8) rfl
  obtain ⟨y9, _⟩ := cell_of_block b1 (k := 9) rfl
  obtain ⟨z0, _⟩ := cell_of_block b2 (k := 0) rfl
  obtain ⟨z1, _⟩ := cell_of_block b2 (k := 1) rfl
  obtain ⟨z2, _⟩ := cell_of_block b2 (k := 2) rfl
  obtain ⟨z3, _⟩ := cell_of_block b2 (k := 3) rfl
  obtain ⟨z4, _⟩ := cell_of_block b2 (k := 4) rfl
  obtain ⟨z5, _⟩ := cell_of_block b2 (k := 5) rfl
  obtain ⟨z6, _⟩ := cell_of_block b2 (k := 6) rfl
  obtain ⟨z7, _⟩ := cell_of_block b2 (k := 7) rfl
  obtain ⟨z8, _⟩ := cell_of_block b2 (k := 8) rfl
  obtain ⟨z9, _⟩ := cell_of_block b2 (k := 9) rfl
  clear b1 b2
  go_upto_region 4 with (
    go_at_call 64
    refine (HE.out _ HB2.out).mono ?_
    rintro e w3 ⟨rfl, hb3⟩
    have H3 := Lib.hid hb3
    clear hb3)
  clear y0 y1 y2 y3 y4 y5 y6 y7 y8 y9 z0 z1 z2 z3 z4 z5 z6 z7 z8 z9
  go_loopw [5] (fun i wr => ∃ k : Nat, k ≤ m ∧ i = .int .i64 k ∧ Hid (Below W2.heap.size W2 wr)) (fun i _ => m - (intOf i).toNat)
  case atStart => exact ⟨0, Nat.zero_le _, rfl, H3⟩
  case round =>
    obtain ⟨k, hk, rfl, HW⟩ := hrel
    obtain ⟨b1, b2⟩ := HX.out wr HW.out
    obtain ⟨y0, _⟩ := cell_of_block b1 (k := 0) rfl
    obtain ⟨z0, _⟩ := cell_of_block b2 (k := 0) rfl
    have HYZ : Hid (∀ W, Below wr.heap.size wr W → W.cell? ⟨w.heap.size, 0, none⟩ = some (.slice pk m ck) ∧ W.cell? ⟨w.heap.size + 1, 0, none⟩ = some (.slice pk2 m ck2)) := Lib.hid (fun W hW => by
      obtain ⟨b1, b2⟩ := HX.out W (below_then HW.out hW)
      exact ⟨(cell_of_block b1 (k := 0) rfl).1, (cell_of_block b2 (k := 0) rfl).1⟩)
    clear b1 b2
    by_cases hlt : k < m
    · obtain ⟨t, ht⟩ := getN HM.out hlt
      obtain ⟨g, o, cap, hv, hcap, hgl, hcell⟩ := SlR.form2 HC.out (by have := HM.out; omega)
      obtain ⟨g2, o2, cap2, hv2, hcap2, hgl2, hcell2⟩ := SlR.form2 HC2.out (by have := HM.out; omega)
      injection hv with hv hvn hvc
      injection hv2 with hv2 hvn2 hvc2
      clear hvn hvn2
      subst hv hvc hv2 hvc2
      have hb := below_then HB2.out HW.out
      obtain ⟨va, vr, hR⟩ := hcell k (by have := HM.out; omega) t ht
      obtain ⟨va2, vr2, hR2⟩ := hcell2 k (by have := HM.out; omega) t ht
      have HSI := Lib.hid (fun (W : World) (hW : Below wr.heap.size wr W) => sameIns10_any t _ _ _ _ W (hR.l.below (below_then hb hW)) (hR2.l.below (below_then hb hW)))
      obtain ⟨c0, c1, c2, c3, c4, c5, c6, c7, l1⟩ := hR.below hgl hb
      obtain ⟨d0, d1, d2, d3, d4, d5, d6, d7, l2⟩ := hR2.below hgl2 hb
      obtain ⟨qa, na, rfl⟩ := hR.l.args.form
      obtain ⟨qr, nr, rfl⟩ := hR.l.arrs.form
      obtain ⟨ra, oa, rfl⟩ := hR2.l.args.form
      obtain ⟨rr, or', rfl⟩ := hR2.l.arrs.form
      unfold insV at HSI
      have k0 : (0 : Int) ≤ k := by omega
      have k1 : (k : Int) < m := by omega
      have k2 : (m : Int) ≤ ck := by have := HM.out; have := hcap.1; omega
      have k3 : (m : Int) ≤ ck2 := by have := HM.out; have := hcap2.1; omega
      have HLT : Hid (k < m) := Lib.hid hlt
      have HG : Hid (g < wr.heap.size ∧ g2 < wr.heap.size) := Lib.hid ⟨Nat.lt_of_lt_of_le hgl hb.size, Nat.lt_of_lt_of_le hgl2 hb.size⟩
      clear ht hb hcap hcap2 hcell hcell2 hR hR2 l1 l2 hlt hgl hgl2
      go_upto_region 6 with (fail)
      go_cut [39] from 28 to 39 (fun v wq => v = .bool false ∧ Hid (Below wr.heap.size wr wq))
      case first =>
        go_region_with (
          go_at_call 65
          refine (HSI.out _ (by first | exact Below.refl _ _ | exact (Below.refl _ _).drew | exact Graph.below_drewN _ _)).mono ?_
          rintro e w5 ⟨rfl, hb5⟩
          have HB5 : Hid (Below wr.heap.size wr w5) := Lib.hid (below_then (by first | exact Below.refl _ _ | exact (Below.refl _ _).drew | exact Graph.below_drewN _ _) hb5)
          clear hb5)
        all_goals
          go_wp2
          go_meet
          exact ⟨rfl, HB5⟩
      case rest =>
        obtain ⟨rfl, HQ⟩ := hcut
        go_wp2
        exact ⟨⟨k + 1, by have := HLT.out; omega, by go_num, Lib.hid (below_then HW.out HQ.out)⟩, by have := HLT.out; simp [intOf]; omega⟩
    · obtain rfl : k = m := by omega
      go_wp2
      go_ret
      exact ⟨rfl, below_then HB2.out HW.out⟩
end Go.Proofs.YtcijaaiopfbffaaDoor.Live
namespace Go.Proofs.YtcijaaiopfbffaaDoor.Live
open Go.RowKit Go.Proofs.YtcijaaiopfbffaaDoor.Graph Go.Shelf

set_option maxHeartbeats 8000000 in
set_option maxRecDepth 100000 in
theorem sameGraph10_any (x : PGr) (vp va vb vp2 va2 vb2 : Value) (w : World) (h : GrL w vp va vb x) (h2 : GrL w vp2 va2 vb2 x) :
    Calls Tryd.prog 28 #[grV x vp va vb, grV x vp2 va2 vb2] w (Is (.bool true) w) := by
  have HP := Lib.hid (fun (W : World) (hW : Below w.heap.size w W) => sameInts_true x.params vp vp2 W (h.params.below hW) (h2.params.below hW))
  have n1 := sl_len10 h.arrays
  have n2 := sl_len10 h.blocks
  have HA := Lib.hid h.arrays
  have HA2 := Lib.hid h2.arrays
  have HB := Lib.hid h.blocks
  have HB2 := Lib.hid h2.blocks
  obtain ⟨pp, pc, rfl⟩ := h.params.form
  obtain ⟨ap, ac, rfl⟩ := h.arrays.form
  obtain ⟨bp, bc, rfl⟩ := h.blocks.form
  obtain ⟨qp, qc, rfl⟩ := h2.params.form
  obtain ⟨cp, cc, rfl⟩ := h2.arrays.form
  obtain ⟨dp, dc, rfl⟩ := h2.blocks.form
  obtain ⟨na, hna⟩ : ∃ n, n = x.arrays.length := ⟨_, rfl⟩
  obtain ⟨nb, hnb⟩ : ∃ n, n = x.blocks.length := ⟨_, rfl⟩
  have HNA := Lib.hid hna
  have HNB := Lib.hid hnb
  rw [← hna] at n1
  rw [← hnb] at n2
  have n3 : (na : Int) ≤ 9223372036854775807 := by omega
  have n4 : (nb : Int) ≤ 9223372036854775807 := by omega
  unfold grV
  rw [← hna, ← hnb]
  have HX := Lib.hid (fun (W : World) hW => two_boxes (w := w) (W := W) (a := #[.slice pp x.params.length pc, .int .i64 x.temps, .slice ap na ac, .slice bp nb bc]) (b := #[.slice qp x.params.length qc, .int .i64 x.temps, .slice cp na cc, .slice dp nb dc]) (t := 26) hW)
  have HW2 := Lib.hid (below2 w (.cells #[.slice pp x.params.length pc, .int .i64 x.temps, .slice ap na ac, .slice bp nb bc] 26) (.cells #[.slice qp x.params.length qc, .int .i64 x.temps, .slice cp na cc, .slice dp nb dc] 26))
  clear h h2 hna hnb n1 n2
  go_enter Tryd.func28, Tryd.ntmps28
  go_upto_region 1 with (fail)
  generalize (w.alloc (.cells #[.slice pp x.params.length pc, .int .i64 x.temps, .slice ap na ac, .slice bp nb bc] 26)).alloc (.cells #[.slice qp x.params.length qc, .int .i64 x.temps, .slice cp na cc, .slice dp nb dc] 26) = W2 at HX HW2 ⊢
  have HC : Hid (∀ W, Below W2.heap.size W2 W → ((W.cell? ⟨w.heap.size, 0, none⟩ = some (.slice pp x.params.length pc) ∧ W.cell? ⟨w.heap.size, 1, none⟩ = some (.int .i64 x.temps)) ∧ W.cell? ⟨w.heap.size, 2, none⟩ = some (.slice ap na ac) ∧ W.cell? ⟨w.heap.size, 3, none⟩ = some (.slice bp nb bc)) ∧ ((W.cell? ⟨w.heap.size + 1, 0, none⟩ = some (.slice qp x.params.length qc) ∧ W.cell? ⟨w.heap.size + 1, 1, none⟩ = some (.int .i64 x.temps)) ∧ W.cell? ⟨w.heap.size + 1, 2, none⟩ = some (.slice cp na cc) ∧ W.cell? ⟨w.heap.size + 1, 3, none⟩ = some (.slice dp nb dc))) := Lib.hid (fun W hW => by
    obtain ⟨b1, b2⟩ := HX.out W hW
    exact ⟨⟨⟨(cell_of_block b1 (k := 0) rfl).1, (cell_of_block b1 (k := 1) rfl).1⟩, (cell_of_block b1 (k := 2) rfl).1, (cell_of_block b1 (k := 3) rfl).1⟩, ⟨(cell_of_block b2 (k := 0) rfl).1, (cell_of_block b2 (k := 1) rfl).1⟩, (cell_of_block b2 (k := 2) rfl).1, (cell_of_block b2 (k := 3) rfl).1⟩)
  clear HX
  obtain ⟨⟨⟨y0, y1⟩, y2, y3⟩, ⟨z0, z1⟩, z2, z3⟩ := HC.out W2 (Below.refl _ _)
  go_upto_region 4 with (
    go_at_call 48
    refine (HP.out _ HW2.out).mono ?_
    rintro e w3 ⟨rfl, hb3⟩
    have H3 := Lib.hid hb3
    clear y0 y1 y2 y3 z0 z1 z2 z3
    obtain ⟨⟨⟨y0, y1⟩, y2, y3⟩, ⟨z0, z1⟩, z2, z3⟩ := HC.out w3 hb3
    clear hb3)
  clear y0 y1 y2 y3 z0 z1 z2 z3
  go_loopw [5] (fun i wr => ∃ k : Nat, k ≤ na ∧ i = .int .i64 k ∧ Hid (Below W2.heap.size W2 wr)) (fun i _ => na - (intOf i).toNat)
  case atStart => exact ⟨0, Nat.zero_le _, rfl, H3⟩
  case round =>
    obtain ⟨k, hk, rfl, HW⟩ := hrel
    obtain ⟨⟨⟨y0, y1⟩, y2, y3⟩, ⟨z0, z1⟩, z2, z3⟩ := HC.out wr HW.out
    clear y0 y1 z0 z1
    by_cases hlt : k < na
    · obtain ⟨t, ht⟩ := getN HNA.out hlt
      obtain ⟨g, o, c', hv, c0, c1, hgl, hc2, hc3⟩ := arrs_cell (HA.out.below (below_then HW2.out HW.out)) ht
      obtain ⟨g2, o2, c'', hv2, d0, d1, hgl2, hd2, hd3⟩ := arrs_cell (HA2.out.below (below_then HW2.out HW.out)) ht
      injection hv with e1 _ e3
      subst e1 e3
      injection hv2 with e1 _ e3
      subst e1 e3
      have k0 : (0 : Int) ≤ k := by omega
      have k1 : (k : Int) < na := by omega
      have k2 : (na : Int) ≤ ac := by have := HNA.out; omega
      have k3 : (na : Int) ≤ cc := by have := HNA.out; omega
      have k4 : (ac : Int) ≤ 9223372036854775807 := by omega
      have k5 : (cc : Int) ≤ 9223372036854775807 := by omega
      clear ht hc2 hc3 hd2 hd3
      go_wp2
      go_quiet (fail)
      go_wp2
      exact ⟨⟨k + 1, Nat.succ_le_of_lt hlt, by go_num, Lib.hid (below_then HW.out (by first | exact Below.refl _ _ | exact (Below.refl _ _).drew | exact Graph.below_drewN _ _))⟩, by simp [intOf]; omega⟩
    · have hkn : k = na := by omega
      have ki : ¬ ((k : Int) < na) := by omega
      clear hkn hlt
      go_upto_region 9 with (fail)
      clear y2 y3 z2 z3
      go_loopw [6] (fun i wr => ∃ k : Nat, k ≤ nb ∧ i = .int .i64 k ∧ Hid (Below W2.heap.size W2 wr)) (fun i _ => nb - (intOf i).toNat)
      case atStart => exact ⟨0, Nat.zero_le _, rfl, HW⟩
      case round =>
        clear HW
        obtain ⟨b, hb, rfl, HW⟩ := hrel
        obtain ⟨⟨⟨y0, y1⟩, y2, y3⟩, ⟨z0, z1⟩, z2, z3⟩ := HC.out wr HW.out
        clear y0 y1 z0 z1 y2 z2
        by_cases hlt : b < nb
        · obtain ⟨t, ht⟩ := getN HNB.out hlt
          have hbt := below_then HW2.out HW.out
          obtain ⟨g, o, cap, hv, hcap, hgl, _⟩ := SlR.form2 HB.out (by have := HNB.out; omega)
          obtain ⟨g2, o2, cap2, hv2, hcap2, hgl2, _⟩ := SlR.form2 HB2.out (by have := HNB.out; omega)
          injection hv with e1 _ e3
          subst e1 e3
          injection hv2 with e1 _ e3
          subst e1 e3
          obtain ⟨pk, ck, px, cx, pt, ct, ⟨c0, c1, c2, c3, c4, c5, c6, c7, c8, c9⟩, hk1, he1, l0⟩ := blk_at HB.out hbt ht
          obtain ⟨pk2, ck2, px2, cx2, pt2, ct2, ⟨d0, d1, d2, d3, d4, d5, d6, d7, d8, d9⟩, hk2, he2, l1⟩ := blk_at HB2.out hbt ht
          have HSB := Lib.hid (fun (W : World) (hW : Below wr.heap.size wr W) => sameBlock10_any t _ _ _ _ _ _ W (hk1.below hW) (he1.below hW) (hk2.below hW) (he2.below hW))
          unfold blkV at HSB
          have k0 : (0 : Int) ≤ b := by omega
          have k1 : (b : Int) < nb := by omega
          have k2 : (nb : Int) ≤ bc := by have := HNB.out; have := hcap.1; omega
          have k3 : (nb : Int) ≤ dc := by have := HNB.out; have := hcap2.1; omega
          have k4 : (bc : Int) ≤ 9223372036854775807 := by have := hcap.2; omega
          have k5 : (dc : Int) ≤ 9223372036854775807 := by have := hcap2.2; omega
          have HLT : Hid (b < nb) := Lib.hid hlt
          clear ht hbt hk1 hk2 he1 he2 hcap hcap2 hlt hgl hgl2
          go_upto_region 11 with (fail)
          go_cut [74] from 63 to 74 (fun v wq => v = .bool false ∧ Hid (Below wr.heap.size wr wq))
          case first =>
            go_region_with (
              go_at_call 49
              refine (HSB.out _ (by first | exact Below.refl _ _ | exact (Below.refl _ _).drew | exact Graph.below_drewN _ _)).mono ?_
              rintro e w5 ⟨rfl, hb5⟩
              have HB5 : Hid (Below wr.heap.size wr w5) := Lib.hid (below_then (by first | exact Below.refl _ _ | exact (Below.refl _ _).drew | exact Graph.below_drewN _ _) hb5)
              clear hb5)
            all_goals
              go_wp2
              go_meet
              exact ⟨rfl, HB5⟩
          case rest =>
            obtain ⟨rfl, HQ⟩ := hcut
            go_wp2
            exact ⟨⟨b + 1, by have := HLT.out; omega, by go_num, Lib.hid (below_then HW.out HQ.out)⟩, by have := HLT.out; simp [intOf]; omega⟩
        · have hbn : b = nb := by omega
          have bi : ¬ ((b : Int) < nb) := by omega
          go_wp2
          go_ret
          exact ⟨rfl, below_then HW2.out HW.out⟩
end Go.Proofs.YtcijaaiopfbffaaDoor.Live
