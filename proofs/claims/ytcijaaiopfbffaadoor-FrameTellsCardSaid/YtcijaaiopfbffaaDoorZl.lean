/- A block that fits: blockFits. No condition. -/
import Derived.Test.YtcijaaiopfbffaaDoorZk
import Derived.Test.YtcijaaiopfbffaaDoorGz
import Derived.Shelf.RegionOpen
import Derived.Sort.QuietIn
import Derived.Deep.DeepCutAuto
namespace Go.Proofs.YtcijaaiopfbffaaDoor.Live
open Go.RowKit Go.Proofs.YtcijaaiopfbffaaDoor.Graph Go.Shelf

attribute [local go_sem] Oper.semAt_some
/-- In the middle of blockFits: its two boxes, its marks. -/
structure BF (w : World) (m : Int) (ds : List Nat) (W : World) : Prop where
  below : Below w.heap.size w W
  all : Boxed W w.heap.size 3 (.int .i64 m)
  res : ∃ v, Boxed W (w.heap.size + 1) 4 (.bool v)
  marks : Marks (w.heap.size + 2) ds W
theorem BF.keep {w W W' : World} {m : Int} {ds : List Nat} (h : BF w m ds W) (hb : Below W.heap.size W W') : BF w m ds W' :=
  ⟨bt h.below hb, (hb.block _ h.all.lt).trans h.all, by
    obtain ⟨v, hv⟩ := h.res
    exact ⟨v, (hb.block _ hv.lt).trans hv⟩, h.marks.nd, fun D hD => ⟨(h.marks.at_ D hD).1, (hb.block D (h.marks.lt D hD)).trans (h.marks.at_ D hD).2⟩⟩
where bt {a b c : World} (h : Below a.heap.size a b) (k : Below b.heap.size b c) : Below a.heap.size a c := h.trans (k.mono h.size)
theorem marks_set {W : World} {ds : List Nat} {g B : Nat} (h : Marks B ds W) (hg : g < B) (v : Value) : Marks B ds (W.setCell ⟨g, 0, none⟩ v) :=
  ⟨h.nd, fun D hD => ⟨(h.at_ D hD).1, (heap_setCell_other W ⟨g, 0, none⟩ D v (fun e => by have := (h.at_ D hD).1; simp only at e; omega)).trans (h.at_ D hD).2⟩⟩
set_option maxHeartbeats 1000000 in
/-- It leaves with what its box holds. -/
theorem bf_leaves {w W : World} {ds : List Nat} {r r' : Bool} {T : Array Value} (he : r' = r) (hT : T[4]? = some (.pointer (some ⟨w.heap.size + 1, 0, none⟩))) (hb : Below w.heap.size w W) (hr : Boxed W (w.heap.size + 1) 4 (.bool r)) (hm : Marks (w.heap.size + 2) ds W) :
    LeavesInM Fence.wide 9 Tryd.prog Tryd.f52 T (Is (.bool r') w) (ds.map markD) .returning W := by
  subst he
  refine leaves_marks ds W hm fun W' hs => ⟨.bool r', ?_, rfl, hb.trans (hs.below.mono (by omega))⟩
  have hc := (Boxed.cell (show Boxed W' (w.heap.size + 1) 4 (.bool r') from hs.cells _ _ hr rfl))
  have hT2 : T.getD 4 undef = .pointer (some ⟨w.heap.size + 1, 0, none⟩) := by
    rw [Array.getD_eq_getD_getElem?, hT]; rfl
  simp [results, Tryd.results52, go_sem, hc, hT]
theorem BF.fin {w W : World} {m : Int} {ds : List Nat} (h : BF w m ds W) (r : Bool) : Below w.heap.size w (W.setCell ⟨w.heap.size + 1, 0, none⟩ (.bool r)) ∧ Boxed (W.setCell ⟨w.heap.size + 1, 0, none⟩ (.bool r)) (w.heap.size + 1) 4 (.bool r) ∧ Marks (w.heap.size + 2) ds (W.setCell ⟨w.heap.size + 1, 0, none⟩ (.bool r)) := by
  obtain ⟨v, hv⟩ := h.res
  exact ⟨h.below.setCell (p := ⟨w.heap.size + 1, 0, none⟩) (by simp) _, hv.set _, marks_set h.marks (by omega) _⟩
theorem marks_drew {W : World} {ds : List Nat} {B : Nat} (h : Marks B ds W) : Marks B ds W.drew := ⟨h.nd, h.at_⟩
theorem marks_own {β : Type} {B b : Nat} {ds : List Nat} (h : ∀ D ∈ ds, D < B) : OwnFrom B (fun (_ : β) W => Marks b ds W) :=
  fun _ X Y row hs hg hr => ⟨hs.nd, fun D hD => ⟨(hs.at_ D hD).1, (hg.block D (hs.lt D hD) (fun e => by have := (hr D e.symm).1; have := h D hD; omega)).trans (hs.at_ D hD).2⟩⟩
theorem blk_no {m : Int} {x : PBlk} {k : Nat} {y : PIns} (hy : x.code[k]? = some y) (h : insFit m y = false) : blkFit m x = false := by
  unfold blkFit
  have : x.code.all (insFit m) = false := by
    cases hq : x.code.all (insFit m)
    · rfl
    · rw [List.all_eq_true.1 hq y (List.mem_of_getElem? hy)] at h; cases h
  rw [this]; rfl
theorem sets_q (x : PIns) (b o : Nat) (va vr : Value) (w : World) (h : InsR w b o x va vr) : Calls Tryd.prog 62 #[.pointer (some ⟨b, o, none⟩)] w fun e w' => e = .returned (.bool (setsT x)) ∧ ∃ m, w' = w.drewN m :=
  (sets_any x b o va vr w h).mono fun _ _ h => ⟨h.1, 0, h.2.trans (drewN_zero w)⟩
theorem isTemp_q (t m : Int) (w : World) : Calls Tryd.prog 66 #[.int .i64 t, .int .i64 m] w fun e w' => e = .returned (.bool (belowB t m)) ∧ ∃ m, w' = w.drewN m :=
  (isTemp_any t m w).mono fun _ _ h => ⟨h.1, 0, h.2.trans (drewN_zero w)⟩
set_option maxHeartbeats 8000000 in
set_option maxRecDepth 100000 in
theorem blockFits_any (x : PBlk) (m : Int) (bb ob : Nat) (vk vc vt : Value) (w : World) (hR : BlkR w bb ob x vk vc vt) (hb : bb < w.heap.size) :
    Calls Tryd.prog 52 #[.pointer (some ⟨bb, ob, none⟩), .int .i64 m] w (Is (.bool (blkFit m x)) w) := by
  have HC := Lib.hid hR.code
  have HE := Lib.hid hR.fin
  have HBK := Lib.hid hR.ck
  have c0 := hR.ck
  obtain ⟨cp, cc, rfl⟩ := hR.code.form
  obtain ⟨mm, hmm⟩ : ∃ mm, mm = x.code.length := ⟨_, rfl⟩
  rw [← hmm] at c0 HC HBK
  have HM := Lib.hid hmm
  have HBF : Hid (BF w m [] ((w.alloc (.cells #[.int .i64 m] 3)).alloc (.cells #[.bool false] 4))) := Lib.hid
    ⟨(below_alloc w _).alloc (by simp) _, (Boxed.new w 3 _).alloc _, ⟨false, by have := Boxed.new (w.alloc (.cells #[.int .i64 m] 3)) 4 (.bool false); rwa [World.size_alloc] at this⟩, Marks.nil _ _⟩
  clear hR hmm
  refine callsIn_wide.1 (callsIn_of_wp_marks (n := 9) Tryd.func52 rfl trivial ?_ rfl)
  refine wpIn_wide.2 ?_
  simp only [Tryd.ntmps52, List.size_toArray, List.length_cons, List.length_nil, Nat.reduceAdd, Nat.reduceSub, Array.replicate_succ, Array.replicate_zero, List.push_toArray, List.append_toArray, List.nil_append, List.cons_append]
  go_wp2
  refine wp_loop (fun a W => ∃ (k : Nat) (ds : List Nat) (u5 u6 u7 u15 u16 u17 u18 u19 u20 u21 u22 u23 u24 u25 u26 u27 u28 u29 u30 u31 u32 u33 u34 u35 u36 u37 u38 u39 u40 u41 u42 u43 u44 u45 u46 u47 u48 u49 u50 u51 u52 u53 u54 u55 u56 u57 : Value), a = ⟨#[.pointer (some ⟨bb, ob, none⟩), .int .i64 m, undef, .pointer (some ⟨w.heap.size, 0, none⟩), .pointer (some ⟨w.heap.size + 1, 0, none⟩), u5, u6, u7, undef, .pointer (some ⟨bb, ob, none⟩), .pointer (some ⟨bb, ob, none⟩), .pointer (some ⟨bb, ob, none⟩), .slice cp mm cc, .int .i64 (mm : Nat), .int .i64 (k : Nat), u15, u16, u17, u18, u19, u20, u21, u22, u23, u24, u25, u26, u27, u28, u29, u30, u31, u32, u33, u34, u35, u36, u37, u38, u39, u40, u41, u42, u43, u44, u45, u46, u47, u48, u49, u50, u51, u52, u53, u54, u55, u56, u57, undef, undef, undef, undef, undef, undef, undef, undef, undef, undef, undef, undef, undef, undef, undef, undef, undef, undef, undef, undef, undef, undef, undef, undef, undef], ds.map markD⟩ ∧ k ≤ mm ∧ Hid (BF w m ds W) ∧ Hid (∀ j y, j < k → x.code[j]? = some y → insFit m y = true)) (fun a _ => mm - (intOf (a.tmps.getD 14 undef)).toNat) ?atStart ?round
  case atStart => exact ⟨0, [], _, _, _, _, _, _, _, _, _, _, _, _, _, _, _, _, _, _, _, _, _, _, _, _, _, _, _, _, _, _, _, _, _, _, _, _, _, _, _, _, _, _, _, _, _, _, rfl, Nat.zero_le _, HBF, Lib.hid (fun j y hj => absurd hj (Nat.not_lt_zero _))⟩
  case round =>
    rintro a wr ⟨k, ds, u5, u6, u7, u15, u16, u17, u18, u19, u20, u21, u22, u23, u24, u25, u26, u27, u28, u29, u30, u31, u32, u33, u34, u35, u36, u37, u38, u39, u40, u41, u42, u43, u44, u45, u46, u47, u48, u49, u50, u51, u52, u53, u54, u55, u56, u57, rfl, hk, HB, HA⟩
    by_cases hkm : k < mm
    · obtain ⟨gi, oi, ci, y, va, vr, hcp, hy, hI, hgi, hcc⟩ := ins_at (v := .slice cp mm cc) (l := x.code) (by rw [HM.out] at HC ⊢; exact HC.out) (k := k) (by have := HM.out; omega)
      rw [← HM.out] at hcp hcc
      injection hcp with e1 _ e3
      subst e1 e3
      have hw0 := HB.out.below
      have hIr := hI.below hgi hw0
      have hgr : gi < wr.heap.size := Nat.lt_of_lt_of_le hgi hw0.size
      have c0r := (hw0.cell (p := ⟨bb, ob, none⟩) hb).trans HBK.out
      have call := HB.out.all.cell
      have cop := hIr.op
      have cd := hIr.d
      obtain ⟨vr0, hres⟩ := HB.out.res
      have cres := hres.cell
      have fres := hres.frozen
      have hki : (k : Int) < mm := by omega
      have hk0 : (0 : Int) ≤ k := by omega
      have hcc2 : (mm : Int) ≤ cc := by omega
      have hcc3 : (cc : Int) ≤ 9223372036854775807 := by omega
      have HS := Lib.hid (fun (W : World) (hW : Below wr.heap.size wr W) => sets_q y gi (oi + k * 8) va vr W (hIr.below hgr hW))
      have HT := Lib.hid (fun (t : Int) (W : World) => isTemp_q t m W)
      have HY := Lib.hid hy
      have HI := Lib.hid hI
      have HIR := Lib.hid hIr
      have HGI := Lib.hid hgi
      clear hw0 hI hIr hgi hres hcc hy c0 hkm
      have HSD : Hid (∀ j : Nat, Calls Tryd.prog 62 #[.pointer (some ⟨gi, oi + k * 8, none⟩)] (wr.drewN j) fun e w' => e = .returned (.bool (setsT y)) ∧ ∃ m, w' = (wr.drewN j).drewN m) := Lib.hid (fun j => HS.out (wr.drewN j) (Graph.below_drewN wr j))
      clear HS
      go_upto_region 5 with (fail)
      have HBq : Hid (∀ n : Nat, BF w m ds (wr.drewN n)) := Lib.hid (fun n => HB.out.keep (Graph.below_drewN wr n))
      by_cases g1 : y.op < 1
      · have hF : blkFit m x = false := blk_no HY.out (by unfold insFit; simp; omega)
        go_quiet (fail)
        go_wp2
        exact bf_leaves (by first | rfl | exact hF) rfl ((HBq.out _).fin false).1 ((HBq.out _).fin false).2.1 ((HBq.out _).fin false).2.2
      by_cases g2 : 32 < y.op
      · have hF : blkFit m x = false := blk_no HY.out (by unfold insFit; simp; omega)
        go_quiet (fail)
        go_wp2
        exact bf_leaves (by first | rfl | exact hF) rfl ((HBq.out _).fin false).1 ((HBq.out _).fin false).2.1 ((HBq.out _).fin false).2.2
      by_cases g3 : setsT y = true ∧ belowB y.d m = false
      · have hF : blkFit m x = false := blk_no HY.out (by unfold insFit; rw [g3.1, g3.2]; simp)
        obtain ⟨g4, g5⟩ := g3
        rw [g4] at HSD
        have HTD := Lib.hid (HT.out y.d)
        rw [g5] at HTD
        go_quiet (first
          | (go_at_call 62; exact Calls.quiet_of (HSD.out _))
          | (go_at_call 66; exact Calls.quiet_of (HTD.out _)))
        go_wp2
        exact bf_leaves (by first | rfl | exact hF) rfl ((HBq.out _).fin false).1 ((HBq.out _).fin false).2.1 ((HBq.out _).fin false).2.2
      have HIF : Hid (insFit m y = (usesI y).all (belowB · m)) := Lib.hid (by
        unfold insFit
        have h1 : decide (1 ≤ y.op) = true := decide_eq_true (by omega)
        have h2 : decide (y.op ≤ 32) = true := decide_eq_true (by omega)
        rw [h1, h2]
        cases q1 : setsT y with
        | false => simp
        | true =>
          cases q2 : belowB y.d m with
          | false => exact absurd ⟨q1, q2⟩ g3
          | true => simp)
      have hcases : setsT y = false ∨ (setsT y = true ∧ belowB y.d m = true) := by
        cases q1 : setsT y with
        | false => exact .inl rfl
        | true =>
          cases q2 : belowB y.d m with
          | false => exact absurd ⟨q1, q2⟩ g3
          | true => exact .inr ⟨rfl, rfl⟩
      clear g3
      go_cut [47] from 23 to 47 (fun t47 wq => t47 = .bool false ∧ ∃ n : Nat, wq = wr.drewN n)
      case first =>
        rcases hcases with q1 | ⟨q1, q2⟩
        · rw [q1] at HSD
          go_quiet (first | (go_at_call 62; exact Calls.quiet_of (HSD.out _)))
          go_wp2
          go_meet
          exact ⟨rfl, _, rfl⟩
        · rw [q1] at HSD
          have HTD := Lib.hid (HT.out y.d)
          rw [q2] at HTD
          go_quiet (first
            | (go_at_call 62; exact Calls.quiet_of (HSD.out _))
            | (go_at_call 66; exact Calls.quiet_of (HTD.out _)))
          go_wp2
          go_meet
          exact ⟨rfl, _, rfl⟩
      case rest =>
        obtain ⟨rfl, nq, rfl⟩ := hcut
        have HB9 := Lib.hid (HBq.out nq)
        generalize wr.drewN nq = W9 at HB9 ⊢
        clear HBq HSD hcases g1 g2 call cop cd cres fres c0r HIR hgr
        go_wp2_with (go_at_call 67; refine (callsIn_wide.1 (used_in 0 _ _)).mono ?_; rintro e w1 ⟨rfl, rfl⟩)
        have hsz9 := HB9.out.below.size
        obtain ⟨p, c, ga, oa, hva, hpp, hcl, hargs⟩ := args_at HI.out.l.args
        have HVV : Hid (∀ z ∈ usedAt gi (oi + k * 8) ga oa y, w.cell? z.1 = some (.int .i64 z.2) ∧ z.1.block < w.heap.size) := Lib.hid (used_cells HI.out HGI.out hargs)
        obtain ⟨W0, hW0⟩ : ∃ W0, W0 = W9.alloc (.cells #[.pointer (some ⟨gi, oi + k * 8, none⟩)] 114) := ⟨_, rfl⟩
        have hbx : W0.heap[W9.heap.size]? = some (.cells #[.pointer (some ⟨gi, oi + k * 8, none⟩)] 114 (0, 0)) := by rw [hW0]; exact heap_new W9 _
        have HB0 : Hid (BF w m ds W0) := Lib.hid (by rw [hW0]; exact HB9.out.keep (Graph.below_alloc W9 _))
        rw [← hW0]
        have hsz0 : W9.heap.size < W0.heap.size := (Array.getElem?_eq_some_iff.1 hbx).1
        have hb0 := HB0.out.below
        have HBX := Lib.hid hbx
        have HP := Lib.hid (And.intro hpp hcl)
        have HVA := Lib.hid hva
        clear hW0 hpp hcl hargs hva hbx
        refine (wpIn_wide (n := 9)).1 ?_
        refine wpIn_rangeFunc_ownH (F := Fence.wide) rfl (by decide) (gf := 80) (lb := #[.pointer (some ⟨W9.heap.size, 0, none⟩)]) rfl trivial (enters_of Tryd.func80 (by kernel_rfl) rfl)
          (used_stops (n := 8) (V := fun z => w.cell? z.1 = some (.int .i64 z.2) ∧ z.1.block < w.heap.size) (n₀ := w.heap.size) (w0 := w) (w := W0) (by decide) HBX.out hb0 HI.out HGI.out (Nat.le_refl _) HVV.out c p HVA.out HP.out.1 HP.out.2)
          KeepB.trans (keepB_b (by omega) hsz0) (Below.refl _ _) (fun _ => rfl)
          (fun pre W => (∀ z ∈ pre, belowB z.val.2 m = true) ∧ Below W0.heap.size W0 W)
          (fun cd pre W => (cd = .ret ∧ ∃ z ∈ pre, belowB z.val.2 m = false) ∧ (Below w.heap.size w W ∧ Boxed W (w.heap.size + 1) 4 (.bool false) ∧ Marks (w.heap.size + 2) ds W))
          (OwnFrom.and (ownFrom_pure _ _) (ownFrom_below (Nat.le_refl _) (Nat.le_refl _)))
          (fun cd => OwnFrom.and (ownFrom_pure _ _) (OwnFrom.and (ownFrom_below (by omega) (by omega)) (OwnFrom.and (Own.from (boxed_own _ _ _) _) (marks_own HB0.out.marks.lt))))
          ⟨fun z hz => absurd hz List.not_mem_nil, Below.refl _ _⟩
          (fun z a' _ => a' = ({ tmps := #[.pointer (some ⟨bb, ob, none⟩), .int .i64 m, undef, .pointer (some ⟨w.heap.size, 0, none⟩), .pointer (some ⟨w.heap.size + 1, 0, none⟩), .int .i64 (k : Nat), .pointer (some ⟨gi, oi + k * 8, none⟩), .pointer (some z.val.1), undef, .pointer (some ⟨bb, ob, none⟩), .pointer (some ⟨bb, ob, none⟩), .pointer (some ⟨bb, ob, none⟩), .slice (some ⟨gi, oi, none⟩) mm cc, .int .i64 (mm : Nat), .int .i64 (k : Nat), .bool true, .int .i64 (k : Nat), .pointer (some ⟨bb, ob, none⟩), .pointer (some ⟨bb, ob, none⟩), .pointer (some ⟨bb, ob, none⟩), .slice (some ⟨gi, oi, none⟩) mm cc, .int .i64 (k : Nat), .pointer (some ⟨gi, oi + k * 8, none⟩), u23, u24, u25, u26, u27, u28, u29, u30, u31, u32, u33, u34, u35, u36, u37, u38, u39, u40, u41, u42, u43, u44, u45, u46, .bool false, .pointer (some ⟨gi, oi + k * 8, none⟩), .func (.func 80) #[] #[.pointer (some ⟨W9.heap.size, 0, none⟩)], .pointer (some z.val.1), u51, u52, u53, u54, u55, u56, u57, undef, undef, undef, undef, undef, undef, undef, undef, undef, undef, undef, undef, undef, undef, undef, undef, undef, undef, undef, undef, undef, undef, undef, undef, undef], defers := [] } : Act))
          (fun _ _ _ _ _ _ hs _ _ => hs)
          ?assign ?body ?done ?stop
        case assign =>
          rintro l pre z W K hi hK
          gi_wp2
          exact hK _ _ (KeepsFrom.refl _ _) (KeepB.refl _ _ _) hi rfl
        case body =>
          rintro l pre z a' W hl ⟨r, hr⟩ ⟨hA, hBW⟩ rfl hlen
          dsimp only
          have hbw : Below w.heap.size w W := hb0.trans (hBW.mono (by omega))
          have cz := (hbw.cell (p := z.val.1) z.property.2).trans z.property.1
          obtain ⟨vr1, hres⟩ := HB0.out.res
          have hall := (hBW.block _ HB0.out.all.lt).trans HB0.out.all
          have hres2 := (hBW.block _ hres.lt).trans hres
          have call := Boxed.cell hall
          have cres := Boxed.cell hres2
          have fres := Boxed.frozen hres2
          have hmx : Tryd.prog.follows .mixedOrders = true := by kernel_rfl
          have hw : ∀ f : FuncId, (Fence.wide.inRound l).fn f := fun _ => trivial
          have hBM := Lib.hid hBW
          have hAA := Lib.hid hA
          have hBB := Lib.hid hbw
          have hlt2 : w.heap.size + 1 < W.heap.size := Nat.lt_of_lt_of_le hres.lt hBW.size
          have HR2 := Lib.hid hres2
          have HTZ := Lib.hid (fun (V : World) => CallsIn.inRound l (callsIn_wide (n := 6) |>.2 (isTemp_any z.val.2 m V)))
          have HIN : Hid (∀ t : {z : Addr × Int // w.cell? z.1 = some (.int .i64 z.2) ∧ z.1.block < w.heap.size}, t ∈ pre ++ [z] → t ∈ pre ∨ t = z) := Lib.hid (fun t ht => by simpa using ht)
          have HMW := Lib.hid (HB0.out.keep hBM.out).marks
          clear hA hBW hbw hres hall hres2 hr
          cases hq : belowB z.val.2 m with
          | true =>
            rw [hq] at HTZ
            have HQ := Lib.hid hq
            clear hq
            gi_wp2
            gi_region_with_o (gi_at_call 66; refine (HTZ.out _).mono ?_; rintro e w' ⟨rfl, rfl⟩)
            all_goals gi_wp2
            all_goals exact ⟨(KeepsOthers.drew _).from _, ⟨(Below.refl _ _).drew, rfl⟩, fun t ht => by
              rcases HIN.out t ht with h | rfl
              · exact hAA.out t h
              · exact HQ.out, hBM.out.drew⟩
          | false =>
            rw [hq] at HTZ
            have HQ := Lib.hid hq
            clear hq
            gi_wp2
            gi_region_with_o (gi_at_call 66; refine (HTZ.out _).mono ?_; rintro e w' ⟨rfl, rfl⟩)
            all_goals gi_wp2
            all_goals exact ⟨((KeepsOthers.setCell _ _ _).from _).trans ((KeepsOthers.drew _).from _), ⟨rfl, z, by simp, HQ.out⟩, (hBB.out.setCell (p := ⟨w.heap.size + 1, 0, none⟩) (by simp) _).drew, Boxed.set (.bool false) (show Boxed W (w.heap.size + 1) 4 (.bool vr1) from HR2.out), marks_drew (marks_set (B := w.heap.size + 2) HMW.out (by omega) _)⟩
        case done =>
          rintro D ys W hD hS ⟨hA, hBW⟩ hDe
          have hfit : insFit m y = true := by
            rw [HIF.out, ← usedAt_vals gi (oi + k * 8) ga oa y, ← hS, List.map_map, List.all_eq_true]
            intro t ht
            obtain ⟨z, hz, rfl⟩ := List.mem_map.1 ht
            exact hA z hz
          have HN := Lib.hid (show ∀ j z, j < k + 1 → x.code[j]? = some z → insFit m z = true from fun j z hj hz => by
            by_cases e : j = k
            · subst e
              rw [HY.out] at hz
              injection hz with hz
              rw [← hz]; exact hfit
            · exact HA.out j z (by omega) hz)
          have HBN : Hid (BF w m (D :: ds) W) := Lib.hid (by
            obtain ⟨h1, h2, h3, h4⟩ := HB0.out.keep hBW
            obtain ⟨v, hv⟩ := HB0.out.res
            exact ⟨h1, h2, h3, h4.cons (by have := hv.lt; omega) hDe hD HB0.out.marks.lt⟩)
          clear hA hBW hDe hS hfit
          go_wp2
          exact ⟨⟨k + 1, D :: ds, _, _, _, _, _, _, _, _, _, _, _, _, _, _, _, _, _, _, _, _, _, _, _, _, _, _, _, _, _, _, _, _, _, _, _, _, _, _, _, _, _, _, _, _, _, _, rfl, by omega, HBN, HN⟩, by simp [intOf]; omega⟩
        case stop =>
          rintro D c pre W hD hSp ⟨⟨rfl, z, hz, hzf⟩, hBw, hBr, hM⟩ hDe
          have hF : blkFit m x = false := blk_no HY.out (by
            rw [HIF.out, ← usedAt_vals gi (oi + k * 8) ga oa y]
            cases hq : (List.map (fun t => t.2) (usedAt gi (oi + k * 8) ga oa y)).all (belowB · m)
            · rfl
            · rw [List.all_eq_true.1 hq z.val.2 (List.mem_map.2 ⟨z.val, hSp.subset (List.mem_map.2 ⟨z, hz, rfl⟩), rfl⟩)] at hzf
              cases hzf)
          obtain ⟨v, hv⟩ := HB0.out.res
          have HMM := Lib.hid (hM.cons (by have := hv.lt; omega) hDe hD HB0.out.marks.lt)
          refine (wpIn_wide (n := 9)).2 ?_
          go_wp2
          exact bf_leaves (ds := D :: ds) hF rfl hBw hBr HMM.out
    · have hkk : k = mm := by omega
      subst hkk
      have hki : ¬ ((k : Int) < k) := by omega
      have hcode : x.code.all (insFit m) = true := by
        rw [List.all_eq_true]
        intro z hz
        obtain ⟨j, hj, rfl⟩ := List.mem_iff_getElem.1 hz
        exact HA.out j _ (by rw [HM.out]; exact hj) (List.getElem?_eq_getElem hj)
      have HBE : Hid (blkFit m x = endFit m x.fin) := Lib.hid (by unfold blkFit; rw [hcode]; rfl)
      have hw0 := HB.out.below
      have hEr := HE.out.below hb hw0
      have ckind := hEr.kind
      have call := HB.out.all.cell
      obtain ⟨vr0, hres⟩ := HB.out.res
      have cres := hres.cell
      have fres := hres.frozen
      clear hw0 hEr hcode HA hres c0 hkm
      by_cases g1 : x.fin.kind < 1
      · have hF : blkFit m x = false := by rw [HBE.out]; unfold endFit; simp; omega
        go_wp2
        exact bf_leaves (by first | rfl | exact hF) rfl (HB.out.fin false).1 (HB.out.fin false).2.1 (HB.out.fin false).2.2
      by_cases g2 : 5 < x.fin.kind
      · have hF : blkFit m x = false := by rw [HBE.out]; unfold endFit; simp; omega
        go_wp2
        exact bf_leaves (by first | rfl | exact hF) rfl (HB.out.fin false).1 (HB.out.fin false).2.1 (HB.out.fin false).2.2
      have HIF : Hid (blkFit m x = (usesE x.fin).all (belowB · m)) := Lib.hid (by
        rw [HBE.out]
        unfold endFit
        have h1 : decide (1 ≤ x.fin.kind) = true := decide_eq_true (by omega)
        have h2 : decide (x.fin.kind ≤ 5) = true := decide_eq_true (by omega)
        rw [h1, h2]
        simp)
      go_wp2_with (go_at_call 68; refine (callsIn_wide.1 (usedE_in 0 _ _)).mono ?_; rintro e w1 ⟨rfl, rfl⟩)
      have hsz9 := HB.out.below.size
      have HVV : Hid (∀ z ∈ usedEAt bb (ob + 1) x.fin, w.cell? z.1 = some (.int .i64 z.2) ∧ z.1.block < w.heap.size) := Lib.hid (usedE_cells HE.out hb)
      obtain ⟨W0, hW0⟩ : ∃ W0, W0 = wr.alloc (.cells #[.pointer (some ⟨bb, ob + 1, none⟩)] 123) := ⟨_, rfl⟩
      have hbx : W0.heap[wr.heap.size]? = some (.cells #[.pointer (some ⟨bb, ob + 1, none⟩)] 123 (0, 0)) := by rw [hW0]; exact heap_new wr _
      have HB0 : Hid (BF w m ds W0) := Lib.hid (by rw [hW0]; exact HB.out.keep (Graph.below_alloc wr _))
      rw [← hW0]
      have hsz0 : wr.heap.size < W0.heap.size := (Array.getElem?_eq_some_iff.1 hbx).1
      have hb0 := HB0.out.below
      have HBX := Lib.hid hbx
      have HBB9 := Lib.hid hb
      clear hW0 hbx call cres fres ckind
      refine (wpIn_wide (n := 9)).1 ?_
      refine wpIn_rangeFunc_ownH (F := Fence.wide) rfl (by decide) (gf := 83) (lb := #[.pointer (some ⟨wr.heap.size, 0, none⟩)]) rfl trivial (enters_of Tryd.func83 (by kernel_rfl) rfl)
        (end_stops (n := 8) (V := fun z => w.cell? z.1 = some (.int .i64 z.2) ∧ z.1.block < w.heap.size) (n₀ := w.heap.size) (w0 := w) (w := W0) (by decide) HBX.out rfl hb0 HE.out hb HVV.out)
        KeepB.trans (keepB_b (by omega) hsz0) (Below.refl _ _) (fun _ => rfl)
        (fun pre W => (∀ z ∈ pre, belowB z.val.2 m = true) ∧ Below W0.heap.size W0 W)
        (fun cd pre W => (cd = .ret ∧ ∃ z ∈ pre, belowB z.val.2 m = false) ∧ (Below w.heap.size w W ∧ Boxed W (w.heap.size + 1) 4 (.bool false) ∧ Marks (w.heap.size + 2) ds W))
        (OwnFrom.and (ownFrom_pure _ _) (ownFrom_below (Nat.le_refl _) (Nat.le_refl _)))
        (fun cd => OwnFrom.and (ownFrom_pure _ _) (OwnFrom.and (ownFrom_below (by omega) (by omega)) (OwnFrom.and (Own.from (boxed_own _ _ _) _) (marks_own HB0.out.marks.lt))))
        ⟨fun z hz => absurd hz List.not_mem_nil, Below.refl _ _⟩
        (fun z a' _ => a' = ({ tmps := #[.pointer (some ⟨bb, ob, none⟩), .int .i64 m, undef, .pointer (some ⟨w.heap.size, 0, none⟩), .pointer (some ⟨w.heap.size + 1, 0, none⟩), u5, u6, u7, .pointer (some z.val.1), .pointer (some ⟨bb, ob, none⟩), .pointer (some ⟨bb, ob, none⟩), .pointer (some ⟨bb, ob, none⟩), .slice cp k cc, .int .i64 (k : Nat), .int .i64 (k : Nat), .bool false, u16, u17, u18, u19, u20, u21, u22, u23, u24, u25, u26, u27, u28, u29, u30, u31, u32, u33, u34, u35, u36, u37, u38, u39, u40, u41, u42, u43, u44, u45, u46, u47, u48, u49, u50, u51, u52, u53, u54, u55, u56, u57, .pointer (some ⟨bb, ob, none⟩), .pointer (some ⟨bb, ob, none⟩), .pointer (some ⟨bb, ob + 1, none⟩), .pointer (some ⟨bb, ob + 1, none⟩), .int .i64 x.fin.kind, .bool false, .bool false, .pointer (some ⟨bb, ob, none⟩), .pointer (some ⟨bb, ob, none⟩), .pointer (some ⟨bb, ob + 1, none⟩), .pointer (some ⟨bb, ob + 1, none⟩), .int .i64 x.fin.kind, .bool false, .bool false, .pointer (some ⟨bb, ob, none⟩), .pointer (some ⟨bb, ob, none⟩), .pointer (some ⟨bb, ob + 1, none⟩), .func (.func 83) #[] #[.pointer (some ⟨wr.heap.size, 0, none⟩)], .pointer (some z.val.1), undef, undef, undef, undef, undef, undef], defers := [] } : Act))
        (fun _ _ _ _ _ _ hs _ _ => hs)
        ?assign ?body ?done ?stop
      case assign =>
        rintro l pre z W K hi hK
        gi_wp2
        exact hK _ _ (KeepsFrom.refl _ _) (KeepB.refl _ _ _) hi rfl
      case body =>
        rintro l pre z a' W hl ⟨r, hr⟩ ⟨hA, hBW⟩ rfl hlen
        dsimp only
        have hbw : Below w.heap.size w W := hb0.trans (hBW.mono (by omega))
        have cz := (hbw.cell (p := z.val.1) z.property.2).trans z.property.1
        obtain ⟨vr1, hres⟩ := HB0.out.res
        have hall := (hBW.block _ HB0.out.all.lt).trans HB0.out.all
        have hres2 := (hBW.block _ hres.lt).trans hres
        have call := Boxed.cell hall
        have cres := Boxed.cell hres2
        have fres := Boxed.frozen hres2
        have hmx : Tryd.prog.follows .mixedOrders = true := by kernel_rfl
        have hw : ∀ f : FuncId, (Fence.wide.inRound l).fn f := fun _ => trivial
        have hBM := Lib.hid hBW
        have hAA := Lib.hid hA
        have hBB := Lib.hid hbw
        have hlt2 : w.heap.size + 1 < W.heap.size := Nat.lt_of_lt_of_le hres.lt hBW.size
        have HR2 := Lib.hid hres2
        have HTZ := Lib.hid (fun (V : World) => CallsIn.inRound l (callsIn_wide (n := 6) |>.2 (isTemp_any z.val.2 m V)))
        have HIN : Hid (∀ t : {z : Addr × Int // w.cell? z.1 = some (.int .i64 z.2) ∧ z.1.block < w.heap.size}, t ∈ pre ++ [z] → t ∈ pre ∨ t = z) := Lib.hid (fun t ht => by simpa using ht)
        have HMW := Lib.hid (HB0.out.keep hBM.out).marks
        clear hA hBW hbw hres hall hres2 hr
        cases hq : belowB z.val.2 m with
        | true =>
          rw [hq] at HTZ
          have HQ := Lib.hid hq
          clear hq
          gi_wp2
          gi_region_with_o (gi_at_call 66; refine (HTZ.out _).mono ?_; rintro e w' ⟨rfl, rfl⟩)
          all_goals gi_wp2
          all_goals exact ⟨(KeepsOthers.drew _).from _, ⟨(Below.refl _ _).drew, rfl⟩, fun t ht => by
            rcases HIN.out t ht with h | rfl
            · exact hAA.out t h
            · exact HQ.out, hBM.out.drew⟩
        | false =>
          rw [hq] at HTZ
          have HQ := Lib.hid hq
          clear hq
          gi_wp2
          gi_region_with_o (gi_at_call 66; refine (HTZ.out _).mono ?_; rintro e w' ⟨rfl, rfl⟩)
          all_goals gi_wp2
          all_goals exact ⟨((KeepsOthers.setCell _ _ _).from _).trans ((KeepsOthers.drew _).from _), ⟨rfl, z, by simp, HQ.out⟩, (hBB.out.setCell (p := ⟨w.heap.size + 1, 0, none⟩) (by simp) _).drew, Boxed.set (.bool false) (show Boxed W (w.heap.size + 1) 4 (.bool vr1) from HR2.out), marks_drew (marks_set (B := w.heap.size + 2) HMW.out (by omega) _)⟩
      case done =>
        rintro D ys W hD hS ⟨hA, hBW⟩ hDe
        have hfit : blkFit m x = true := by
          rw [HIF.out, ← usedEAt_vals bb (ob + 1) x.fin, ← hS, List.map_map, List.all_eq_true]
          intro t ht
          obtain ⟨z, hz, rfl⟩ := List.mem_map.1 ht
          exact hA z hz
        have HBN : Hid (BF w m (D :: ds) W) := Lib.hid (by
          obtain ⟨h1, h2, h3, h4⟩ := HB0.out.keep hBW
          obtain ⟨v, hv⟩ := HB0.out.res
          exact ⟨h1, h2, h3, h4.cons (by have := hv.lt; omega) hDe hD HB0.out.marks.lt⟩)
        obtain ⟨vr1, hres⟩ := HBN.out.res
        have cres := hres.cell
        have fres := hres.frozen
        clear hA hBW hDe hS hres
        go_wp2
        exact bf_leaves (ds := D :: ds) (by first | rfl | exact hfit) rfl (HBN.out.fin true).1 (HBN.out.fin true).2.1 (HBN.out.fin true).2.2
      case stop =>
        rintro D c pre W hD hSp ⟨⟨rfl, z, hz, hzf⟩, hBw, hBr, hM⟩ hDe
        have hF : blkFit m x = false := by
          rw [HIF.out, ← usedEAt_vals bb (ob + 1) x.fin]
          cases hq : (List.map (fun t => t.2) (usedEAt bb (ob + 1) x.fin)).all (belowB · m)
          · rfl
          · rw [List.all_eq_true.1 hq z.val.2 (List.mem_map.2 ⟨z.val, hSp.subset (List.mem_map.2 ⟨z, hz, rfl⟩), rfl⟩)] at hzf
            cases hzf
        obtain ⟨v, hv⟩ := HB0.out.res
        have HMM := Lib.hid (hM.cons (by have := hv.lt; omega) hDe hD HB0.out.marks.lt)
        refine (wpIn_wide (n := 9)).2 ?_
        go_wp2
        exact bf_leaves (ds := D :: ds) hF rfl hBw hBr HMM.out
end Go.Proofs.YtcijaaiopfbffaaDoor.Live
