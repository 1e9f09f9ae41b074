/- The law GraphCopies, at any module. -/
import Derived.Test.YtacbfjinellonaaKS
import Derived.Test.YtacbfjinellonaaLg
import Derived.Test.YtacbfjinellonaaJc
import Derived.Test.YtacbfjinellonaaHh
namespace Go.Proofs.Ytacbfjinellonaa.Graph
open Go.RowKit

theorem Soft.keep {S T : Nat → Prop} {w wr : World} (h : Soft S w wr) (hn : ∀ b, T b → ¬ S b) : Holds2 (cutW T w) (cutW T wr) := cut_to h.size fun b hb ht => ⟨ht, h.out b hb (hn b ht)⟩
theorem Soft.below {S : Nat → Prop} {w wr : World} {B : Nat} (h : Soft S w wr) (hB : B ≤ w.heap.size) (hn : ∀ b, b < B → ¬ S b) : Below B w wr := ⟨h.os, h.tape, h.output, h.size, fun k hk => h.out k (Nat.lt_of_lt_of_le hk hB) (hn k hk)⟩
/-- New blocks of one world, seen from a later one. -/
def Part (w wa : World) (b : Nat) : Prop := w.heap.size ≤ b ∧ b < wa.heap.size ∧ Unf wa b
theorem part_of {w wa : World} {vg va vf : Value} {x : PMod} (h : ModL (cutW (New w.heap.size wa) wa) vg va vf x) : ModL (cutW (Part w wa) wa) vg va vf x :=
  ModL.holds (cut_to (Nat.le_refl _) fun _b hb hn => ⟨⟨hn.1, hb, hn.2⟩, rfl⟩) h
theorem part_keep {w wa w' : World} {vg va vf : Value} {x : PMod} (h : ModL (cutW (Part w wa) wa) vg va vf x) (hb : Below wa.heap.size wa w') : ModL (cutW (Part w wa) w') vg va vf x :=
  ModL.holds (cut_same hb.size fun b hp => hb.block b hp.2.1) h
theorem part_unf {w wa w' : World} (hb : Below wa.heap.size wa w') : ∀ b, Part w wa b → Unf w' b := fun b hp => unf_keep hp.2.2 (hb.block b hp.2.1)
theorem old_part {w wx : World} {vg va vf : Value} {x : PMod} (h : ModL w vg va vf x) (hb : Below w.heap.size w wx) : ModL (cutW (fun b => b < w.heap.size) wx) vg va vf x :=
  ModL.holds (to_cut (S := fun b => b < w.heap.size) ⟨hb.size, fun b o _v hc => (hb.cell (p := ⟨b, o, none⟩) (World.block_lt_of_cell? w _ hc)).trans hc⟩ fun _b _o _v hc => World.block_lt_of_cell? w _ hc) h
theorem cut_below {S : Nat → Prop} {w w' : World} {vg va vf : Value} {x : PMod} (h : ModL (cutW S w) vg va vf x) (hS : ∀ b, S b → b < w.heap.size) (hb : Below w.heap.size w w') : ModL (cutW S w') vg va vf x :=
  ModL.holds (cut_same hb.size fun b hp => hb.block b (hS b hp)) h
theorem whole {S : Nat → Prop} {w : World} {vg va vf : Value} {x : PMod} (h : ModL (cutW S w) vg va vf x) : ModL w vg va vf x := ModL.holds (cut_out _ _) h
def SpoilsOK : Prop := ∀ (S : Nat → Prop) (x : PMod) (vg va vf : Value) (w : World), (∀ b, S b → b < w.heap.size) → (∀ b, S b → Unf w b) → ModL (cutW S w) vg va vf x → SmM x →
    Calls Try.prog 18 #[modV x vg va vf] w fun e w' => e = .returned (.tuple #[]) ∧ Soft S w w'
theorem soft_cut {S T : Nat → Prop} {w w' : World} {vg va vf : Value} {x : PMod} (h : ModL (cutW T w) vg va vf x) (hs : Soft S w w') (hn : ∀ b, T b → ¬ S b) : ModL (cutW T w') vg va vf x := ModL.holds (hs.keep hn) h
set_option maxHeartbeats 2000000 in
set_option maxRecDepth 100000 in
theorem copies_any (hsp : SpoilsOK) (x : PMod) (vg va vf : Value) (w : World) (hL : ModL w vg va vf x) (hs : SmM x) :
    Calls Try.prog 5 #[modV x vg va vf] w (Is (.bool true) w) := by
  obtain ⟨gp, gc, rfl⟩ := hL.globals.form
  obtain ⟨ap, ac, rfl⟩ := hL.arrays.form
  obtain ⟨fp, fc, rfl⟩ := hL.funcs.form
  have HL := Lib.hid hL
  have HS := Lib.hid hs
  have HSP := Lib.hid hsp
  clear hL hs hsp
  unfold modV
  go_enter Try.func5, Try.ntmps5
  go_upto_region 1 with (fail)
  have H1 := Lib.hid (below_alloc w (.cells #[.slice gp x.globals.length gc, .slice ap x.arrays.length ac, .slice fp x.funcs.length fc, .int .i64 x.main] 26))
  have N1 := Lib.hid (heap_new w (.cells #[.slice gp x.globals.length gc, .slice ap x.arrays.length ac, .slice fp x.funcs.length fc, .int .i64 x.main] 26))
  generalize hw1 : w.alloc (.cells #[.slice gp x.globals.length gc, .slice ap x.arrays.length ac, .slice fp x.funcs.length fc, .int .i64 x.main] 26) = w1 at H1 N1 ⊢
  obtain ⟨g, hg⟩ : ∃ g, g = w.heap.size := ⟨_, rfl⟩
  have HG := Lib.hid hg
  rw [← hg] at N1
  rw [← hg]
  clear hw1 hg
  obtain ⟨b0, _⟩ := cell_of_block N1.out (k := 0) rfl
  obtain ⟨b1, _⟩ := cell_of_block N1.out (k := 1) rfl
  obtain ⟨b2, _⟩ := cell_of_block N1.out (k := 2) rfl
  obtain ⟨b3, _⟩ := cell_of_block N1.out (k := 3) rfl
  have hlg := lt_of_block N1.out
  go_upto_region 2 with (
    go_at_call 7
    fail)
  refine (refCopy_any copyGraph_any x _ _ _ w1 (HL.out.below H1.out) HS.out).mono ?_
  rintro e wa ⟨oq, oq1, oq2, od, od1, od2, rfl, ho, hba⟩
  have HO1 := Lib.hid (part_of ho)
  have HBA := Lib.hid hba
  unfold modV
  clear ho hba
  go_upto_region 2 with (fail)
  have hn2 := heap_new wa (.cells #[.slice oq x.globals.length od, .slice oq1 x.arrays.length od1, .slice oq2 x.funcs.length od2, .int .i64 x.main] 26)
  have hb2 := below_alloc wa (.cells #[.slice oq x.globals.length od, .slice oq1 x.arrays.length od1, .slice oq2 x.funcs.length od2, .int .i64 x.main] 26)
  generalize hw2 : wa.alloc (.cells #[.slice oq x.globals.length od, .slice oq1 x.arrays.length od1, .slice oq2 x.funcs.length od2, .int .i64 x.main] 26) = w2
  rw [hw2] at hn2 hb2
  have HB2 := Lib.hid hb2
  have HO2 := Lib.hid (part_keep HO1.out hb2)
  obtain ⟨o3, ho3⟩ : ∃ o3, o3 = wa.heap.size := ⟨_, rfl⟩
  have HO3 := Lib.hid ho3
  rw [← ho3] at hn2
  rw [← ho3]
  have N2 := Lib.hid hn2
  obtain ⟨r0, _⟩ := cell_of_block hn2 (k := 0) rfl
  obtain ⟨r1, _⟩ := cell_of_block hn2 (k := 1) rfl
  obtain ⟨r2, _⟩ := cell_of_block hn2 (k := 2) rfl
  obtain ⟨r3, _⟩ := cell_of_block hn2 (k := 3) rfl
  have hlr := lt_of_block hn2
  clear hw2 hn2 hb2 ho3 hlg
  clear b0 b1 b2 b3
  go_upto_region 3 with (
    go_at_call 17
    fail)
  refine (Copy_any x _ _ _ w2 (whole HO2.out) HS.out).mono ?_
  rintro e wb ⟨vg, va, vf, rfl, ha, hbb⟩
  obtain ⟨aq, ad, rfl⟩ := ha.globals.form
  obtain ⟨aq1, ad1, rfl⟩ := ha.arrays.form
  obtain ⟨aq2, ad2, rfl⟩ := ha.funcs.form
  have HA1 := Lib.hid (part_of ha)
  have HBB := Lib.hid hbb
  unfold modV
  clear ha hbb
  go_upto_region 3 with (fail)
  have hn3 := heap_new wb (.cells #[.slice aq x.globals.length ad, .slice aq1 x.arrays.length ad1, .slice aq2 x.funcs.length ad2, .int .i64 x.main] 26)
  have hb3 := below_alloc wb (.cells #[.slice aq x.globals.length ad, .slice aq1 x.arrays.length ad1, .slice aq2 x.funcs.length ad2, .int .i64 x.main] 26)
  generalize hw3 : wb.alloc (.cells #[.slice aq x.globals.length ad, .slice aq1 x.arrays.length ad1, .slice aq2 x.funcs.length ad2, .int .i64 x.main] 26) = w3
  rw [hw3] at hn3 hb3
  have HB3 := Lib.hid hb3
  have H23 := Lib.hid (below_then HBB.out hb3)
  obtain ⟨o4, ho4⟩ : ∃ o4, o4 = wb.heap.size := ⟨_, rfl⟩
  have HO4 := Lib.hid ho4
  rw [← ho4] at hn3
  rw [← ho4]
  have N3 := Lib.hid hn3
  clear r0 r1 r2 r3
  have hr3 := (H23.out.block o3 (lt_of_block N2.out)).trans N2.out
  obtain ⟨r0, _⟩ := cell_of_block hr3 (k := 0) rfl
  obtain ⟨r1, _⟩ := cell_of_block hr3 (k := 1) rfl
  obtain ⟨r2, _⟩ := cell_of_block hr3 (k := 2) rfl
  obtain ⟨r3, _⟩ := cell_of_block hr3 (k := 3) rfl
  have hlr3 := lt_of_block hr3
  clear hw3 hn3 hb3 ho4 hr3 hlr
  go_upto_region 4 with (
    go_at_call 17
    fail)
  refine (Copy_any x _ _ _ w3 (whole (part_keep HO1.out (below_then HB2.out H23.out))) HS.out).mono ?_
  rintro e wc ⟨vg, va, vf, rfl, hc, hbc⟩
  obtain ⟨bq, bd, rfl⟩ := hc.globals.form
  obtain ⟨bq1, bd1, rfl⟩ := hc.arrays.form
  obtain ⟨bq2, bd2, rfl⟩ := hc.funcs.form
  have HC1 := Lib.hid (part_of hc)
  have HBC := Lib.hid hbc
  unfold modV
  clear hc hbc
  go_upto_region 4 with (fail)
  have hn4 := heap_new wc (.cells #[.slice bq x.globals.length bd, .slice bq1 x.arrays.length bd1, .slice bq2 x.funcs.length bd2, .int .i64 x.main] 26)
  have hb4 := below_alloc wc (.cells #[.slice bq x.globals.length bd, .slice bq1 x.arrays.length bd1, .slice bq2 x.funcs.length bd2, .int .i64 x.main] 26)
  generalize hw4 : wc.alloc (.cells #[.slice bq x.globals.length bd, .slice bq1 x.arrays.length bd1, .slice bq2 x.funcs.length bd2, .int .i64 x.main] 26) = w4
  rw [hw4] at hn4 hb4
  have HB4 := Lib.hid hb4
  have H34 := Lib.hid (below_then HBC.out hb4)
  have H24 := Lib.hid (below_then H23.out H34.out)
  have Ha4 := Lib.hid (below_then HB2.out H24.out)
  have H14 := Lib.hid (below_then HBA.out Ha4.out)
  have H04 := Lib.hid (below_then H1.out H14.out)
  have Hb4 := Lib.hid (below_then HB3.out H34.out)
  obtain ⟨o5, ho5⟩ : ∃ o5, o5 = wc.heap.size := ⟨_, rfl⟩
  have HO5 := Lib.hid ho5
  rw [← ho5] at hn4
  rw [← ho5]
  have P5 := Lib.hid hn4
  have P0 := Lib.hid ((H14.out.block g (lt_of_block N1.out)).trans N1.out)
  have P3 := Lib.hid ((H24.out.block o3 (lt_of_block N2.out)).trans N2.out)
  have P4 := Lib.hid ((H34.out.block o4 (lt_of_block N3.out)).trans N3.out)
  have M4 := Lib.hid (old_part HL.out H04.out)
  have O4 := Lib.hid (part_keep HO1.out Ha4.out)
  have A4 := Lib.hid (part_keep HA1.out Hb4.out)
  have B4 := Lib.hid (part_keep HC1.out HB4.out)
  have UA := Lib.hid (part_unf (w := w2) (wa := wb) Hb4.out)
  have UO := Lib.hid (part_unf (w := w1) (wa := wa) Ha4.out)
  -- the sizes, one behind the other
  have SZ : Hid (g < w1.heap.size ∧ w.heap.size ≤ g ∧ w1.heap.size ≤ wa.heap.size ∧ o3 = wa.heap.size ∧ o3 < w2.heap.size ∧ w2.heap.size ≤ wb.heap.size ∧ o4 = wb.heap.size ∧ o4 < w3.heap.size ∧ w3.heap.size ≤ wc.heap.size ∧ o5 = wc.heap.size ∧ o5 < w4.heap.size) :=
    Lib.hid ⟨lt_of_block N1.out, Nat.le_of_eq HG.out.symm, HBA.out.size, HO3.out, lt_of_block N2.out, HBB.out.size, HO4.out, lt_of_block N3.out, HBC.out.size, HO5.out, lt_of_block P5.out⟩
  clear r0 r1 r2 r3
  obtain ⟨b0, _⟩ := cell_of_block P0.out (k := 0) rfl
  obtain ⟨b1, _⟩ := cell_of_block P0.out (k := 1) rfl
  obtain ⟨b2, _⟩ := cell_of_block P0.out (k := 2) rfl
  obtain ⟨b3, _⟩ := cell_of_block P0.out (k := 3) rfl
  obtain ⟨a0, _⟩ := cell_of_block P4.out (k := 0) rfl
  obtain ⟨a1, _⟩ := cell_of_block P4.out (k := 1) rfl
  obtain ⟨a2, _⟩ := cell_of_block P4.out (k := 2) rfl
  obtain ⟨a3, _⟩ := cell_of_block P4.out (k := 3) rfl
  obtain ⟨c0, _⟩ := cell_of_block P5.out (k := 0) rfl
  obtain ⟨c1, _⟩ := cell_of_block P5.out (k := 1) rfl
  obtain ⟨c2, _⟩ := cell_of_block P5.out (k := 2) rfl
  obtain ⟨c3, _⟩ := cell_of_block P5.out (k := 3) rfl
  have l0 := lt_of_block P0.out
  have l4 := lt_of_block P4.out
  have l5 := lt_of_block P5.out
  have S1 := Lib.hid (fun (wx : World) (hx : Below w4.heap.size w4 wx) => same_any x _ _ _ _ _ _ wx ((whole A4.out).below hx) ((whole M4.out).below hx))
  have S2 := Lib.hid (fun (wx : World) (hx : Below w4.heap.size w4 wx) => same_any x _ _ _ _ _ _ wx ((whole B4.out).below hx) ((whole M4.out).below hx))
  unfold modV at S1 S2
  clear hw4 hn4 hb4 ho5 hlr3 HO2 N1 N2 N3 HB2 HB3 HB4 HBA HBB HBC H23 H34 H14 HO1 HA1 HC1 HO3 HO4 HO5 HG
  go_upto_region 6 with (first
    | (have hlater := H5
       go_at_call 10
       go_loud (refine (S2.out _ H5.out).mono ?_)
       rintro e w6 ⟨rfl, h6⟩
       have H6 := Lib.hid (below_then H5.out h6)
       clear h6 hlater)
    | (go_at_call 10
       go_loud (refine (S1.out _ (Below.refl _ _)).mono ?_)
       rintro e w5 ⟨rfl, h5⟩
       have H5 := Lib.hid h5
       have hp0 := (h5.block g l0).trans P0.out
       have hp5 := (h5.block o5 l5).trans P5.out
       obtain ⟨p0, _⟩ := cell_of_block hp0 (k := 0) rfl
       obtain ⟨p1, _⟩ := cell_of_block hp0 (k := 1) rfl
       obtain ⟨p2, _⟩ := cell_of_block hp0 (k := 2) rfl
       obtain ⟨p3, _⟩ := cell_of_block hp0 (k := 3) rfl
       obtain ⟨q0, _⟩ := cell_of_block hp5 (k := 0) rfl
       obtain ⟨q1, _⟩ := cell_of_block hp5 (k := 1) rfl
       obtain ⟨q2, _⟩ := cell_of_block hp5 (k := 2) rfl
       obtain ⟨q3, _⟩ := cell_of_block hp5 (k := 3) rfl
       have l0' := lt_of_block hp0
       have l5' := lt_of_block hp5
       clear h5 hp0 hp5))
  clear S1 S2 H5 l0' l5'
  clear b0 b1 b2 b3 a0 a1 a2 a3 c0 c1 c2 c3 p0 p1 p2 p3 q0 q1 q2 q3
  have hp4 := (H6.out.block o4 l4).trans P4.out
  obtain ⟨a0, _⟩ := cell_of_block hp4 (k := 0) rfl
  obtain ⟨a1, _⟩ := cell_of_block hp4 (k := 1) rfl
  obtain ⟨a2, _⟩ := cell_of_block hp4 (k := 2) rfl
  obtain ⟨a3, _⟩ := cell_of_block hp4 (k := 3) rfl
  have l4' := lt_of_block hp4
  have hs6 := H6.out.size
  have S3 := Lib.hid (HSP.out (Part w2 wb) x _ _ _ w6 (fun b hb => by have := hb.2.1; have := SZ.out; omega) (fun b hb => unf_keep (UA.out b hb) (H6.out.block b (by have := hb.2.1; have := SZ.out; omega))) (cut_below A4.out (fun b hb => by have := hb.2.1; have := SZ.out; omega) H6.out) HS.out)
  unfold modV at S3
  clear hp4
  go_upto_region 7 with (
       go_at_call 18
       go_loud (refine S3.out.mono ?_)
       rintro e w7 ⟨rfl, h7⟩
       have H7 := Lib.hid h7
       clear h7)
  clear S3 l4'
  clear a0 a1 a2 a3
  have Q0 := Lib.hid ((H7.out.out g (by omega) (fun h => by have := h.1; have := SZ.out; omega)).trans ((H6.out.block g l0).trans P0.out))
  have l3 : o3 < w4.heap.size := lt_of_block P3.out
  have Q3 := Lib.hid ((H7.out.out o3 (by omega) (fun h => by have := h.1; have := SZ.out; omega)).trans ((H6.out.block o3 l3).trans P3.out))
  have Q5 := Lib.hid ((H7.out.out o5 (by omega) (fun h => by have := h.2.1; have := SZ.out; omega)).trans ((H6.out.block o5 l5).trans P5.out))
  have M7 := Lib.hid (soft_cut (cut_below M4.out (fun b hb => by have := SZ.out; omega) H6.out) H7.out (fun b hb h => by have := h.1; have := SZ.out; omega))
  have O7 := Lib.hid (soft_cut (cut_below O4.out (fun b hb => by have := hb.2.1; have := SZ.out; omega) H6.out) H7.out (fun b hb h => by have := h.1; have := hb.2.1; have := SZ.out; omega))
  have B7 := Lib.hid (soft_cut (cut_below B4.out (fun b hb => by have := hb.2.1; have := SZ.out; omega) H6.out) H7.out (fun b hb h => by have := hb.1; have := h.2.1; have := SZ.out; omega))
  have U7 : Hid (∀ b, Part w1 wa b → Unf w7 b) := Lib.hid (fun b hb => unf_keep (UO.out b hb) ((H7.out.out b (by have := hb.2.1; have := SZ.out; omega) (fun h => by have := h.1; have := hb.2.1; have := SZ.out; omega)).trans (H6.out.block b (by have := hb.2.1; have := SZ.out; omega))))
  have hs7 := H7.out.size
  obtain ⟨b0, _⟩ := cell_of_block Q0.out (k := 0) rfl
  obtain ⟨b1, _⟩ := cell_of_block Q0.out (k := 1) rfl
  obtain ⟨b2, _⟩ := cell_of_block Q0.out (k := 2) rfl
  obtain ⟨b3, _⟩ := cell_of_block Q0.out (k := 3) rfl
  obtain ⟨r0, _⟩ := cell_of_block Q3.out (k := 0) rfl
  obtain ⟨r1, _⟩ := cell_of_block Q3.out (k := 1) rfl
  obtain ⟨r2, _⟩ := cell_of_block Q3.out (k := 2) rfl
  obtain ⟨r3, _⟩ := cell_of_block Q3.out (k := 3) rfl
  have l07 := lt_of_block Q0.out
  have l37 := lt_of_block Q3.out
  have l57 := lt_of_block Q5.out
  have S5 := Lib.hid (fun (wx : World) (hx : Below w7.heap.size w7 wx) => same_any x _ _ _ _ _ _ wx ((whole O7.out).below hx) ((whole M7.out).below hx))
  have S6 := Lib.hid (fun (wx : World) (hx : Below w7.heap.size w7 wx) => same_any x _ _ _ _ _ _ wx ((whole B7.out).below hx) ((whole M7.out).below hx))
  unfold modV at S5 S6
  go_upto_region 8 with (first
    | (have hlater := H8
       go_at_call 10
       go_loud (refine (S6.out _ H8.out).mono ?_)
       rintro e w9 ⟨rfl, h9⟩
       have H9 := Lib.hid (below_then H8.out h9)
       clear h9 hlater)
    | (go_at_call 10
       go_loud (refine (S5.out _ (Below.refl _ _)).mono ?_)
       rintro e w8 ⟨rfl, h8⟩
       have H8 := Lib.hid h8
       have hp0 := (h8.block g l07).trans Q0.out
       have hp5 := (h8.block o5 l57).trans Q5.out
       obtain ⟨p0, _⟩ := cell_of_block hp0 (k := 0) rfl
       obtain ⟨p1, _⟩ := cell_of_block hp0 (k := 1) rfl
       obtain ⟨p2, _⟩ := cell_of_block hp0 (k := 2) rfl
       obtain ⟨p3, _⟩ := cell_of_block hp0 (k := 3) rfl
       obtain ⟨q0, _⟩ := cell_of_block hp5 (k := 0) rfl
       obtain ⟨q1, _⟩ := cell_of_block hp5 (k := 1) rfl
       obtain ⟨q2, _⟩ := cell_of_block hp5 (k := 2) rfl
       obtain ⟨q3, _⟩ := cell_of_block hp5 (k := 3) rfl
       have l0' := lt_of_block hp0
       have l5' := lt_of_block hp5
       clear h8 hp0 hp5))
  clear S5 S6 H8 l0' l5'
  clear b0 b1 b2 b3 r0 r1 r2 r3 p0 p1 p2 p3 q0 q1 q2 q3
  have hp3 := (H9.out.block o3 l37).trans Q3.out
  obtain ⟨r0, _⟩ := cell_of_block hp3 (k := 0) rfl
  obtain ⟨r1, _⟩ := cell_of_block hp3 (k := 1) rfl
  obtain ⟨r2, _⟩ := cell_of_block hp3 (k := 2) rfl
  obtain ⟨r3, _⟩ := cell_of_block hp3 (k := 3) rfl
  have l3' := lt_of_block hp3
  have hs9 := H9.out.size
  have S7 := Lib.hid (HSP.out (Part w1 wa) x _ _ _ w9 (fun b hb => by have := hb.2.1; have := SZ.out; omega) (fun b hb => unf_keep (U7.out b hb) (H9.out.block b (by have := hb.2.1; have := SZ.out; omega))) (cut_below O7.out (fun b hb => by have := hb.2.1; have := SZ.out; omega) H9.out) HS.out)
  unfold modV at S7
  clear hp3
  go_upto_region 9 with (
       go_at_call 18
       go_loud (refine S7.out.mono ?_)
       rintro e w10 ⟨rfl, h10⟩
       have H10 := Lib.hid h10
       clear h10)
  clear S7 l3'
  clear r0 r1 r2 r3
  have R0 := Lib.hid ((H10.out.out g (by omega) (fun h => by have := h.1; have := SZ.out; omega)).trans ((H9.out.block g l07).trans Q0.out))
  have R5 := Lib.hid ((H10.out.out o5 (by omega) (fun h => by have := h.2.1; have := SZ.out; omega)).trans ((H9.out.block o5 l57).trans Q5.out))
  have M10 := Lib.hid (soft_cut (cut_below M7.out (fun b hb => by have := SZ.out; omega) H9.out) H10.out (fun b hb h => by have := h.1; have := SZ.out; omega))
  have B10 := Lib.hid (soft_cut (cut_below B7.out (fun b hb => by have := hb.2.1; have := SZ.out; omega) H9.out) H10.out (fun b hb h => by have := hb.1; have := h.2.1; have := SZ.out; omega))
  have S8 := Lib.hid (fun (wx : World) (hx : Below w10.heap.size w10 wx) => same_any x _ _ _ _ _ _ wx ((whole B10.out).below hx) ((whole M10.out).below hx))
  unfold modV at S8
  have HB10 : Hid (Below w.heap.size w w10) := Lib.hid (by
    have h6 := below_then H04.out H6.out
    have h7 := h6.trans (H7.out.below (B := w.heap.size) h6.size (fun b hb h => by have := h.1; have := SZ.out; omega))
    have h9 := h7.trans (H9.out.mono h7.size)
    exact h9.trans (H10.out.below (B := w.heap.size) h9.size (fun b hb h => by have := h.1; have := SZ.out; omega)))
  obtain ⟨b0, _⟩ := cell_of_block R0.out (k := 0) rfl
  obtain ⟨b1, _⟩ := cell_of_block R0.out (k := 1) rfl
  obtain ⟨b2, _⟩ := cell_of_block R0.out (k := 2) rfl
  obtain ⟨b3, _⟩ := cell_of_block R0.out (k := 3) rfl
  obtain ⟨c0, _⟩ := cell_of_block R5.out (k := 0) rfl
  obtain ⟨c1, _⟩ := cell_of_block R5.out (k := 1) rfl
  obtain ⟨c2, _⟩ := cell_of_block R5.out (k := 2) rfl
  obtain ⟨c3, _⟩ := cell_of_block R5.out (k := 3) rfl
  have l010 := lt_of_block R0.out
  have l510 := lt_of_block R5.out
  go_wp2_with (first
    | (go_at_call 10
       go_loud (refine (S8.out _ (Below.refl _ _)).mono ?_)
       rintro e w11 ⟨rfl, h11⟩
       have H11 := Lib.hid h11
       clear h11)
    | (go_at_call 11
       go_loud (refine (live_any w11).mono ?_)
       rintro e w12 ⟨rfl, h12⟩
       have H12 := Lib.hid (below_then H11.out h12)
       clear h12))
  go_ret
  exact ⟨rfl, HB10.out.trans (H12.out.mono HB10.out.size)⟩
end Go.Proofs.Ytacbfjinellonaa.Graph
