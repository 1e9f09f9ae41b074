/- run's enter, at a machine that has no call yet. -/
import Derived.Test.YthaombggdchgbaaRb
namespace Go.Proofs.Ythaombggdchgbaa.Graph
open Go.RowKit
theorem info_call : (Try.prog.info? 107).map (fun i => (i.zero, i.size, i.bytes)) = some (some (.agg #[.pointer none, .int .i64 0, .int .i64 0, .slice none 0 0, .slice none 0 0, .slice none 0 0, .int .i64 0]), 7, 104) := by kernel_rfl
def machCs (fp : Option Addr) (fc n : Nat) (gp rp : Option Addr) (gc rc : Nat) (mn fuel : Int) (s : Value) (C k : Nat) (read steps stop : Int) (code : Int) (ad : Value) (bp : Option Addr) (bn bc : Nat) (two : Value) : Array Value :=
  #[.slice gp 0 gc, .slice rp 0 rc, .slice fp n fc, .int .i64 mn, .slice none 0 0, .slice none 0 0, s, .int .i64 read, ad, .slice bp bn bc, .int .i64 fuel, .int .i64 steps, .int .i64 stop, .int .u32 code, .slice (some ⟨C, 0, none⟩) k 50, two]
def callZ : Array Value := madeCells #[.pointer none, .int .i64 0, .int .i64 0, .slice none 0 0, .slice none 0 0, .slice none 0 0, .int .i64 0] 350
theorem callZ_at : callZ[0]? = some (.pointer none) ∧ callZ[1]? = some (.int .i64 0) ∧ callZ[2]? = some (.int .i64 0) ∧ callZ[3]? = some (.slice none 0 0) ∧ callZ[4]? = some (.slice none 0 0) ∧ callZ[5]? = some (.slice none 0 0) ∧ callZ[6]? = some (.int .i64 0) := by
  refine ⟨?_, ?_, ?_, ?_, ?_, ?_, ?_⟩ <;> kernel_rfl
/-- All but the blocks M and C is as it was. -/
structure Only2 (w wr : World) (M C : Nat) : Prop where
  os : wr.os = w.os
  tape : wr.tape = w.tape
  output : wr.output = w.output
  size : w.heap.size ≤ wr.heap.size
  out : ∀ b, b < w.heap.size → b ≠ M → b ≠ C → wr.heap[b]? = w.heap[b]?
theorem Only2.refl (w : World) (M C : Nat) : Only2 w w M C := ⟨rfl, rfl, rfl, Nat.le_refl _, fun _ _ _ _ => rfl⟩
theorem Only2.trans {w w2 w3 : World} {M C : Nat} (h : Only2 w w2 M C) (h2 : Only2 w2 w3 M C) : Only2 w w3 M C :=
  ⟨h2.os.trans h.os, h2.tape.trans h.tape, h2.output.trans h.output, Nat.le_trans h.size h2.size, fun b hb h3 h4 => (h2.out b (Nat.lt_of_lt_of_le hb h.size) h3 h4).trans (h.out b hb h3 h4)⟩
theorem Only2.below {w wr : World} {M C : Nat} (h : Below w.heap.size w wr) : Only2 w wr M C := ⟨h.os, h.tape, h.output, h.size, fun b hb _ _ => h.block b hb⟩
theorem Only2.set {w : World} {M C b o : Nat} {v : Value} (h : b = M ∨ b = C) : Only2 w (w.setCell ⟨b, o, none⟩ v) M C :=
  ⟨rfl, rfl, rfl, by simp, fun b' _ h1 h2 => heap_setCell_other w ⟨b, o, none⟩ b' _ (fun e => by rcases h with h | h <;> (subst h; first | exact h1 e | exact h2 e))⟩
/-- A machine at M with one call, its row's cells cc, seen from w. -/
structure Ent (w wr : World) (M C : Nat) (m cc : Array Value) : Prop where
  only : Only2 w wr M C
  mach : wr.heap[M]? = some (.cells m 77 (0, 0))
  row : wr.heap[C]? = some (.cells cc 107 (0, 0))
theorem Ent.below {w wr w2 : World} {M C : Nat} {m cc : Array Value} (h : Ent w wr M C m cc) (hb : Below wr.heap.size wr w2) : Ent w w2 M C m cc :=
  ⟨h.only.trans (Only2.below hb), (hb.block M (lt_of_block h.mach)).trans h.mach, (hb.block C (lt_of_block h.row)).trans h.row⟩
theorem Ent.setRow {w wr : World} {M C o : Nat} {m cc : Array Value} (v : Value) (hMC : C ≠ M) (h : Ent w wr M C m cc) : Ent w (wr.setCell ⟨C, o, none⟩ v) M C m (cc.setIfInBounds o v) :=
  ⟨h.only.trans (Only2.set (.inr rfl)), (heap_setCell_other wr ⟨C, o, none⟩ M v (fun e => hMC e.symm)).trans h.mach, heap_setCell_same wr C o cc _ v h.row⟩
theorem Ent.drew {w wr : World} {M C : Nat} {m cc : Array Value} (h : Ent w wr M C m cc) : Ent w wr.drew M C m cc := h.below (Below.refl _ _).drew
theorem noughts_one2 (w : World) : Calls Try.prog 76 #[.slice none 0 0, .int .i64 1] w fun e w' => e = .returned (.slice (some ⟨w.heap.size, 0, none⟩) 1 1) ∧ Below w.heap.size w w' ∧ w'.heap[w.heap.size]? = some (.cells #[.int .u32 0] 34 (0, 0)) :=
  (noughts_one w).mono fun e w' ⟨h1, h2⟩ => ⟨h1, by rw [h2]; exact below_alloc _ _, by rw [h2]; exact heap_new _ _⟩
theorem Ent.cellF {w wr : World} {M C b o : Nat} {m cc : Array Value} (h : Ent w wr M C m cc) (hb : b < w.heap.size) (h1 : b ≠ M ∧ b ≠ C) : wr.cell? ⟨b, o, none⟩ = w.cell? ⟨b, o, none⟩ := by
  unfold World.cell?
  rw [h.only.out b hb h1.1 h1.2]
theorem row_set {cc : Array Value} {k : Nat} (v : Value) (hs : cc.size = 350) (hk : k < 350) : (cc.setIfInBounds k v).size = 350 ∧ (cc.setIfInBounds k v)[k]? = some v ∧ ∀ (j : Nat) (x : Value), j ≠ k → cc[j]? = some x → (cc.setIfInBounds k v)[j]? = some x :=
  ⟨by simp [hs], Array.getElem?_setIfInBounds_self_of_lt (by omega), fun j x hj hx => by rw [Array.getElem?_setIfInBounds_ne (by omega)]; exact hx⟩
set_option maxHeartbeats 4000000 in
set_option maxRecDepth 100000 in
theorem enter_first (fb fo fc : Nat) (gp rp : Option Addr) (gc rc : Nat) (fuel : Int) (s : Value) (M C : Nat) (read steps stop : Int) (code : Int) (ad : Value) (bp : Option Addr) (bn bc : Nat) (two : Value) (t : Int) (_pq aq : Option Addr) (an _qn : Nat) (w : World)
    (hM : w.heap[M]? = some (.cells (machCs (some ⟨fb, fo, none⟩) fc 1 gp rp gc rc 0 fuel s C 0 read steps stop code ad bp bn bc two) 77 (0, 0))) (hC : w.heap[C]? = some (.cells callZ 107 (0, 0))) (hMC : C ≠ M)
    (hfb : fb < w.heap.size) (hfM : fb ≠ M ∧ fb ≠ C) (h1 : w.cell? ⟨fb, fo + 1, none⟩ = some (.int .i64 t)) (h2 : w.cell? ⟨fb, fo + 2, none⟩ = some (.slice aq 0 an)) (ht : t = 0 ∨ t = 1) (hcap : 1 ≤ fc) :
    Calls Try.prog 56 #[.pointer (some ⟨M, 0, none⟩), .int .i64 0] w fun e w' => e = .returned (.pointer (some ⟨C, 0, none⟩)) ∧ ∃ cc, Ent w w' M C (machCs (some ⟨fb, fo, none⟩) fc 1 gp rp gc rc 0 fuel s C 1 read steps stop code ad bp bn bc two) cc ∧ cc[0]? = some (.pointer (some ⟨fb, fo, none⟩)) ∧ cc[1]? = some (.int .i64 0) ∧ cc[2]? = some (.int .i64 0) ∧ cc[6]? = some (.int .i64 0) ∧ ∃ q, cc[3]? = some (.slice q t.toNat t.toNat) ∧ (t = 1 → ∃ T, q = some ⟨T, 0, none⟩ ∧ w.heap.size ≤ T ∧ w'.heap[T]? = some (.cells #[.int .u32 0] 34 (0, 0))) := by
  obtain ⟨z0, z1, z2, z3, z4, z5, z6⟩ := callZ_at
  obtain ⟨m2, _⟩ := cell_of_block hM (k := 2) (v := .slice (some ⟨fb, fo, none⟩) 1 fc) rfl
  obtain ⟨m14, n14⟩ := cell_of_block hM (k := 14) (v := .slice (some ⟨C, 0, none⟩) 0 50) rfl
  have hlM := lt_of_block hM
  have hlC := lt_of_block hC
  have HM := Lib.hid hM
  have HC := Lib.hid hC
  clear hM hC
  go_enter Try.func56, Try.ntmps56
  go_upto_region 1 with (fail)
  go_cut [0] (fun v wc => v = .pointer (some ⟨M, 0, none⟩) ∧ Hid (Ent w wc M C (machCs (some ⟨fb, fo, none⟩) fc 1 gp rp gc rc 0 fuel s C 1 read steps stop code ad bp bn bc two) callZ))
  case first =>
    go_region
    all_goals
      go_wp2_with fail
      go_meet
      refine ⟨rfl, Lib.hid (Ent.drew ?_)⟩
      exact ⟨Only2.set (.inl rfl), heap_setCell_same w M 14 _ _ _ HM.out, (heap_setCell_other w ⟨M, 14, none⟩ C _ (fun e => hMC e)).trans HC.out⟩
  case rest =>
  obtain ⟨rfl, HE1⟩ := hcut
  clear m2 m14 n14
  obtain ⟨m14, _⟩ := cell_of_block HE1.out.mach (k := 14) (v := .slice (some ⟨C, 0, none⟩) 1 50) rfl
  have hlM1 := lt_of_block HE1.out.mach
  go_upto_region 2 with (fail)
  go_cut [5] (fun v wd => v = .pointer (some ⟨C, 0, none⟩) ∧ Hid (Ent w wd M C (machCs (some ⟨fb, fo, none⟩) fc 1 gp rp gc rc 0 fuel s C 1 read steps stop code ad bp bn bc two) callZ))
  case first =>
    go_region
    all_goals
      go_wp2_with fail
      go_meet
      exact ⟨rfl, Lib.hid HE1.out.drew⟩
  case rest =>
  obtain ⟨rfl, HE2⟩ := hcut
  clear m14 hlM1
  obtain ⟨m2, _⟩ := cell_of_block HE2.out.mach (k := 2) (v := .slice (some ⟨fb, fo, none⟩) 1 fc) rfl
  obtain ⟨c0, f0⟩ := cell_of_block HE2.out.row z0
  obtain ⟨c1, f1⟩ := cell_of_block HE2.out.row z1
  obtain ⟨c2, f2⟩ := cell_of_block HE2.out.row z2
  have hlM2 := lt_of_block HE2.out.mach
  have hlC2 := lt_of_block HE2.out.row
  have k2 : (1 : Int) ≤ fc := by omega
  have hsz : callZ.size = 350 := by kernel_rfl
  have HE3 := Lib.hid (Ent.setRow (o := 2) (.int .i64 0) hMC (Ent.setRow (o := 1) (.int .i64 0) hMC (Ent.setRow (o := 0) (.pointer (some ⟨fb, fo, none⟩)) hMC HE2.out)))
  obtain ⟨cc, hcc⟩ : ∃ cc, cc = ((callZ.setIfInBounds 0 (.pointer (some ⟨fb, fo, none⟩))).setIfInBounds 1 (.int .i64 0)).setIfInBounds 2 (.int .i64 0) := ⟨_, rfl⟩
  have y0 : cc[0]? = some (.pointer (some ⟨fb, fo, none⟩)) := by rw [hcc, Array.getElem?_setIfInBounds_ne (by omega), Array.getElem?_setIfInBounds_ne (by omega), Array.getElem?_setIfInBounds_self_of_lt (by omega)]
  have y1 : cc[1]? = some (.int .i64 0) := by rw [hcc, Array.getElem?_setIfInBounds_ne (by omega), Array.getElem?_setIfInBounds_self_of_lt (by simp; omega)]
  have y2 : cc[2]? = some (.int .i64 0) := by rw [hcc, Array.getElem?_setIfInBounds_self_of_lt (by simp; omega)]
  have y3 : cc[3]? = some (.slice none 0 0) := by rw [hcc, Array.getElem?_setIfInBounds_ne (by omega), Array.getElem?_setIfInBounds_ne (by omega), Array.getElem?_setIfInBounds_ne (by omega)]; exact z3
  have y4 : cc[4]? = some (.slice none 0 0) := by rw [hcc, Array.getElem?_setIfInBounds_ne (by omega), Array.getElem?_setIfInBounds_ne (by omega), Array.getElem?_setIfInBounds_ne (by omega)]; exact z4
  have y5 : cc[5]? = some (.slice none 0 0) := by rw [hcc, Array.getElem?_setIfInBounds_ne (by omega), Array.getElem?_setIfInBounds_ne (by omega), Array.getElem?_setIfInBounds_ne (by omega)]; exact z5
  have y6 : cc[6]? = some (.int .i64 0) := by rw [hcc, Array.getElem?_setIfInBounds_ne (by omega), Array.getElem?_setIfInBounds_ne (by omega), Array.getElem?_setIfInBounds_ne (by omega)]; exact z6
  have hcs : cc.size = 350 := by rw [hcc]; simp [hsz]
  rw [← hcc] at HE3
  have HY := Lib.hid (And.intro y0 (And.intro y1 (And.intro y2 (And.intro y3 (And.intro y4 (And.intro y5 y6))))))
  have HCS := Lib.hid hcs
  clear hcc y0 y1 y2 y3 y4 y5 y6 z0 z1 z2 z3 z4 z5 z6 hsz hcs
  go_upto_region 5 with (fail)
  generalize hw3 : ((World.setCell _ ⟨C, 0, none⟩ (.pointer (some ⟨fb, fo, none⟩))).setCell ⟨C, 1, none⟩ (.int .i64 0)).setCell ⟨C, 2, none⟩ (.int .i64 0) = w3
  rw [hw3] at HE3
  clear hw3 c0 c1 c2 f0 f1 f2 m2 hlM2 hlC2
  obtain ⟨c3, f3⟩ := cell_of_block HE3.out.row HY.out.2.2.2.1
  obtain ⟨c0, _⟩ := cell_of_block HE3.out.row HY.out.1
  have h1' := (HE3.out.cellF (o := fo + 1) hfb hfM).trans h1
  have hlC3 := lt_of_block HE3.out.row
  have hfb3 : fb < w3.heap.size := Nat.lt_of_lt_of_le hfb HE3.out.only.size
  go_cut [5] (fun v wd => v = .pointer (some ⟨C, 0, none⟩) ∧ Hid (∃ cc q, Ent w wd M C (machCs (some ⟨fb, fo, none⟩) fc 1 gp rp gc rc 0 fuel s C 1 read steps stop code ad bp bn bc two) cc ∧ cc.size = 350 ∧ cc[0]? = some (.pointer (some ⟨fb, fo, none⟩)) ∧ cc[1]? = some (.int .i64 0) ∧ cc[2]? = some (.int .i64 0) ∧ cc[3]? = some (.slice q t.toNat t.toNat) ∧ cc[4]? = some (.slice none 0 0) ∧ cc[5]? = some (.slice none 0 0) ∧ cc[6]? = some (.int .i64 0) ∧ (t = 1 → ∃ T, q = some ⟨T, 0, none⟩ ∧ w.heap.size ≤ T ∧ wd.heap[T]? = some (.cells #[.int .u32 0] 34 (0, 0)))))
  case first =>
    rcases ht with rfl | rfl
    · go_region_with (go_at_call 76; refine (noughts_none _).mono ?_; rintro e w5 ⟨rfl, hb⟩
                      have hk : Below w3.heap.size w3 w5 := (Below.refl _ w3).drew.trans hb
                      have x3 := (hk.cell (p := ⟨C, 3, none⟩) hlC3).trans c3
                      have y3 : w5.frozen? ⟨C, 3, none⟩ = false := by unfold World.frozen? at f3 ⊢; rw [hk.block C hlC3]; exact f3
                      have x0 := (hk.cell (p := ⟨C, 0, none⟩) hlC3).trans c0
                      have hlC5 : C < w5.heap.size := Nat.lt_of_lt_of_le hlC3 hk.size)
      all_goals
        go_wp2_with fail
        go_meet
        refine ⟨rfl, Lib.hid ?_⟩
        obtain ⟨s1, s2, s3⟩ := row_set (k := 3) (.slice none 0 0) HCS.out (by omega)
        obtain ⟨y0, y1, y2, y3, y4, y5, y6⟩ := HY.out
        refine ⟨_, none, ?_, s1, s3 0 _ (by omega) y0, s3 1 _ (by omega) y1, s3 2 _ (by omega) y2, s2, s3 4 _ (by omega) y4, s3 5 _ (by omega) y5, s3 6 _ (by omega) y6, fun ht => by omega⟩
        · first
            | exact Ent.setRow (o := 3) _ hMC (HE3.out.below hk)
            | exact (Ent.setRow (o := 3) _ hMC (HE3.out.below hk)).drew

    · go_region_with (go_at_call 76; refine (noughts_one2 _).mono ?_; rintro e w5 ⟨rfl, hb, hq⟩
                      have HQ : Hid (w5.heap[w3.heap.size]? = some (.cells #[.int .u32 0] 34 (0, 0))) := Lib.hid hq
                      have hk : Below w3.heap.size w3 w5 := (Below.refl _ w3).drew.trans hb
                      clear hq
                      have x3 := (hk.cell (p := ⟨C, 3, none⟩) hlC3).trans c3
                      have y3 : w5.frozen? ⟨C, 3, none⟩ = false := by unfold World.frozen? at f3 ⊢; rw [hk.block C hlC3]; exact f3
                      have x0 := (hk.cell (p := ⟨C, 0, none⟩) hlC3).trans c0
                      have hlC5 : C < w5.heap.size := Nat.lt_of_lt_of_le hlC3 hk.size)
      all_goals
        go_wp2_with fail
        go_meet
        refine ⟨rfl, Lib.hid ?_⟩
        obtain ⟨s1, s2, s3⟩ := row_set (k := 3) (.slice (some ⟨w3.heap.size, 0, none⟩) 1 1) HCS.out (by omega)
        obtain ⟨y0, y1, y2, y3, y4, y5, y6⟩ := HY.out
        refine ⟨_, some ⟨w3.heap.size, 0, none⟩, ?_, s1, s3 0 _ (by omega) y0, s3 1 _ (by omega) y1, s3 2 _ (by omega) y2, s2, s3 4 _ (by omega) y4, s3 5 _ (by omega) y5, s3 6 _ (by omega) y6, fun ht => ⟨w3.heap.size, rfl, HE3.out.only.size, ?_⟩⟩
        · first
            | exact Ent.setRow (o := 3) _ hMC (HE3.out.below hk)
            | exact (Ent.setRow (o := 3) _ hMC (HE3.out.below hk)).drew
        all_goals exact (heap_setCell_other w5 ⟨C, 3, none⟩ w3.heap.size _ (fun e => by have e2 : w3.heap.size = C := e; omega)).trans HQ.out

  case rest =>
  obtain ⟨rfl, HR5⟩ := hcut
  clear c3 f3 c0 h1' hlC3 hfb3 ht
  obtain ⟨cc5, q5, HE5, u1, u2, u3, u4, u5', u6', u7', u8', u9'⟩ := HR5.out
  have HE5 := Lib.hid HE5
  have HU := Lib.hid (And.intro u1 (And.intro u2 (And.intro u3 (And.intro u4 (And.intro u5' (And.intro u6' (And.intro u7' (And.intro u8' u9'))))))))
  clear u1 u2 u3 u4 u5' u6' u7' u8' u9' HR5
  go_upto_region 6 with (fail)
  obtain ⟨c4, f4⟩ := cell_of_block HE5.out.row HU.out.2.2.2.2.2.1
  obtain ⟨c0, _⟩ := cell_of_block HE5.out.row HU.out.2.1
  have h2' := (HE5.out.cellF (o := fo + 2) hfb hfM).trans h2
  have hlC5 := lt_of_block HE5.out.row
  have hfb5 := Nat.lt_of_lt_of_le hfb HE5.out.only.size
  obtain ⟨w5, hw5⟩ : ∃ w5, w5 = wc := ⟨_, rfl⟩
  rw [← hw5] at HE5 HU c4 f4 c0 h2' hlC5 hfb5 ⊢
  clear hw5
  go_cut [5] (fun v wd => v = .pointer (some ⟨C, 0, none⟩) ∧ Hid (∃ cc q, Ent w wd M C (machCs (some ⟨fb, fo, none⟩) fc 1 gp rp gc rc 0 fuel s C 1 read steps stop code ad bp bn bc two) cc ∧ cc.size = 350 ∧ cc[0]? = some (.pointer (some ⟨fb, fo, none⟩)) ∧ cc[1]? = some (.int .i64 0) ∧ cc[2]? = some (.int .i64 0) ∧ cc[3]? = some (.slice q t.toNat t.toNat) ∧ cc[4]? = some (.slice none 0 0) ∧ cc[5]? = some (.slice none 0 0) ∧ cc[6]? = some (.int .i64 0) ∧ (t = 1 → ∃ T, q = some ⟨T, 0, none⟩ ∧ w.heap.size ≤ T ∧ wd.heap[T]? = some (.cells #[.int .u32 0] 34 (0, 0)))))
  case first =>
    go_region_with (first
      | (have hlater := hk1
         go_at_call 76
         refine (noughts_none _).mono ?_
         rintro e wn ⟨rfl, hb2⟩
         have hk : Below w5.heap.size w5 wn := hk1.trans (hb2.mono hk1.size)
         have x4 := (hk.cell (p := ⟨C, 4, none⟩) hlC5).trans c4
         have y4 : wn.frozen? ⟨C, 4, none⟩ = false := by unfold World.frozen? at f4 ⊢; rw [hk.block C hlC5]; exact f4
         have x0 := (hk.cell (p := ⟨C, 0, none⟩) hlC5).trans c0
         have hlCn : C < wn.heap.size := Nat.lt_of_lt_of_le hlC5 hk.size)
      | (go_at_call 77
         refine (localWords_none fb fo an aq _ (by simpa using h2') (by simpa using hfb5)).mono ?_
         rintro e wl ⟨rfl, hb⟩
         have hk1 : Below w5.heap.size w5 wl := (Below.refl _ w5).drew.trans hb
         have x4' := (hk1.cell (p := ⟨C, 4, none⟩) hlC5).trans c4
         have x0' := (hk1.cell (p := ⟨C, 0, none⟩) hlC5).trans c0
         have hlCl : C < wl.heap.size := Nat.lt_of_lt_of_le hlC5 hk1.size))
    all_goals
      go_wp2_with fail
      go_meet
      refine ⟨rfl, Lib.hid ?_⟩
      obtain ⟨s1, s2, s3⟩ := row_set (k := 4) (.slice none 0 0) HU.out.1 (by omega)
      obtain ⟨_, y0, y1, y2, y3, y4', y5, y6, y7⟩ := HU.out
      refine ⟨_, q5, Ent.setRow (o := 4) _ hMC (HE5.out.below hk), s1, s3 0 _ (by omega) y0, s3 1 _ (by omega) y1, s3 2 _ (by omega) y2, s3 3 _ (by omega) y3, s2, s3 5 _ (by omega) y5, s3 6 _ (by omega) y6, fun ht => ?_⟩
      obtain ⟨T, e1, e2, e3⟩ := y7 ht
      refine ⟨T, e1, e2, (heap_setCell_other wn ⟨C, 4, none⟩ T _ (fun e => by have e4 : T = C := e; omega)).trans ((hk.block T (lt_of_block e3)).trans e3)⟩
  case rest =>
  obtain ⟨rfl, HR6⟩ := hcut
  clear c4 f4 c0 h2' hlC5 hfb5 HE5 HU
  obtain ⟨cc6, q6, HE6, u1, u2, u3, u4, u5', u6', u7', u8', u9'⟩ := HR6.out
  have HE6 := Lib.hid HE6
  have HU := Lib.hid (And.intro u1 (And.intro u2 (And.intro u3 (And.intro u4 (And.intro u5' (And.intro u6' (And.intro u7' (And.intro u8' u9'))))))))
  clear u1 u2 u3 u4 u5' u6' u7' u8' u9' HR6
  obtain ⟨c5, f5⟩ := cell_of_block HE6.out.row HU.out.2.2.2.2.2.2.1
  obtain ⟨c4, _⟩ := cell_of_block HE6.out.row HU.out.2.2.2.2.2.1
  obtain ⟨c0, _⟩ := cell_of_block HE6.out.row HU.out.2.1
  have h2' := (HE6.out.cellF (o := fo + 2) hfb hfM).trans h2
  have hlC6 := lt_of_block HE6.out.row
  have hfb6 := Nat.lt_of_lt_of_le hfb HE6.out.only.size
  have hCf : C ≠ fb := fun e => hfM.2 e.symm
  obtain ⟨w6, hw6⟩ : ∃ w6, w6 = wc := ⟨_, rfl⟩
  rw [← hw6] at HE6 HU c5 f5 c4 c0 h2' hlC6 hfb6 ⊢
  clear hw6
  go_wp2
  go_loopw [99] (fun i wr => i = .int .i64 0 ∧ wr = w6.setCell ⟨C, 5, none⟩ (.slice none 0 0)) (fun _ _ => 0)
  case atStart => exact ⟨rfl, rfl⟩
  case round =>
    obtain ⟨rfl, rfl⟩ := hrel
    go_wp2
    go_ret
    obtain ⟨s1, s2, s3⟩ := row_set (k := 5) (.slice none 0 0) HU.out.1 (by omega)
    obtain ⟨_, y0, y1, y2, y3, y4', y5, y6, y7⟩ := HU.out
    refine ⟨rfl, _, Ent.setRow (o := 5) _ hMC HE6.out, s3 0 _ (by omega) y0, s3 1 _ (by omega) y1, s3 2 _ (by omega) y2, s3 6 _ (by omega) y6, q6, s3 3 _ (by omega) y3, fun ht => ?_⟩
    obtain ⟨T, e1, e2, e3⟩ := y7 ht
    exact ⟨T, e1, e2, (heap_setCell_other w6 ⟨C, 5, none⟩ T _ (fun e => by have e4 : T = C := e; omega)).trans e3⟩
end Go.Proofs.Ythaombggdchgbaa.Graph
