/- An instruction and a label's place, written. No condition but that writer, map and places lie as they say. -/
import Derived.Test.YthojmbljlehpbaaGreatDoorG11
import Derived.Deep.RegionWith
import Derived.Laws.MakeOwn
import Derived.Deep.RegionLaw
namespace Go.Proofs.YthojmbljlehpbaaGreatDoor.Relax
open Go.RowKit Go.Proofs.YthojmbljlehpbaaGreatDoor.Enc Go.Proofs.YthojmbljlehpbaaGreatDoor.Graph Go.Maps

theorem PutPost.after {Z bm sb N bw : Nat} {G : Nat → Prop} {ws : List (Int × Int)} {w w2 : World} (hb : Below w.heap.size w w2) {e : Ending} {w' : World} (h : PutPost Z bm sb N bw G ws w2 e w') : PutPost Z bm sb N bw G ws w e w' := by
  obtain ⟨h1, G', vw, vk, h2, h3⟩ := h
  exact ⟨h1, G', vw, vk, h2, (WK.of_below G hb).trans h3⟩
set_option maxHeartbeats 4000000 in
set_option maxRecDepth 100000 in
theorem ins_prog (Z bm sb N bw : Nat) (G : Nat → Prop) (vw vk : Value) (ws : List (Int × Int)) (c : PC) (w : World) (h : WrR w Z bm sb N bw G vw vk ws) (hl : ws.length ≤ 100000) (hZ : Z ≤ w.heap.size) (hF : FormsAt w) :
    Calls Tryz.prog 88 #[.pointer (some ⟨bw, 0, none⟩), cV c] w (PutPost Z bm sb N bw G (ws ++ [((encP c).1, 1)]) w) := by
  obtain ⟨wd, er, hwd⟩ : ∃ wd er, encP c = (wd, er) := ⟨_, _, rfl⟩
  have HE := Lib.hid (fun (w : World) (hF : FormsAt w) => (enc_any c w hF).mono fun e w' (h : EncPost c w e w') => (⟨by rw [h.1, hwd], h.2⟩ : e = .returned (.tuple #[.int .u32 wd, .int .i64 er]) ∧ Below w.heap.size w w'))
  rw [hwd]
  have HP := Lib.hid (fun (w : World) h hZ => put_prog Z bm sb N bw G vw vk ws 1 wd w h hl hZ)
  have HW := Lib.hid h
  have HF := Lib.hid hF
  have HZ := Lib.hid hZ
  clear h hF hwd
  obtain ⟨op, fa, fb, imm⟩ := c
  unfold cV at HE ⊢
  simp only at HE ⊢
  go_enter Tryz.func88, Tryz.ntmps88
  go_wp2_with (first
    | (go_at_call 119; refine (HE.out _ (HF.out.alloc _)).mono ?_; rintro e w2 ⟨rfl, hb⟩; have HB := Lib.hid (bt (below_one w _) hb); clear hb)
    | (go_at_call 89; refine (HP.out _ (HW.out.below HB.out) (Nat.le_trans HZ.out HB.out.size)).mono ?_; rintro e w3 hp; have HPP := Lib.hid (PutPost.after HB.out hp); clear hp; obtain ⟨rfl, _⟩ := HPP.out))
  go_end0
  exact HPP.out
/-- What is read by a writer: the map of labels, where the parts begin. -/
structure Reads (w : World) (l : List PL) (bm sb N : Nat) (f : Nat → Int) : Prop where
  map : MapAt w bm 60000 l l.length
  row : RowI w sb N f
  n : (partsP l).length < N
  v : ∀ k, k < N → 0 ≤ f k ∧ f k ≤ 65536
theorem Reads.below {w w' : World} {l : List PL} {bm sb N : Nat} {f : Nat → Int} (h : Reads w l bm sb N f) {Z : Nat} (hb : Below Z w w') (h1 : bm < Z) (h2 : sb < Z) : Reads w' l bm sb N f := by
  obtain ⟨⟨es, clock, k1, k2⟩, k3, k4, k5⟩ := h
  exact ⟨⟨es, clock, (hb.block bm h1).trans k1, k2⟩, k3.of_block (hb.block sb h2), k4, k5⟩
/-- Where a label's place stands: the place at which it is. -/
def placeL (l : List PL) (f : Nat → Int) (lab : Int) : Int := f (toP l lab).toNat
set_option maxHeartbeats 4000000 in
set_option maxRecDepth 100000 in
theorem label_prog (l : List PL) (f : Nat → Int) (Z bm sb N bw : Nat) (G : Nat → Prop) (vw vk : Value) (ws : List (Int × Int)) (kind lab : Int) (w : World) (h : WrR w Z bm sb N bw G vw vk ws) (hl : ws.length ≤ 100000) (hZ : Z ≤ w.heap.size)
    (hR : Reads w l bm sb N f) (hlab : 0 ≤ lab ∧ lab ≤ 100000) :
    Calls Tryz.prog 90 #[.pointer (some ⟨bw, 0, none⟩), .int .i64 kind, .int .i64 lab] w (PutPost Z bm sb N bw G (ws ++ [(placeL l f lab, kind)]) w) := by
  have htb := toP_bd l lab
  obtain ⟨T, hT⟩ : ∃ T : Nat, toP l lab = (T : Int) := ⟨(toP l lab).toNat, by omega⟩
  have hTN : T < N := by have := hR.n; omega
  have hv := hR.v T hTN
  have hc := hR.row.cell (i := T) hTN
  have hpl : placeL l f lab = f T := by unfold placeL; rw [hT, Int.toNat_natCast]
  rw [hpl]
  have hlook := look_run (w := w) (b := bm) hR.map hlab
  have hlook2 := look_run (w := World.drew w) (b := bm) hR.map hlab
  rw [hT] at hlook2
  obtain ⟨⟨c0, c1, _, _⟩, _⟩ := four h.st
  have HP := Lib.hid (fun (w : World) h hZ => put_prog Z bm sb N bw G vw vk ws kind (f T) w h hl hZ)
  have HW := Lib.hid h
  have HZ := Lib.hid hZ
  have hlt := lt_of_block h.st
  have hsl := hR.row.lt
  generalize f T = v at *
  have i0 : (0 : Int) ≤ T := by omega
  have i1 : (T : Int) < N := by omega
  have i2 : IntKind.u32.wrap v = v := by rw [IntKind.wrap_u32]; omega
  have i3 : v % 4294967296 = v := by omega
  clear hlook hpl hT htb h hR hZ hlab hTN
  go_enter Tryz.func90, Tryz.ntmps90
  go_region_with (go_at_call 89; refine (HP.out (World.drew w) (HW.out.below (Below.refl _ _).drew) HZ.out).mono ?_; rintro e w3 hp; have HPP := Lib.hid (PutPost.after (Below.refl _ _).drew hp); clear hp; obtain ⟨rfl, _⟩ := HPP.out)
  all_goals
    go_wp2_with fail
    go_end0
    exact HPP.out
end Go.Proofs.YthojmbljlehpbaaGreatDoor.Relax
namespace Go.Proofs.YthojmbljlehpbaaGreatDoor.Relax
open Go.RowKit Go.Proofs.YthojmbljlehpbaaGreatDoor.Enc Go.Proofs.YthojmbljlehpbaaGreatDoor.Graph Go.Maps

theorem make0_u32 (A : Nat) (hA : A ≤ 65536) (w : World) : (Instr.makeSlice 34 (.int .i64 0) (.int .i64 (A : Int))).run Tryz.prog w = .ok (.slice (some ⟨w.heap.size, 0, none⟩) 0 A) (w.alloc (.cells (madeCells #[.int .u32 0] A) 50)) := by
  obtain ⟨i0, HI, hz0, hz1, hz2⟩ := info_parts info_wordA
  have := run_make (P := Tryz.prog) w 34 50 i0 _ Tryz.underlying34 HI hz0 .i64 .i64 0 (A : Int) (by omega) (by omega) (by rw [hz2]; omega) (by omega)
  simpa [hz1, Value.cells] using this
theorem make0_int (A : Nat) (hA : A ≤ 65536) (w : World) : (Instr.makeSlice 35 (.int .i64 0) (.int .i64 (A : Int))).run Tryz.prog w = .ok (.slice (some ⟨w.heap.size, 0, none⟩) 0 A) (w.alloc (.cells (madeCells #[.int .i64 0] A) 3)) := by
  obtain ⟨i0, HI, hz0, hz1, hz2⟩ := info_parts info_intA
  have := run_make (P := Tryz.prog) w 35 3 i0 _ Tryz.underlying35 HI hz0 .i64 .i64 0 (A : Int) (by omega) (by omega) (by rw [hz2]; omega) (by omega)
  simpa [hz1, Value.cells] using this
def NewPost (bm sb N : Nat) (w : World) (e : Ending) (w' : World) : Prop := ∃ bw vw vk G, e = .returned (.pointer (some ⟨bw, 0, none⟩)) ∧ WrR w' w.heap.size bm sb N bw G vw vk [] ∧ Below w.heap.size w w'
/-- A writer in three new blocks. -/
theorem new_wr (w W : World) (bm sb N A bw g1 g2 : Nat) (hst : W.heap[bw]? = some (.cells #[.map (some bm), .slice (some ⟨sb, 0, none⟩) N N, .slice (some ⟨g1, 0, none⟩) 0 A, .slice (some ⟨g2, 0, none⟩) 0 A] 98 (0, 0)))
    (h1 : W.ownsRow w.heap.size 50 1 (.slice (some ⟨g1, 0, none⟩) 0 A) 0 []) (h2 : W.ownsRow w.heap.size 3 1 (.slice (some ⟨g2, 0, none⟩) 0 A) 0 []) (h12 : g1 ≠ g2) (h1b : g1 ≠ bw) (h2b : g2 ≠ bw) (hz : w.heap.size ≤ bw) (hb : Below w.heap.size w W) :
    NewPost bm sb N w (.returned (.pointer (some ⟨bw, 0, none⟩))) W :=
  ⟨bw, _, _, fun b => b = bw ∨ b = g1 ∨ b = g2, rfl, ⟨hst, h1, h2, fun b hb hb2 => by
      have e : some g1 = some b := hb
      have e' : some g2 = some b := hb2
      injection e with e
      injection e' with e'
      omega, fun e => h1b (by injection e), fun e => h2b (by injection e), fun b => by
      refine ⟨?_, ?_⟩
      · rintro (h | h | h)
        · exact .inl h
        · exact .inr (.inl (by rw [h]; rfl))
        · exact .inr (.inr (by rw [h]; rfl))
      · rintro (h | h | h)
        · exact .inl h
        · have e : some g1 = some b := h
          injection e with e; exact .inr (.inl e.symm)
        · have e : some g2 = some b := h
          injection e with e; exact .inr (.inr e.symm), hz⟩, hb⟩
theorem third_new (w : World) (a b c : Obj) : (((w.alloc a).alloc b).alloc c).heap[w.heap.size + 1 + 1]? = some c := by
  have := heap_alloc_new ((w.alloc a).alloc b) c
  rwa [World.size_alloc, World.size_alloc] at this
set_option maxHeartbeats 4000000 in
set_option maxRecDepth 100000 in
theorem newWriter_prog (bm sb N : Nat) (f : Nat → Int) (w : World) (hN : 0 < N) (hN2 : N ≤ 1000000) (hR : RowI w sb N f) (hf : 0 ≤ f (N - 1) ∧ f (N - 1) ≤ 65536) :
    Calls Tryz.prog 52 #[.map (some bm), .slice (some ⟨sb, 0, none⟩) N N] w (NewPost bm sb N w) := by
  have hc := hR.cell (i := N - 1) (by omega)
  have hlt := hR.lt
  obtain ⟨A, hA⟩ : ∃ A : Nat, f (N - 1) = (A : Int) := ⟨(f (N - 1)).toNat, by omega⟩
  rw [hA] at hc hf
  obtain ⟨M, rfl⟩ : ∃ M, N = M + 1 := ⟨N - 1, by omega⟩
  rw [Nat.add_sub_cancel] at hc
  have m1 := make0_u32 A (by omega)
  have m2 := make0_int A (by omega)
  clear hR hA
  have i0 : (0 : Int) ≤ M := by omega
  have i1 : (M : Int) < (M : Int) + 1 := by omega
  have i2 : IntKind.i64.wrap ((M : Int) + 1 - 1) = (M : Int) := by rw [show (M : Int) + 1 - 1 = M by omega]; exact IntWalk.i64_in _ (by omega)
  have i3 : (M : Int) + 1 - 1 = M := by omega
  have hml : A ≤ maxLen := by unfold maxLen; omega
  go_enter Tryz.func52, Tryz.ntmps52
  go_wp2
  go_region
  all_goals
    go_wp2
    go_ret
  · refine new_wr w _ bm sb (M + 1) A (w.heap.size + 1 + 1) w.heap.size (w.heap.size + 1) ?_ ?_ ?_ (by omega) (by omega) (by omega) (by omega) ?_
    · exact third_new w _ _ _
    · exact (((World.ownsRow_made w (madeCells #[.int .u32 0] A) A (Nat.le_refl _) hml (by simp [madeCells])).alloc _).alloc _).drew
    · have := (World.ownsRow_made (base := w.heap.size) (e := 3) (size := 1) (w.alloc (.cells (madeCells #[.int .u32 0] A) 50)) (madeCells #[.int .i64 0] A) A (by simp) hml (by simp [madeCells])).alloc
      rw [World.size_alloc] at this
      exact (this _).drew
    · exact (((below_one w _).alloc (by simp) _).alloc (by simp <;> omega) _).drew
  · refine new_wr w _ bm sb (M + 1) A (w.heap.size + 1 + 1) (w.heap.size + 1) w.heap.size ?_ ?_ ?_ (by omega) (by omega) (by omega) (by omega) ?_
    · exact third_new w _ _ _
    · have := (World.ownsRow_made (base := w.heap.size) (e := 50) (size := 1) (w.alloc (.cells (madeCells #[.int .i64 0] A) 3)) (madeCells #[.int .u32 0] A) A (by simp) hml (by simp [madeCells])).alloc
      rw [World.size_alloc] at this
      exact (this _).drew
    · exact (((World.ownsRow_made w (madeCells #[.int .i64 0] A) A (Nat.le_refl _) hml (by simp [madeCells])).alloc _).alloc _).drew
    · exact (((below_one w _).alloc (by simp) _).alloc (by simp <;> omega) _).drew
end Go.Proofs.YthojmbljlehpbaaGreatDoor.Relax
namespace Go.Proofs.YthojmbljlehpbaaGreatDoor.Relax
open Go.RowKit Go.Proofs.YthojmbljlehpbaaGreatDoor.Enc Go.Proofs.YthojmbljlehpbaaGreatDoor.Graph Go.Maps

def PlacesOfPost (l : List PL) (f : Nat → Int) (w : World) (e : Ending) (w' : World) : Prop :=
  e = .returned (.slice (some ⟨w.heap.size, 0, none⟩) l.length l.length) ∧ RowI w' w.heap.size l.length (fun i => f (partN l i)) ∧ Below w.heap.size w w'
set_option maxHeartbeats 8000000 in
set_option maxRecDepth 100000 in
theorem placesOf_prog (l : List PL) (f : Nat → Int) (p : Option Addr) (c : Nat) (sb N : Nat) (w : World) (hl : LinesR w (.slice p l.length c) l) (h6 : l.length ≤ 60000) (hR : RowI w sb N f) (hN : (partsP l).length < N) :
    Calls Tryz.prog 54 #[.slice p l.length c, .slice (some ⟨sb, 0, none⟩) N N] w (PlacesOfPost l f w) := by
  unfold PlacesOfPost
  obtain ⟨n, hn⟩ : ∃ n, n = l.length := ⟨_, rfl⟩
  have hpn : (partsP l).length = partN l n := by unfold partsP; rw [parts_len, hn]
  rw [← hn] at h6 ⊢
  rw [hpn] at hN
  have HL := Lib.hid (hn ▸ hl : LinesR w (.slice p n c) l)
  have HN := Lib.hid hn
  have HR := Lib.hid hR
  have hsb := hR.lt
  clear hl hn hR hpn
  have m0 : (n : Int) ≤ 60000 := by omega
  have hmk := run_make_row' (P := Tryz.prog) 35 3 _ 8 Tryz.underlying35 info_intA rfl .i64 .i64 n (by omega) (by omega)
  go_enter Tryz.func54, Tryz.ntmps54
  go_wp2
  go_loopw [6, 14] (fun q i wr => ∃ k : Nat, k ≤ n ∧ q = .int .i64 (partN l k) ∧ i = .int .i64 k ∧ Hid (RowI wr w.heap.size n (fun j => if j < k then f (partN l j) else 0)) ∧ w.heap.size < wr.heap.size ∧ Hid (Below w.heap.size w wr)) (fun _ i _ => n - (intOf i).toNat)
  case atStart =>
    exact ⟨0, Nat.zero_le _, rfl, rfl, Lib.hid ((World.rowIs_made w (.int .i64 0) n 3).congr (fun j hj => by show Value.int .i64 0 = Value.int .i64 (if j < 0 then f (partN l j) else 0); rw [if_neg (by omega)])), by simp, Lib.hid (below_one _ _)⟩
  case round =>
    obtain ⟨k, hk, rfl, rfl, HW, hsz, HB⟩ := hrel
    by_cases hlt : k < n
    · obtain ⟨b, o, x, vl, rfl, hx, hbl, hr, hc1, hc2⟩ := lines_pt HL.out (k := k) (by have := HN.out; omega)
      replace hr := hr.below hbl HB.out
      obtain ⟨vp, vc, rfl⟩ := hr.list.form
      obtain ⟨c0, c1, c2, c3, c4, c5, c6, _⟩ := hr
      have l0 : b < wr.heap.size := Nat.lt_of_lt_of_le hbl HB.out.size
      have HX := Lib.hid (lineAt_of hx)
      have hq := partN_mono l k (n - k)
      rw [show k + (n - k) = n by omega] at hq
      have hq2 := partN_le l k
      have r0 := ((HR.out.of_block (HB.out.block sb hsb)) : RowI wr sb N f).cell (i := partN l k) (by omega)
      have hsb2 : sb < wr.heap.size := Nat.lt_of_lt_of_le hsb HB.out.size
      have r1 := HW.out.cell (i := k) hlt
      have f1 := HW.out.frozen k
      generalize hqv : partN l k = q at *
      have HQ := Lib.hid hqv
      clear hqv hx
      simp only [Nat.lt_irrefl, if_false] at r1
      generalize hfv : f q = fq at *
      have HFV := Lib.hid hfv
      clear hfv
      have i0 : (0 : Int) ≤ k := by omega
      have i1 : (k : Int) < n := by omega
      have i2 : (0 : Int) ≤ q := by omega
      have i3 : (q : Int) < N := by omega
      have i4 : (q : Int) ≤ 60000 := by omega
      have hne : wr.heap.size ≠ w.heap.size := by omega
      have hne2 : w.heap.size ≠ wr.heap.size := by omega
      clear hmk
      by_cases ho : x.op = 0
      · have HO := Lib.hid ho
        have g1 : (x.op == 0) = true := by simpa using ho
        have g2 : (x.op != 0) = false := by simpa using ho
        clear ho
        go_wp2
        go_roundw
        case rel =>
          refine ⟨k + 1, by omega, by rw [partN_same (by rw [HX.out]; exact HO.out), HQ.out], by go_num, Lib.hid ?_, by simp; omega, Lib.hid ((HB.out.setCell (p := ⟨w.heap.size, k, none⟩) (Nat.le_refl _) _).alloc (by simp; omega) _)⟩
          refine (((HW.out.set k (.int .i64 fq)).alloc _)).congr (fun j hj => ?_)
          show (if j = k then Value.int .i64 fq else Value.int .i64 (if j < k then f (partN l j) else 0)) = Value.int .i64 (if j < k + 1 then f (partN l j) else 0)
          by_cases h1 : j = k
          · rw [if_pos h1, if_pos (by omega), h1, HQ.out, HFV.out]
          · rw [if_neg h1]
            by_cases h2 : j < k
            · rw [if_pos h2, if_pos (by omega)]
            · rw [if_neg h2, if_neg (by omega)]
        case measure => simp [intOf]; omega
      · have HO := Lib.hid ho
        have g1 : (x.op == 0) = false := by simpa using ho
        have g2 : (x.op != 0) = true := by simpa using ho
        clear ho
        go_wp2
        go_roundw
        case rel =>
          refine ⟨k + 1, by omega, by rw [partN_one (by rw [HX.out]; exact HO.out), HQ.out]; go_num, by go_num, Lib.hid ?_, by simp; omega, Lib.hid ((HB.out.setCell (p := ⟨w.heap.size, k, none⟩) (Nat.le_refl _) _).alloc (by simp; omega) _)⟩
          refine (((HW.out.set k (.int .i64 fq)).alloc _)).congr (fun j hj => ?_)
          show (if j = k then Value.int .i64 fq else Value.int .i64 (if j < k then f (partN l j) else 0)) = Value.int .i64 (if j < k + 1 then f (partN l j) else 0)
          by_cases h1 : j = k
          · rw [if_pos h1, if_pos (by omega), h1, HQ.out, HFV.out]
          · rw [if_neg h1]
            by_cases h2 : j < k
            · rw [if_pos h2, if_pos (by omega)]
            · rw [if_neg h2, if_neg (by omega)]
        case measure => simp [intOf]; omega
    · have hkn : k = n := by omega
      subst hkn
      have i1 : ¬ ((k : Int) < (k : Int)) := by omega
      clear hmk
      go_wp2
      go_ret
      exact ⟨rfl, HW.out.congr (fun j hj => by show Value.int .i64 (if j < k then f (partN l j) else 0) = _; rw [if_pos hj]), HB.out⟩
end Go.Proofs.YthojmbljlehpbaaGreatDoor.Relax
namespace Go.Proofs.YthojmbljlehpbaaGreatDoor.Relax
open Go.RowKit Go.Proofs.YthojmbljlehpbaaGreatDoor.Enc Go.Proofs.YthojmbljlehpbaaGreatDoor.Graph Go.Maps

/-- A writer at work: all that it reads and writes. -/
structure We (w : World) (l : List PL) (f : Nat → Int) (Z bm sb N bw : Nat) (G : Nat → Prop) (vw vk : Value) (ws : List (Int × Int)) : Prop where
  wr : WrR w Z bm sb N bw G vw vk ws
  forms : FormsAt w
  reads : Reads w l bm sb N f
  bmz : bm < Z
  sbz : sb < Z
  z0 : 1 < Z
  zs : Z ≤ w.heap.size
theorem We.below {w w' : World} {l : List PL} {f : Nat → Int} {Z bm sb N bw : Nat} {G : Nat → Prop} {vw vk : Value} {ws : List (Int × Int)} (h : We w l f Z bm sb N bw G vw vk ws) (hb : Below w.heap.size w w') : We w' l f Z bm sb N bw G vw vk ws :=
  ⟨h.wr.below hb, h.forms.below hb, h.reads.below (hb.mono h.zs) h.bmz h.sbz, h.bmz, h.sbz, h.z0, Nat.le_trans h.zs hb.size⟩
theorem forms_z {w w' : World} {Z : Nat} (h : FormsAt w) (hz : 1 < Z) (hb : Below Z w w') : FormsAt w' := by
  obtain ⟨t, fr, h⟩ := h
  exact ⟨t, fr, (hb.block 1 hz).trans h⟩
theorem We.next {w w' : World} {l : List PL} {f : Nat → Int} {Z bm sb N bw : Nat} {G G' : Nat → Prop} {vw vk vw' vk' : Value} {ws ws' : List (Int × Int)} (h : We w l f Z bm sb N bw G vw vk ws) (hw : WrR w' Z bm sb N bw G' vw' vk' ws') (hk : WK w w' G G') :
    We w' l f Z bm sb N bw G' vw' vk' ws' := by
  have hb : Below Z w w' := hk.below (fun b hb => (h.wr.lt hb).1) h.zs
  exact ⟨hw, forms_z h.forms h.z0 hb, h.reads.below hb h.bmz h.sbz, h.bmz, h.sbz, h.z0, Nat.le_trans h.zs hb.size⟩
theorem We.not_new {w : World} {l : List PL} {f : Nat → Int} {Z bm sb N bw : Nat} {G : Nat → Prop} {vw vk : Value} {ws : List (Int × Int)} (h : We w l f Z bm sb N bw G vw vk ws) {b : Nat} (hb : w.heap.size ≤ b) : ¬ G b := fun hg => by
  have := (h.wr.lt hg).2; omega
theorem not_next {w w' : World} {G G' : Nat → Prop} (h : WK w w' G G') {b : Nat} (hb : b < w.heap.size) (hg : ¬ G b) : ¬ G' b := fun h2 => by
  rcases h.new b h2 with h3 | h3
  · exact hg h3
  · omega
theorem put_app {Z bm sb N bw : Nat} {G : Nat → Prop} {ws : List (Int × Int)} {a b : List (Int × Int)} {w : World} {e : Ending} {w' : World} (h : PutPost Z bm sb N bw G ((ws ++ a) ++ b) w e w') : PutPost Z bm sb N bw G (ws ++ (a ++ b)) w e w' := by
  rw [← List.append_assoc]; exact h
theorem PutPost.chain {Z bm sb N bw : Nat} {G G' : Nat → Prop} {ws : List (Int × Int)} {w w2 : World} (hk : WK w w2 G G') {e : Ending} {w' : World} (h : PutPost Z bm sb N bw G' ws w2 e w') : PutPost Z bm sb N bw G ws w e w' := by
  obtain ⟨h1, G', vw, vk, h2, h3⟩ := h
  exact ⟨h1, G', vw, vk, h2, hk.trans h3⟩
theorem ins_we {l : List PL} {f : Nat → Int} {Z bm sb N bw : Nat} {G : Nat → Prop} {vw vk : Value} {ws : List (Int × Int)} {w : World} (c : PC) (h : We w l f Z bm sb N bw G vw vk ws) (hl : ws.length ≤ 100000) :
    Calls Tryz.prog 88 #[.pointer (some ⟨bw, 0, none⟩), cV c] w (PutPost Z bm sb N bw G (ws ++ [((encP c).1, 1)]) w) := ins_prog Z bm sb N bw G vw vk ws c w h.wr hl h.zs h.forms
theorem label_we {l : List PL} {f : Nat → Int} {Z bm sb N bw : Nat} {G : Nat → Prop} {vw vk : Value} {ws : List (Int × Int)} {w : World} (kind lab : Int) (h : We w l f Z bm sb N bw G vw vk ws) (hl : ws.length ≤ 100000) (hlab : 0 ≤ lab ∧ lab ≤ 100000) :
    Calls Tryz.prog 90 #[.pointer (some ⟨bw, 0, none⟩), .int .i64 kind, .int .i64 lab] w (PutPost Z bm sb N bw G (ws ++ [(placeL l f lab, kind)]) w) := label_prog l f Z bm sb N bw G vw vk ws kind lab w h.wr hl h.zs h.reads hlab
theorem put_we {l : List PL} {f : Nat → Int} {Z bm sb N bw : Nat} {G : Nat → Prop} {vw vk : Value} {ws : List (Int × Int)} {w : World} (kind word : Int) (h : We w l f Z bm sb N bw G vw vk ws) (hl : ws.length ≤ 100000) :
    Calls Tryz.prog 89 #[.pointer (some ⟨bw, 0, none⟩), .int .i64 kind, .int .u32 word] w (PutPost Z bm sb N bw G (ws ++ [(word, kind)]) w) := put_prog Z bm sb N bw G vw vk ws kind word w h.wr hl h.zs
def brW (l : List PL) (f : Nat → Int) (op a b reach lab : Int) : List (Int × Int) :=
  if nearB reach then [((encP ⟨op, a, b, reach⟩).1, 1)]
  else (if op = 40 then [] else [((encP ⟨otherP op, a, b, 2⟩).1, 1)]) ++ [((encP ⟨41, 0, 0, 0⟩).1, 1), (placeL l f lab, 2)]
set_option maxHeartbeats 4000000 in
set_option maxRecDepth 100000 in
theorem branch_prog (l : List PL) (f : Nat → Int) (Z bm sb N bw : Nat) (G : Nat → Prop) (vw vk : Value) (ws : List (Int × Int)) (op fa fb imm lab reach : Int) (w : World) (h : We w l f Z bm sb N bw G vw vk ws) (hl : ws.length ≤ 99000) (hlab : 0 ≤ lab ∧ lab ≤ 100000) (hop : 30 ≤ op ∧ op ≤ 40) :
    Calls Tryz.prog 87 #[.pointer (some ⟨bw, 0, none⟩), cV ⟨op, fa, fb, imm⟩, .int .i64 lab, .int .i64 reach] w (PutPost Z bm sb N bw G (ws ++ brW l f op fa fb reach lab) w) := by
  obtain ⟨nr, hnr⟩ : ∃ b, nearB reach = b := ⟨_, rfl⟩
  have HNR := Lib.hid (fun w => hnr ▸ near_prog reach w)
  have HW := Lib.hid h
  have hgn := h.not_new (Nat.le_refl _)
  unfold cV
  simp only
  cases nr
  case true =>
    have HE := Lib.hid (show brW l f op fa fb reach lab = [((encP ⟨op, fa, fb, reach⟩).1, 1)] by unfold brW; rw [if_pos hnr])
    clear h hnr
    go_enter Tryz.func87, Tryz.ntmps87
    go_wp2_with (first
      | (go_at_call 116; refine (HNR.out _).mono ?_; rintro e w2 ⟨rfl, hw2⟩; have hw3 := hw2.symm; clear hw2; subst hw3)
      | (go_at_call 88; refine (ins_we (c := ⟨op, fa, fb, reach⟩) (HW.out.below (below_one w _)) (by omega)).mono ?_; rintro e w3 hp; have HPP := Lib.hid (PutPost.after (below_one w _) hp); clear hp; obtain ⟨rfl, _⟩ := HPP.out))
    go_end0
    rw [HE.out]; exact HPP.out
  case false =>
    have hnq : ¬ (nearB reach = true) := by rw [hnr]; simp
    by_cases h40 : op = 40
    · have HE := Lib.hid (show brW l f op fa fb reach lab = [((encP ⟨41, 0, 0, 0⟩).1, 1)] ++ [(placeL l f lab, 2)] by unfold brW; rw [if_neg hnq, if_pos h40]; rfl)
      subst h40
      have HA := Lib.hid (h.below (below_one w (.cells #[.int .i64 40, .int .i64 fa, .int .i64 fb, .int .i64 imm] 102)))
      clear h hnr hnq
      go_enter Tryz.func87, Tryz.ntmps87
      go_wp2_with (first
      | (go_at_call 116; refine (HNR.out _).mono ?_; rintro e w2 ⟨rfl, hw2⟩; have hw3 := hw2.symm; clear hw2; subst hw3)
      | (go_at_call 88; go_loud (refine (ins_we (c := ⟨41, 0, 0, 0⟩) HA.out (by omega)).mono ?_); rintro e w3 ⟨rfl, G1, v1, v2, h1, h2⟩; have HB1 := Lib.hid (We.next HA.out h1 h2); have HK1 := Lib.hid h2; clear h1 h2)
      | (go_at_call 90; (with_reducible refine (label_we 2 lab HB1.out (by simp; omega) hlab).mono ?_); rintro e w4 hp; have HPP := Lib.hid (PutPost.chain ((WK.of_below G (below_one w _)).trans HK1.out) hp); clear hp; obtain ⟨rfl, _⟩ := HPP.out))
      go_end0
      rw [HE.out]; exact put_app HPP.out
    · have HE := Lib.hid (show brW l f op fa fb reach lab = [((encP ⟨otherP op, fa, fb, 2⟩).1, 1)] ++ ([((encP ⟨41, 0, 0, 0⟩).1, 1)] ++ [(placeL l f lab, 2)]) by unfold brW; rw [if_neg hnq, if_neg h40]; rfl)
      have HA := Lib.hid (h.below (below_one w (.cells #[.int .i64 op, .int .i64 fa, .int .i64 fb, .int .i64 imm] 102)))
      have HO := Lib.hid (fun w => other_prog op (by omega) w)
      have e1 : (op == 40) = false := by simpa using h40
      have e2 : (op != 40) = true := by simpa using h40
      have hz1 : w.heap.size < (w.alloc (.cells #[.int .i64 op, .int .i64 fa, .int .i64 fb, .int .i64 imm] 102)).heap.size := by simp
      clear h hnr hnq h40 hop
      go_enter Tryz.func87, Tryz.ntmps87
      go_upto_region 5 with (go_at_call 116; refine (HNR.out _).mono ?_; rintro e w2 ⟨rfl, hw2⟩; have hw3 := hw2.symm; clear hw2; subst hw3)
      go_cut [0] (fun p wc => p = .pointer (some ⟨bw, 0, none⟩) ∧ Hid (PutPost Z bm sb N bw G (ws ++ [((encP ⟨otherP op, fa, fb, 2⟩).1, 1)]) (w.alloc (.cells #[.int .i64 op, .int .i64 fa, .int .i64 fb, .int .i64 imm] 102)) (.returned (.tuple #[])) wc))
      case first =>
        go_region_law (first
          | ((try go_simp); go_at_call 118; refine (HO.out (World.drew _)).mono ?_; rintro e w3 ⟨rfl, hw3⟩; have hw4 := hw3.symm; clear hw3; subst hw4)
          | ((try go_simp); go_at_call 88; refine (ins_we (c := ⟨otherP op, fa, fb, 2⟩) (w := World.drew _) (HA.out.below (Below.refl _ _).drew) (by omega)).mono ?_; rintro e w3 hp; have HPP := Lib.hid (PutPost.after ((Below.refl _ _).drew) hp); clear hp; obtain ⟨rfl, _⟩ := HPP.out))
        all_goals (go_wp2_with fail; go_meet; exact ⟨rfl, HPP⟩)
      case rest =>
        obtain ⟨rfl, hcp⟩ := hcut
        obtain ⟨_, G0, v0, v00, h1, h2⟩ := hcp.out
        have HC := Lib.hid (We.next HA.out h1 h2)
        have HK0 := Lib.hid h2
        clear h1 h2
        go_wp2_with (first
      | (go_at_call 116; refine (HNR.out _).mono ?_; rintro e w2 ⟨rfl, hw2⟩; have hw3 := hw2.symm; clear hw2; subst hw3)
      | (go_at_call 88; (with_reducible refine (ins_we (c := ⟨41, 0, 0, 0⟩) HC.out (by simp; omega)).mono ?_); rintro e w3 ⟨rfl, G1, v1, v2, h1, h2⟩; have HB1 := Lib.hid (We.next HC.out h1 h2); have HK1 := Lib.hid h2; clear h1 h2)
      | (go_at_call 90; (with_reducible refine (label_we 2 lab HB1.out (by simp; omega) hlab).mono ?_); rintro e w4 hp; have HPP := Lib.hid (PutPost.chain (((WK.of_below G (below_one w _)).trans HK0.out).trans HK1.out) hp); clear hp; obtain ⟨rfl, _⟩ := HPP.out))
        go_end0
        rw [HE.out]; exact put_app (put_app HPP.out)
end Go.Proofs.YthojmbljlehpbaaGreatDoor.Relax
