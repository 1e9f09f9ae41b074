/- Where a list's lines begin: the program's own answer. -/
import Derived.Test.YtmnhafncdblklaaDoorAu
namespace Go.Proofs.YtmnhafncdblklaaDoor.Relax
open Go.RowKit Go.Proofs.YtmnhafncdblklaaDoor.Enc Go.Proofs.YtmnhafncdblklaaDoor.Graph Go.Maps

def PlacesOfPost (l : List PL) (f : Nat → Int) (w : World) (e : Ending) (w' : World) : Prop :=
  e = .returned (.slice (some ⟨w.heap.size, 0, none⟩) l.length l.length) ∧ RowI w' w.heap.size l.length (fun i => f (partN l i)) ∧ Below w.heap.size w w'
set_option maxHeartbeats 8000000 in
set_option maxRecDepth 100000 in
theorem placesOf_prog (l : List PL) (f : Nat → Int) (p : Option Addr) (c : Nat) (sb N : Nat) (w : World) (hl : LinesR w (.slice p l.length c) l) (h6 : l.length ≤ 60000) (hR : RowI w sb N f) (hN : (partsP l).length < N) :
    Calls Tryd.prog 34 #[.slice p l.length c, .slice (some ⟨sb, 0, none⟩) N N] w (PlacesOfPost l f w) := by
  unfold PlacesOfPost
  obtain ⟨n, hn⟩ : ∃ n, n = l.length := ⟨_, rfl⟩
  have hpn : (partsP l).length = partN l n := by unfold partsP; rw [parts_len, hn]
  rw [← hn] at h6 ⊢
  rw [hpn] at hN
  have HL := Lib.hid (hn ▸ hl : LinesR w (.slice p n c) l)
  have HN := Lib.hid hn
  have HR := Lib.hid hR
  have hsb := hR.lt
  clear hl hn hR hpn
  have m0 : (n : Int) ≤ 60000 := by omega
  have hmk := run_make_row' (P := Tryd.prog) 25 3 _ 8 Tryd.underlying25 info_intA rfl .i64 .i64 n (by omega) (by omega)
  go_enter Tryd.func34, Tryd.ntmps34
  go_wp2
  go_loopw [6, 14] (fun q i wr => ∃ k : Nat, k ≤ n ∧ q = .int .i64 (partN l k) ∧ i = .int .i64 k ∧ Hid (RowI wr w.heap.size n (fun j => if j < k then f (partN l j) else 0)) ∧ w.heap.size < wr.heap.size ∧ Hid (Below w.heap.size w wr)) (fun _ i _ => n - (intOf i).toNat)
  case atStart =>
    exact ⟨0, Nat.zero_le _, rfl, rfl, Lib.hid ((World.rowIs_made w (.int .i64 0) n 3).congr (fun j hj => by show Value.int .i64 0 = Value.int .i64 (if j < 0 then f (partN l j) else 0); rw [if_neg (by omega)])), by simp, Lib.hid (below_one _ _)⟩
  case round =>
    obtain ⟨k, hk, rfl, rfl, HW, hsz, HB⟩ := hrel
    by_cases hlt : k < n
    · obtain ⟨b, o, x, vl, rfl, hx, hbl, hr, hc1, hc2⟩ := lines_pt HL.out (k := k) (by have := HN.out; omega)
      replace hr := hr.below hbl HB.out
      obtain ⟨vp, vc, rfl⟩ := hr.list.form
      obtain ⟨c0, c1, c2, c3, c4, c5, c6, _⟩ := hr
      have l0 : b < wr.heap.size := Nat.lt_of_lt_of_le hbl HB.out.size
      have HX := Lib.hid (lineAt_of hx)
      have hq := partN_mono l k (n - k)
      rw [show k + (n - k) = n by omega] at hq
      have hq2 := partN_le l k
      have r0 := ((HR.out.of_block (HB.out.block sb hsb)) : RowI wr sb N f).cell (i := partN l k) (by omega)
      have hsb2 : sb < wr.heap.size := Nat.lt_of_lt_of_le hsb HB.out.size
      have r1 := HW.out.cell (i := k) hlt
      have f1 := HW.out.frozen k
      generalize hqv : partN l k = q at *
      have HQ := Lib.hid hqv
      clear hqv hx
      simp only [Nat.lt_irrefl, if_false] at r1
      generalize hfv : f q = fq at *
      have HFV := Lib.hid hfv
      clear hfv
      have i0 : (0 : Int) ≤ k := by omega
      have i1 : (k : Int) < n := by omega
      have i2 : (0 : Int) ≤ q := by omega
      have i3 : (q : Int) < N := by omega
      have i4 : (q : Int) ≤ 60000 := by omega
      have hne : wr.heap.size ≠ w.heap.size := by omega
      have hne2 : w.heap.size ≠ wr.heap.size := by omega
      clear hmk
      by_cases ho : x.op = 0
      · have HO := Lib.hid ho
        have g1 : (x.op == 0) = true := by simpa using ho
        have g2 : (x.op != 0) = false := by simpa using ho
        clear ho
        go_wp2
        go_roundw
        case rel =>
          refine ⟨k + 1, by omega, by rw [partN_same (by rw [HX.out]; exact HO.out), HQ.out], by go_num, Lib.hid ?_, by simp; omega, Lib.hid ((HB.out.setCell (p := ⟨w.heap.size, k, none⟩) (Nat.le_refl _) _).alloc (by simp; omega) _)⟩
          refine (((HW.out.set k (.int .i64 fq)).alloc _)).congr (fun j hj => ?_)
          show (if j = k then Value.int .i64 fq else Value.int .i64 (if j < k then f (partN l j) else 0)) = Value.int .i64 (if j < k + 1 then f (partN l j) else 0)
          by_cases h1 : j = k
          · rw [if_pos h1, if_pos (by omega), h1, HQ.out, HFV.out]
          · rw [if_neg h1]
            by_cases h2 : j < k
            · rw [if_pos h2, if_pos (by omega)]
            · rw [if_neg h2, if_neg (by omega)]
        case measure => simp [intOf]; omega
      · have HO := Lib.hid ho
        have g1 : (x.op == 0) = false := by simpa using ho
        have g2 : (x.op != 0) = true := by simpa using ho
        clear ho
        go_wp2
        go_roundw
        case rel =>
          refine ⟨k + 1, by omega, by rw [partN_one (by rw [HX.out]; exact HO.out), HQ.out]; go_num, by go_num, Lib.hid ?_, by simp; omega, Lib.hid ((HB.out.setCell (p := ⟨w.heap.size, k, none⟩) (Nat.le_refl _) _).alloc (by simp; omega) _)⟩
          refine (((HW.out.set k (.int .i64 fq)).alloc _)).congr (fun j hj => ?_)
          show (if j = k then Value.int .i64 fq else Value.int .i64 (if j < k then f (partN l j) else 0)) = Value.int .i64 (if j < k + 1 then f (partN l j) else 0)
          by_cases h1 : j = k
          · rw [if_pos h1, if_pos (by omega), h1, HQ.out, HFV.out]
          · rw [if_neg h1]
            by_cases h2 : j < k
            · rw [if_pos h2, if_pos (by omega)]
            · rw [if_neg h2, if_neg (by omega)]
        case measure => simp [intOf]; omega
    · have hkn : k = n := by omega
      subst hkn
      have i1 : ¬ ((k : Int) < (k : Int)) := by omega
      clear hmk
      go_wp2
      go_ret
      exact ⟨rfl, HW.out.congr (fun j hj => by show Value.int .i64 (if j < k then f (partN l j) else 0) = _; rw [if_pos hj]), HB.out⟩
end Go.Proofs.YtmnhafncdblklaaDoor.Relax
