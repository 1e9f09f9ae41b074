/- Words written with blanks between them: the walk. No condition but what the package variables hold, and sizes. -/
import Derived.Test.YthojmbljlehpbaaGreatDoorG19
namespace Go.Proofs.YthojmbljlehpbaaGreatDoor.Lists
open Go.RowKit Go.Proofs.YthojmbljlehpbaaGreatDoor.Relax Go.Proofs.YthojmbljlehpbaaGreatDoor.Graph
open Go.Lib hiding intOf
open Go.Proofs.YthojmbljlehpbaaGreatDoor.Enc hiding below_one bt ret_bool

theorem sep_snoc : ∀ (l : List Wd) (x : Wd), sepW (l ++ [x]) = (if l = [] then [] else sepW l ++ [32]) ++ textW x
  | [], x => by simp [sepW]
  | [y], x => by simp [sepW]
  | y :: z :: t, x => by
    have := sep_snoc (z :: t) x
    show textW y ++ 32 :: sepW ((z :: t) ++ [x]) = _
    rw [this]
    simp [sepW]
theorem sep_len : ∀ {l : List Wd}, (∀ x ∈ l, okW x) → (sepW l).length ≤ 23 * l.length
  | [], _ => by simp [sepW]
  | [y], h => by have := text_len (h y List.mem_cons_self); simp [sepW]; omega
  | y :: z :: t, h => by
    have h1 := text_len (h y List.mem_cons_self)
    have h2 := sep_len (l := z :: t) (fun x hx => h x (List.mem_cons_of_mem _ hx))
    show (textW y ++ 32 :: sepW (z :: t)).length ≤ _
    simp only [List.length_append, List.length_cons] at h2 ⊢
    omega
theorem LaidL.belowB {w w' : World} {B : Nat} (h : LaidL w) (hB : 8 ≤ B) (hb : Below B w w') : LaidL w' := by
  have hp := h.pos
  refine ⟨?_, ?_, ?_, ?_, ?_, Nat.le_trans hp hb.size⟩
  · obtain ⟨t, fr, h1⟩ := h.forms
    exact ⟨t, fr, (hb.block _ (by omega)).trans h1⟩
  · obtain ⟨t, fr, h1⟩ := h.names
    exact ⟨t, fr, (hb.block _ (by omega)).trans h1⟩
  · have h1 := h.pow
    unfold TabIs at h1 ⊢
    rw [← h1]
    exact World.Since.var (B := B) ⟨hb.os, hb.tape, hb.output, hb.size, hb.block⟩ gPow (by omega)
  · obtain ⟨t, p, h1⟩ := h.syn
    exact ⟨t, p, (hb.cell (p := ⟨6, 0, none⟩) (by show 6 < _; omega)).trans h1⟩
  · obtain ⟨t, p, h1⟩ := h.ran
    exact ⟨t, p, (hb.cell (p := ⟨7, 0, none⟩) (by show 7 < _; omega)).trans h1⟩
theorem bldAt_below {B b : Nat} {p : Value} {bs : List Value} {W W' : World} (h : Lib.BuilderAtF 56 5 B b p bs W) (hb : Below W.heap.size W W') : Lib.BuilderAtF 56 5 B b p bs W' := by
  have hlt := h.lt
  obtain ⟨hB, v, hv, hown, hne⟩ := h
  exact ⟨hB, v, (hb.block b hlt).trans hv, hown.kept (row := none) ⟨hb.os, hb.tape, hb.output, hb.size, fun k hk _ => hb.block k hk⟩ (Classical.em _), hne⟩
theorem bld_below {B b : Nat} {bs : List Value} {W W' : World} (h : BldR B b bs W) (hb : Below W.heap.size W W') : BldR B b bs W' :=
  h.elim (fun x => .inl (bldAt_below x hb)) (fun x => .inr (bldAt_below x hb))
theorem bld_at {B b : Nat} {bs : List Value} {W : World} (h : BldR B b bs W) : B ≤ b ∧ ∃ cs, W.heap[b]? = some (.cells cs 56 (0, 0)) := by
  rcases h with ⟨h1, v, h2, _⟩ | ⟨h1, v, h2, _⟩
  · exact ⟨h1, _, h2⟩
  · exact ⟨h1, _, h2⟩
set_option maxHeartbeats 16000000 in
set_option maxRecDepth 100000 in
theorem write_any (B bb B2 g c : Nat) (l0 : List UInt8) (ws : List Wd) (w : World) (hL : LaidL w) (hB8 : 8 ≤ B) (hBw : B ≤ w.heap.size) (hb : BldR B bb (Lib.byteCells l0) w) (hl0 : l0.length ≤ 1000000000000)
    (hr : w.ownsRow B2 20 1 (.slice (some ⟨g, 0, none⟩) ws.length c) ws.length ((ws.map some).map wdV)) (hn : ws.length ≤ 403) (hc : ws.length ≤ c ∧ c ≤ 9223372036854775807) (ho : ∀ x ∈ ws, okW x) :
    Calls Tryz.prog 28 #[.pointer (some ⟨bb, 0, none⟩), .slice (some ⟨g, 0, none⟩) ws.length c] w fun e w' => e = .returned (.tuple #[]) ∧ (BldR B bb (Lib.byteCells (l0 ++ sepW ws)) w' ∧ Below B w w' ∧ Kept bb w w') := by
  have HW : Hid (∀ W, Kept bb w W → ∀ k x, ws[k]? = some x → W.cell? ⟨g, k, none⟩ = some (wdV (some x))) := Lib.hid (fun W hK k x hx => by
    obtain ⟨hlen, ⟨e, _⟩ | ⟨g2, cap, cur, e, _, hg, _, _, hcz, ht⟩⟩ := hr
    · cases e
    · injection e with e _ _
      injection e with e
      injection e with e _ _
      subst e
      have hne : some g ≠ some bb := fun e => by
        injection e with e
        obtain ⟨_, cs, h2⟩ := bld_at hb
        rw [e, h2] at hg
        injection hg with hg
        injection hg with _ hg _
        exact absurd hg (by decide)
      have hg2 := hK g _ hg hne (fun c fz e => by injection e with _ e _; exact absurd e (by decide))
      have hk : k < ws.length := (List.getElem?_eq_some_iff.1 hx).1
      have h5 : (cur.toList.take (ws.length * 1))[k]? = some (wdV (some x)) := by rw [ht]; simp [hx]
      rw [List.getElem?_take, if_pos (by omega)] at h5
      simp [World.cell?, hg2]
      simpa using h5)
  have HTX := Lib.hid (fun (x : Wd) (hx : x ∈ ws) (W : World) (hW : LaidL W) => text_any x (ho x hx) W hW)
  have HTL := Lib.hid (fun (x : Wd) (hx : x ∈ ws) => text_len (ho x hx))
  have HSL := Lib.hid (fun (k : Nat) => sep_len (l := ws.take k) (fun x hx => ho x (List.mem_of_mem_take hx)))
  have HLL := Lib.hid (fun (W : World) (hW : Below B w W) => hL.belowB hB8 hW)
  obtain ⟨n, hnn⟩ : ∃ n, n = ws.length := ⟨_, rfl⟩
  have HN := Lib.hid hnn
  have HB := Lib.hid hb
  have HB0 := Lib.hid hl0
  rw [← hnn] at hn hc ⊢
  have n0 : (0 : Int) ≤ n := by omega
  have n1 : (n : Int) ≤ 403 := by omega
  have c1 : (n : Int) ≤ c := by omega
  have c2 : (c : Int) ≤ 9223372036854775807 := by omega
  clear hr hL hb hl0 ho hnn
  go_enter Tryz.func28, Tryz.ntmps28
  go_wp2
  go_loopw [8] (fun i wr => ∃ k : Nat, k ≤ n ∧ i = .int .i64 k ∧ Hid (BldR B bb (Lib.byteCells (l0 ++ sepW (ws.take k))) wr) ∧ Hid (Below B w wr) ∧ Hid (Kept bb w wr)) (fun i _ => n - (intOf i).toNat)
  case atStart => exact ⟨0, Nat.zero_le _, rfl, Lib.hid (by rw [List.take_zero]; show BldR B bb (Lib.byteCells (l0 ++ [])) w; rw [List.append_nil]; exact HB.out), Lib.hid (Below.refl _ _), Lib.hid (Lib.OthersKept.refl _ _ _)⟩
  case round =>
    obtain ⟨k, hk, rfl, HBr, HBB, HK⟩ := hrel
    have k0 : (0 : Int) ≤ k := by omega
    by_cases hkn : k < n
    · have k1 : (k : Int) < n := by omega
      obtain ⟨x, hx⟩ : ∃ x, ws[k]? = some x := ⟨_, List.getElem?_eq_getElem (by have := HN.out; omega)⟩
      have cx := HW.out wr HK.out k x hx
      have hmem := List.mem_of_getElem? hx
      have HT := Lib.hid (fun (W : World) (hW : LaidL W) => HTX.out x hmem W hW)
      have htl := HTL.out x hmem
      have hsl := HSL.out k
      have HTK := Lib.hid (show ws.take (k + 1) = ws.take k ++ [x] by rw [List.take_add_one, hx]; rfl)
      have HKN := Lib.hid hkn
      have htk : (ws.take k).length ≤ 403 := by rw [List.length_take]; omega
      have HLN : Hid ((Lib.byteCells (l0 ++ sepW (ws.take k))).length ≤ 1000000009269) := Lib.hid (by rw [Lib.byteCells_length, List.length_append]; have := HB0.out; omega)
      have HLT : Hid ((textW x).length ≤ 22) := Lib.hid htl
      have HBS := Lib.hid (Nat.le_trans hBw HBB.out.size)
      clear hx hmem htl hsl hkn htk hk
      by_cases hz : k = 0
      · have e1 : ¬ ((0 : Int) < k) := by omega
        have HS : Hid (sepW (ws.take (k + 1)) = sepW (ws.take k) ++ textW x) := Lib.hid (by rw [HTK.out, sep_snoc, hz]; simp [sepW])
        clear hz
        go_wp2_with (first
          | (go_at_call 55
             refine (HT.out wr (HLL.out wr HBB.out)).mono ?_
             rintro e w4 ⟨rfl, hb4⟩
             have HB4 := Lib.hid (bld_below HBr.out hb4)
             have HBB4 := Lib.hid (HBB.out.trans (hb4.mono HBS.out))
             have HK4 := Lib.hid (OthersKept.below HK.out hb4)
             clear hb4 cx)
          | (go_at_call 39
             refine (writeString_any B bb _ _ _ HB4.out (by have := HLN.out; have := HLT.out; show _ + (textW x).toArray.size ≤ _; simp; omega) (Nat.le_trans hBw HBB4.out.size)).mono ?_
             rintro e w5 ⟨⟨v, rfl⟩, h1, h2, h3⟩
             have HB5 := Lib.hid h1
             have HBB5 := Lib.hid (HBB4.out.trans h2)
             have HK5 := Lib.hid (Lib.OthersKept.trans HK4.out h3)
             clear h1 h2 h3))
        exact ⟨⟨k + 1, HKN.out, by go_num, Lib.hid (by rw [HS.out, ← List.append_assoc, Lib.byteCells_append]; exact HB5.out), HBB5, HK5⟩, by have := HKN.out; simp [intOf]; omega⟩
      · have e1 : (0 : Int) < k := by omega
        have HS : Hid (sepW (ws.take (k + 1)) = (sepW (ws.take k) ++ [32]) ++ textW x) := Lib.hid (by
          rw [HTK.out, sep_snoc, if_neg (by
            intro h
            have := congrArg List.length h
            rw [List.length_take, List.length_nil] at this
            have h1 := HKN.out
            have h2 := HN.out
            omega)])
        clear hz
        go_wp2_with (first
          | (go_at_call 30
             refine (writeByte_any B bb _ 32 _ HBr.out (by have := HLN.out; omega) HBS.out).mono ?_
             rintro e w3 ⟨rfl, h1, h2, h3⟩
             have HB3 := Lib.hid h1
             have HBB3 := Lib.hid (HBB.out.trans h2)
             have HK3 := Lib.hid (Lib.OthersKept.trans HK.out h3)
             clear h1 h2 h3 cx)
          | (go_at_call 55
             refine (HT.out w3 (HLL.out w3 HBB3.out)).mono ?_
             rintro e w4 ⟨rfl, hb4⟩
             have HB4 := Lib.hid (bld_below HB3.out hb4)
             have HBB4 := Lib.hid (HBB3.out.trans (hb4.mono (Nat.le_trans hBw HBB3.out.size)))
             have HK4 := Lib.hid (OthersKept.below HK3.out hb4)
             clear hb4)
          | (go_at_call 39
             refine (writeString_any B bb _ _ _ HB4.out (by have := HLN.out; have := HLT.out; show _ + (textW x).toArray.size ≤ _; simp; omega) (Nat.le_trans hBw HBB4.out.size)).mono ?_
             rintro e w5 ⟨⟨v, rfl⟩, h1, h2, h3⟩
             have HB5 := Lib.hid h1
             have HBB5 := Lib.hid (HBB4.out.trans h2)
             have HK5 := Lib.hid (Lib.OthersKept.trans HK4.out h3)
             clear h1 h2 h3))
        exact ⟨⟨k + 1, HKN.out, by go_num, Lib.hid (by rw [HS.out, ← List.append_assoc, ← List.append_assoc, Lib.byteCells_append, Lib.byteCells_append]; exact HB5.out), HBB5, HK5⟩, by have := HKN.out; simp [intOf]; omega⟩
    · obtain rfl : n = k := by omega
      have HTE : Hid (ws.take n = ws) := Lib.hid (List.take_of_length_le (by have := HN.out; omega))
      go_wp2
      go_end0
      have hbr := HBr.out
      rw [HTE.out] at hbr
      exact ⟨rfl, hbr, HBB.out, HK.out⟩
end Go.Proofs.YthojmbljlehpbaaGreatDoor.Lists
