/- Which word a text is. No condition but what the package variables hold, and sizes. -/
import Derived.Test.YthojmbljlehpbaaGreatDoorG22
namespace Go.Proofs.YthojmbljlehpbaaGreatDoor.Lists
open Go.RowKit Go.Proofs.YthojmbljlehpbaaGreatDoor.Relax Go.Proofs.YthojmbljlehpbaaGreatDoor.Graph Go.Maps
open Go.Lib hiding intOf
open Go.Proofs.YthojmbljlehpbaaGreatDoor.Enc hiding below_one bt ret_bool

theorem suf_one (s : List UInt8) : (hasSuffix s [58] = true ∧ s.getLast? = some 58 ∧ trimSuffix s [58] = s.dropLast) ∨ (hasSuffix s [58] = false ∧ s.getLast? ≠ some 58) := by
  by_cases h : s.getLast? = some 58
  · have h0 : s ≠ [] := by intro e; rw [e] at h; cases h
    obtain ⟨t, rfl⟩ : ∃ t, s = t ++ [58] := by
      rw [List.getLast?_eq_some_getLast h0] at h
      injection h with h
      exact ⟨s.dropLast, by rw [← h]; exact (List.dropLast_concat_getLast h0).symm⟩
    have h1 : hasSuffix (t ++ [58]) [58] = true := by
      unfold hasSuffix
      simp
    refine .inl ⟨h1, h, ?_⟩
    unfold trimSuffix
    simp [h1]
  · refine .inr ⟨?_, h⟩
    cases hs : hasSuffix s [58] with
    | false => rfl
    | true =>
      exfalso
      unfold hasSuffix at hs
      apply h
      obtain ⟨t, ht⟩ := List.isSuffixOf_iff_suffix.1 hs
      rw [← ht]; simp
def WordPost (o : Option Wd) (w : World) (e : Ending) (w' : World) : Prop := e = .returned (wdV o) ∧ Below w.heap.size w w'
set_option maxHeartbeats 4000000 in
set_option maxRecDepth 100000 in
theorem wordOf_op (s : List UInt8) (hs : s.length ≤ 281474976710656) (b : Nat) (w : World) (_hL : LaidL w) (hO : OpsAt w b 49) (op : Int) (h0 : opOf s = some op) : Calls Tryz.prog 121 #[.string ⟨s.toArray⟩, .map (some b)] w (WordPost (some (.name op)) w) := by
  have HO := Lib.hid hO
  have HK := Lib.hid (key_str s hs)
  have HH := Lib.hid (opsD_has s 49)
  have HTT := Lib.hid (opsD_at s 49)
  rw [opN_all] at HH HTT
  rw [h0] at HH HTT
  clear h0
  clear _hL hO
  go_enter Tryz.func121, Tryz.ntmps121
  go_wp2_with (first
    | (at_lookup
       refine wpList_lookup_own_ok_int _ rfl _ _ 68 rfl 9 3 .i64 lawS Tryz.underlying68 Tryz.underlying3 (zeroE _) b 49 (opsD 49) rfl HO.out _ (slit s) rfl HK.out ?_
       intro c hat hwc
       rw [HH.out]
       have HAT := Lib.hid hat
       clear hat hwc))
  go_ret
  have hc : c = op := by
    have := HAT.out.symm.trans HTT.out
    injection this with this
    injection this with _ this
  subst hc
  exact ⟨rfl, Below.refl _ _⟩
set_option maxHeartbeats 4000000 in
set_option maxRecDepth 100000 in
theorem wordOf_num (s : List UInt8) (hs : s.length ≤ 281474976710656) (b : Nat) (w : World) (hL : LaidL w) (hO : OpsAt w b 49) (h0 : opOf s = none) (m : Int) (h1 : decimalP s = some m) : Calls Tryz.prog 121 #[.string ⟨s.toArray⟩, .map (some b)] w (WordPost (some (.num m)) w) := by
  have HO := Lib.hid hO
  have HK := Lib.hid (key_str s hs)
  have HH := Lib.hid (opsD_has s 49)
  have HTT := Lib.hid (opsD_at s 49)
  rw [opN_all] at HH HTT
  rw [h0] at HH HTT
  have HDC := Lib.hid (fun (W : World) (hW : Below w.heap.size w W) => decimal_any s hs W (hL.below hW))
  unfold DecPostL at HDC
  rw [h1] at HDC
  clear h0 h1
  clear hL hO
  go_enter Tryz.func121, Tryz.ntmps121
  go_wp2_with (first
    | (at_lookup
       refine wpList_lookup_own_ok_int _ rfl _ _ 68 rfl 9 3 .i64 lawS Tryz.underlying68 Tryz.underlying3 (zeroE _) b 49 (opsD 49) rfl HO.out _ (slit s) rfl HK.out ?_
       intro c hat hwc
       rw [HH.out]
       have HAT := Lib.hid hat
       clear hat hwc)
    | (go_at_call 135
       refine (HDC.out _ (by first | exact Below.refl _ _ | exact HB.out)).mono ?_
       rintro e w2 ⟨n1, rfl, h1, hb2⟩
       have HV1 := Lib.hid h1
       have HB := Lib.hid hb2
       clear h1 hb2))
  go_ret
  have hc := HV1.out m rfl
  subst hc
  exact ⟨rfl, HB.out⟩
set_option maxHeartbeats 4000000 in
set_option maxRecDepth 100000 in
theorem wordOf_reg (s : List UInt8) (hs : s.length ≤ 281474976710656) (b : Nat) (w : World) (hL : LaidL w) (hO : OpsAt w b 49) (h0 : opOf s = none) (h1 : decimalP s = none) (m : Int) (h2 : behind 82 s = some m) : Calls Tryz.prog 121 #[.string ⟨s.toArray⟩, .map (some b)] w (WordPost (some (.reg m)) w) := by
  have HO := Lib.hid hO
  have HK := Lib.hid (key_str s hs)
  have HH := Lib.hid (opsD_has s 49)
  have HTT := Lib.hid (opsD_at s 49)
  rw [opN_all] at HH HTT
  rw [h0] at HH HTT
  have HDC := Lib.hid (fun (W : World) (hW : Below w.heap.size w W) => decimal_any s hs W (hL.below hW))
  unfold DecPostL at HDC
  rw [h1] at HDC
  have HB1 := Lib.hid (fun (W : World) (hW : Below w.heap.size w W) => behind_any 82 s hs W (hL.below hW))
  unfold DecPostL at HB1
  rw [h2] at HB1
  clear h0 h1 h2
  clear hL hO
  go_enter Tryz.func121, Tryz.ntmps121
  go_wp2_with (first
    | (at_lookup
       refine wpList_lookup_own_ok_int _ rfl _ _ 68 rfl 9 3 .i64 lawS Tryz.underlying68 Tryz.underlying3 (zeroE _) b 49 (opsD 49) rfl HO.out _ (slit s) rfl HK.out ?_
       intro c hat hwc
       rw [HH.out]
       have HAT := Lib.hid hat
       clear hat hwc)
    | (go_at_call 135
       refine (HDC.out _ (by first | exact Below.refl _ _ | exact HB.out)).mono ?_
       rintro e w2 ⟨n1, rfl, h1, hb2⟩
       have HV1 := Lib.hid h1
       have HB := Lib.hid hb2
       clear h1 hb2)
    | (go_at_call 136
       with_reducible refine (HB1.out _ HB.out).mono ?_
       rintro e w2 ⟨n2, rfl, h1, hb2⟩
       have HV2 := Lib.hid h1
       have HB := Lib.hid (bt HB.out hb2)
       clear h1 hb2))
  go_ret
  have hc := HV2.out m rfl
  subst hc
  exact ⟨rfl, HB.out⟩
set_option maxHeartbeats 4000000 in
set_option maxRecDepth 100000 in
theorem wordOf_lab (s : List UInt8) (hs : s.length ≤ 281474976710656) (b : Nat) (w : World) (hL : LaidL w) (hO : OpsAt w b 49) (h0 : opOf s = none) (h1 : decimalP s = none) (h2 : behind 82 s = none) (m : Int) (h3 : behind 76 s = some m) : Calls Tryz.prog 121 #[.string ⟨s.toArray⟩, .map (some b)] w (WordPost (some (.lab m)) w) := by
  have HO := Lib.hid hO
  have HK := Lib.hid (key_str s hs)
  have HH := Lib.hid (opsD_has s 49)
  have HTT := Lib.hid (opsD_at s 49)
  rw [opN_all] at HH HTT
  rw [h0] at HH HTT
  have HDC := Lib.hid (fun (W : World) (hW : Below w.heap.size w W) => decimal_any s hs W (hL.below hW))
  unfold DecPostL at HDC
  rw [h1] at HDC
  have HB1 := Lib.hid (fun (W : World) (hW : Below w.heap.size w W) => behind_any 82 s hs W (hL.below hW))
  unfold DecPostL at HB1
  rw [h2] at HB1
  have HB2 := Lib.hid (fun (W : World) (hW : Below w.heap.size w W) => behind_any 76 s hs W (hL.below hW))
  unfold DecPostL at HB2
  rw [h3] at HB2
  clear h0 h1 h2 h3
  clear hL hO
  go_enter Tryz.func121, Tryz.ntmps121
  go_wp2_with (first
    | (at_lookup
       refine wpList_lookup_own_ok_int _ rfl _ _ 68 rfl 9 3 .i64 lawS Tryz.underlying68 Tryz.underlying3 (zeroE _) b 49 (opsD 49) rfl HO.out _ (slit s) rfl HK.out ?_
       intro c hat hwc
       rw [HH.out]
       have HAT := Lib.hid hat
       clear hat hwc)
    | (go_at_call 135
       refine (HDC.out _ (by first | exact Below.refl _ _ | exact HB.out)).mono ?_
       rintro e w2 ⟨n1, rfl, h1, hb2⟩
       have HV1 := Lib.hid h1
       have HB := Lib.hid hb2
       clear h1 hb2)
    | (go_at_call 136
       with_reducible refine (HB1.out _ HB.out).mono ?_
       rintro e w2 ⟨n2, rfl, h1, hb2⟩
       have HV2 := Lib.hid h1
       have HB := Lib.hid (bt HB.out hb2)
       clear h1 hb2)
    | (go_at_call 136
       with_reducible refine (HB2.out _ HB.out).mono ?_
       rintro e w2 ⟨n3, rfl, h1, hb2⟩
       have HV3 := Lib.hid h1
       have HB := Lib.hid (bt HB.out hb2)
       clear h1 hb2))
  go_ret
  have hc := HV3.out m rfl
  subst hc
  exact ⟨rfl, HB.out⟩
set_option maxHeartbeats 4000000 in
set_option maxRecDepth 100000 in
theorem wordOf_nil (s : List UInt8) (hs : s.length ≤ 281474976710656) (b : Nat) (w : World) (hL : LaidL w) (hO : OpsAt w b 49) (h0 : opOf s = none) (h1 : decimalP s = none) (h2 : behind 82 s = none) (h3 : behind 76 s = none) (h4 : hasSuffix s [58] = false) : Calls Tryz.prog 121 #[.string ⟨s.toArray⟩, .map (some b)] w (WordPost (none) w) := by
  have HO := Lib.hid hO
  have HK := Lib.hid (key_str s hs)
  have HH := Lib.hid (opsD_has s 49)
  have HTT := Lib.hid (opsD_at s 49)
  rw [opN_all] at HH HTT
  rw [h0] at HH HTT
  have HDC := Lib.hid (fun (W : World) (hW : Below w.heap.size w W) => decimal_any s hs W (hL.below hW))
  unfold DecPostL at HDC
  rw [h1] at HDC
  have HB1 := Lib.hid (fun (W : World) (hW : Below w.heap.size w W) => behind_any 82 s hs W (hL.below hW))
  unfold DecPostL at HB1
  rw [h2] at HB1
  have HB2 := Lib.hid (fun (W : World) (hW : Below w.heap.size w W) => behind_any 76 s hs W (hL.below hW))
  unfold DecPostL at HB2
  rw [h3] at HB2
  have HSF := Lib.hid (fun (W : World) => Tryz.strings_CutSuffix ⟨s.toArray⟩ ⟨#[58]⟩ W (by show s.toArray.size ≤ _; simp; omega))
  have e1 : hasSuffix (⟨s.toArray⟩ : ByteArray).data.toList (⟨#[58]⟩ : ByteArray).data.toList = false := h4
  rw [e1] at HSF
  clear h0 h1 h2 h3 h4 e1
  clear hL hO
  go_enter Tryz.func121, Tryz.ntmps121
  go_wp2_with (first
    | (at_lookup
       refine wpList_lookup_own_ok_int _ rfl _ _ 68 rfl 9 3 .i64 lawS Tryz.underlying68 Tryz.underlying3 (zeroE _) b 49 (opsD 49) rfl HO.out _ (slit s) rfl HK.out ?_
       intro c hat hwc
       rw [HH.out]
       have HAT := Lib.hid hat
       clear hat hwc)
    | (go_at_call 135
       refine (HDC.out _ (by first | exact Below.refl _ _ | exact HB.out)).mono ?_
       rintro e w2 ⟨n1, rfl, h1, hb2⟩
       have HV1 := Lib.hid h1
       have HB := Lib.hid hb2
       clear h1 hb2)
    | (go_at_call 136
       with_reducible refine (HB1.out _ HB.out).mono ?_
       rintro e w2 ⟨n2, rfl, h1, hb2⟩
       have HV2 := Lib.hid h1
       have HB := Lib.hid (bt HB.out hb2)
       clear h1 hb2)
    | (go_at_call 136
       with_reducible refine (HB2.out _ HB.out).mono ?_
       rintro e w2 ⟨n3, rfl, h1, hb2⟩
       have HV3 := Lib.hid h1
       have HB := Lib.hid (bt HB.out hb2)
       clear h1 hb2)
    | (go_at_call 137
       refine (HSF.out _).mono ?_
       rintro e w2 ⟨rfl, hw⟩
       have hw2 := hw.symm
       clear hw
       subst hw2))
  go_ret
  exact ⟨rfl, HB.out⟩
set_option maxHeartbeats 4000000 in
set_option maxRecDepth 100000 in
theorem wordOf_mark (s : List UInt8) (hs : s.length ≤ 281474976710656) (b : Nat) (w : World) (hL : LaidL w) (hO : OpsAt w b 49) (h0 : opOf s = none) (h1 : decimalP s = none) (h2 : behind 82 s = none) (h3 : behind 76 s = none) (r : List UInt8) (h4 : hasSuffix s [58] = true) (h5 : trimSuffix s [58] = r) (h6 : r.length ≤ 281474976710656) (m : Int) (h7 : behind 76 r = some m) : Calls Tryz.prog 121 #[.string ⟨s.toArray⟩, .map (some b)] w (WordPost (some (.mark m)) w) := by
  have HO := Lib.hid hO
  have HK := Lib.hid (key_str s hs)
  have HH := Lib.hid (opsD_has s 49)
  have HTT := Lib.hid (opsD_at s 49)
  rw [opN_all] at HH HTT
  rw [h0] at HH HTT
  have HDC := Lib.hid (fun (W : World) (hW : Below w.heap.size w W) => decimal_any s hs W (hL.below hW))
  unfold DecPostL at HDC
  rw [h1] at HDC
  have HB1 := Lib.hid (fun (W : World) (hW : Below w.heap.size w W) => behind_any 82 s hs W (hL.below hW))
  unfold DecPostL at HB1
  rw [h2] at HB1
  have HB2 := Lib.hid (fun (W : World) (hW : Below w.heap.size w W) => behind_any 76 s hs W (hL.below hW))
  unfold DecPostL at HB2
  rw [h3] at HB2
  have HSF := Lib.hid (fun (W : World) => Tryz.strings_CutSuffix ⟨s.toArray⟩ ⟨#[58]⟩ W (by show s.toArray.size ≤ _; simp; omega))
  have e1 : hasSuffix (⟨s.toArray⟩ : ByteArray).data.toList (⟨#[58]⟩ : ByteArray).data.toList = true := h4
  have e2 : trimSuffix (⟨s.toArray⟩ : ByteArray).data.toList (⟨#[58]⟩ : ByteArray).data.toList = r := h5
  rw [e1, e2] at HSF
  have HB3 := Lib.hid (fun (W : World) (hW : Below w.heap.size w W) => behind_any 76 r h6 W (hL.below hW))
  unfold DecPostL at HB3
  rw [h7] at HB3
  clear h0 h1 h2 h3 h4 h5 h6 h7 e1 e2
  clear hL hO
  go_enter Tryz.func121, Tryz.ntmps121
  go_wp2_with (first
    | (at_lookup
       refine wpList_lookup_own_ok_int _ rfl _ _ 68 rfl 9 3 .i64 lawS Tryz.underlying68 Tryz.underlying3 (zeroE _) b 49 (opsD 49) rfl HO.out _ (slit s) rfl HK.out ?_
       intro c hat hwc
       rw [HH.out]
       have HAT := Lib.hid hat
       clear hat hwc)
    | (go_at_call 135
       refine (HDC.out _ (by first | exact Below.refl _ _ | exact HB.out)).mono ?_
       rintro e w2 ⟨n1, rfl, h1, hb2⟩
       have HV1 := Lib.hid h1
       have HB := Lib.hid hb2
       clear h1 hb2)
    | (go_at_call 136
       with_reducible refine (HB1.out _ HB.out).mono ?_
       rintro e w2 ⟨n2, rfl, h1, hb2⟩
       have HV2 := Lib.hid h1
       have HB := Lib.hid (bt HB.out hb2)
       clear h1 hb2)
    | (go_at_call 136
       with_reducible refine (HB2.out _ HB.out).mono ?_
       rintro e w2 ⟨n3, rfl, h1, hb2⟩
       have HV3 := Lib.hid h1
       have HB := Lib.hid (bt HB.out hb2)
       clear h1 hb2)
    | (go_at_call 137
       refine (HSF.out _).mono ?_
       rintro e w2 ⟨rfl, hw⟩
       have hw2 := hw.symm
       clear hw
       subst hw2)
    | (go_at_call 136
       with_reducible refine (HB3.out _ HB.out).mono ?_
       rintro e w2 ⟨n4, rfl, h1, hb2⟩
       have HV4 := Lib.hid h1
       have HB := Lib.hid (bt HB.out hb2)
       clear h1 hb2))
  go_ret
  have hc := HV4.out m rfl
  subst hc
  exact ⟨rfl, HB.out⟩
set_option maxHeartbeats 4000000 in
set_option maxRecDepth 100000 in
theorem wordOf_nomark (s : List UInt8) (hs : s.length ≤ 281474976710656) (b : Nat) (w : World) (hL : LaidL w) (hO : OpsAt w b 49) (h0 : opOf s = none) (h1 : decimalP s = none) (h2 : behind 82 s = none) (h3 : behind 76 s = none) (r : List UInt8) (h4 : hasSuffix s [58] = true) (h5 : trimSuffix s [58] = r) (h6 : r.length ≤ 281474976710656) (h7 : behind 76 r = none) : Calls Tryz.prog 121 #[.string ⟨s.toArray⟩, .map (some b)] w (WordPost (none) w) := by
  have HO := Lib.hid hO
  have HK := Lib.hid (key_str s hs)
  have HH := Lib.hid (opsD_has s 49)
  have HTT := Lib.hid (opsD_at s 49)
  rw [opN_all] at HH HTT
  rw [h0] at HH HTT
  have HDC := Lib.hid (fun (W : World) (hW : Below w.heap.size w W) => decimal_any s hs W (hL.below hW))
  unfold DecPostL at HDC
  rw [h1] at HDC
  have HB1 := Lib.hid (fun (W : World) (hW : Below w.heap.size w W) => behind_any 82 s hs W (hL.below hW))
  unfold DecPostL at HB1
  rw [h2] at HB1
  have HB2 := Lib.hid (fun (W : World) (hW : Below w.heap.size w W) => behind_any 76 s hs W (hL.below hW))
  unfold DecPostL at HB2
  rw [h3] at HB2
  have HSF := Lib.hid (fun (W : World) => Tryz.strings_CutSuffix ⟨s.toArray⟩ ⟨#[58]⟩ W (by show s.toArray.size ≤ _; simp; omega))
  have e1 : hasSuffix (⟨s.toArray⟩ : ByteArray).data.toList (⟨#[58]⟩ : ByteArray).data.toList = true := h4
  have e2 : trimSuffix (⟨s.toArray⟩ : ByteArray).data.toList (⟨#[58]⟩ : ByteArray).data.toList = r := h5
  rw [e1, e2] at HSF
  have HB3 := Lib.hid (fun (W : World) (hW : Below w.heap.size w W) => behind_any 76 r h6 W (hL.below hW))
  unfold DecPostL at HB3
  rw [h7] at HB3
  clear h0 h1 h2 h3 h4 h5 h6 h7 e1 e2
  clear hL hO
  go_enter Tryz.func121, Tryz.ntmps121
  go_wp2_with (first
    | (at_lookup
       refine wpList_lookup_own_ok_int _ rfl _ _ 68 rfl 9 3 .i64 lawS Tryz.underlying68 Tryz.underlying3 (zeroE _) b 49 (opsD 49) rfl HO.out _ (slit s) rfl HK.out ?_
       intro c hat hwc
       rw [HH.out]
       have HAT := Lib.hid hat
       clear hat hwc)
    | (go_at_call 135
       refine (HDC.out _ (by first | exact Below.refl _ _ | exact HB.out)).mono ?_
       rintro e w2 ⟨n1, rfl, h1, hb2⟩
       have HV1 := Lib.hid h1
       have HB := Lib.hid hb2
       clear h1 hb2)
    | (go_at_call 136
       with_reducible refine (HB1.out _ HB.out).mono ?_
       rintro e w2 ⟨n2, rfl, h1, hb2⟩
       have HV2 := Lib.hid h1
       have HB := Lib.hid (bt HB.out hb2)
       clear h1 hb2)
    | (go_at_call 136
       with_reducible refine (HB2.out _ HB.out).mono ?_
       rintro e w2 ⟨n3, rfl, h1, hb2⟩
       have HV3 := Lib.hid h1
       have HB := Lib.hid (bt HB.out hb2)
       clear h1 hb2)
    | (go_at_call 137
       refine (HSF.out _).mono ?_
       rintro e w2 ⟨rfl, hw⟩
       have hw2 := hw.symm
       clear hw
       subst hw2)
    | (go_at_call 136
       with_reducible refine (HB3.out _ HB.out).mono ?_
       rintro e w2 ⟨n4, rfl, h1, hb2⟩
       have HV4 := Lib.hid h1
       have HB := Lib.hid (bt HB.out hb2)
       clear h1 hb2))
  go_ret
  exact ⟨rfl, HB.out⟩
theorem wordOf_any (s : List UInt8) (hs : s.length ≤ 281474976710656) (b : Nat) (w : World) (hL : LaidL w) (hO : OpsAt w b 49) : Calls Tryz.prog 121 #[.string ⟨s.toArray⟩, .map (some b)] w (WordPost (wordP s) w) := by
  unfold wordP
  cases h0 : opOf s with
  | some op => exact wordOf_op s hs b w hL hO op h0
  | none =>
    cases h1 : decimalP s with
    | some m => exact wordOf_num s hs b w hL hO h0 m h1
    | none =>
      cases h2 : behind 82 s with
      | some m => exact wordOf_reg s hs b w hL hO h0 h1 m h2
      | none =>
        cases h3 : behind 76 s with
        | some m => exact wordOf_lab s hs b w hL hO h0 h1 h2 m h3
        | none =>
          simp only
          rcases suf_one s with ⟨h4, h5, h6⟩ | ⟨h4, h5⟩
          · rw [if_pos h5]
            have h7 : s.dropLast.length ≤ 281474976710656 := by rw [List.length_dropLast]; omega
            cases h8 : behind 76 s.dropLast with
            | some m => exact wordOf_mark s hs b w hL hO h0 h1 h2 h3 _ h4 h6 h7 m h8
            | none => exact wordOf_nomark s hs b w hL hO h0 h1 h2 h3 _ h4 h6 h7 h8
          · rw [if_neg h5]
            exact wordOf_nil s hs b w hL hO h0 h1 h2 h3 h4
end Go.Proofs.YthojmbljlehpbaaGreatDoor.Lists
