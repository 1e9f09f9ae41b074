/- Numbers read. No condition but what the package variables hold, and sizes. -/
import Derived.Test.YthojmbljlehpbaaGreatDoorG21
import Derived.Lib.AtoiErrMem
import Derived.Maps.OwnSet
import Derived.Deep.MidRow
import Derived.StringKeys
namespace Go.Proofs.YthojmbljlehpbaaGreatDoor.Lists
open Go.RowKit Go.Proofs.YthojmbljlehpbaaGreatDoor.Relax Go.Proofs.YthojmbljlehpbaaGreatDoor.Graph
open Go.Lib hiding intOf
open Go.Proofs.YthojmbljlehpbaaGreatDoor.Enc hiding below_one bt ret_bool

/-- What a reader of numbers gives. -/
def DecPostL (o : Option Int) (w : World) (e : Ending) (w' : World) : Prop := ∃ n, e = .returned (.tuple #[.int .i64 n, .bool o.isSome]) ∧ (∀ m, o = some m → n = m) ∧ Below w.heap.size w w'
set_option maxHeartbeats 4000000 in
set_option maxRecDepth 100000 in
theorem decimal_ok (s : List UInt8) (v : Int) (hv : atoiAll s = .ok v) (hs : s.length ≤ 281474976710656) (w : World) (hL : LaidL w) : Calls Tryz.prog 135 #[.string ⟨s.toArray⟩] w (DecPostL (decimalP s) w) := by
  have HA := Lib.hid (Tryz.strconv_Atoi_ok ⟨s.toArray⟩ (by show s.toArray.size ≤ _; simp; omega) v hv w)
  have HI := Lib.hid (fun (W : World) (hW : LaidL W) => itoa_any v (atoi_range hv) W hW)
  have HLL := Lib.hid (fun (W : World) (hW : Below w.heap.size w W) => hL.below hW)
  have HD : Hid (decimalP s = if itoa v = s then some v else none) := Lib.hid (by unfold decimalP; rw [hv])
  clear hL hv
  go_enter Tryz.func135, Tryz.ntmps135
  go_wp2_with (first
    | (go_at_call 143
       refine HA.out.mono ?_
       rintro e w2 ⟨rfl, hb2⟩
       have HB2 : Hid (Below w.heap.size w w2) := Lib.hid (by
         rcases hb2 with rfl | ⟨t, rfl⟩
         · exact Below.refl _ _
         · exact bytesWorld_below _ _ _)
       clear hb2)
    | (go_at_call 40
       refine (HI.out _ (HLL.out _ HB2.out)).mono ?_
       rintro e w3 ⟨rfl, hb3⟩
       have HB3 := Lib.hid (bt HB2.out hb3)
       clear hb3))
  go_ret2
  refine ⟨v, ?_, fun m hm => ?_, HB3.out⟩
  · have : (decimalP s).isSome = (itoa v == s) := by
      rw [HD.out]
      by_cases h : itoa v = s
      · rw [if_pos h, h]; simp
      · rw [if_neg h]; simp [h]
    rw [this]
    rfl
  · rw [HD.out] at hm
    split at hm
    · injection hm
    · cases hm
set_option maxHeartbeats 4000000 in
set_option maxRecDepth 100000 in
theorem decimal_no (s : List UInt8) (hd : decimalP s = none) (w : World) (_hL : LaidL w) (q : Int) (te : TypeId) (_pe : Value)
    (hA : Calls Tryz.prog 143 #[.string ⟨s.toArray⟩] w fun e w' => ∃ N, e = .returned (.tuple #[.int .i64 q, .iface te (.pointer (some ⟨N, 0, none⟩))]) ∧ Below w.heap.size w w') : Calls Tryz.prog 135 #[.string ⟨s.toArray⟩] w (DecPostL (decimalP s) w) := by
  have HA := Lib.hid hA
  rw [hd]
  clear hA _hL hd
  go_enter Tryz.func135, Tryz.ntmps135
  go_wp2_with (
    go_at_call 143
    refine HA.out.mono ?_
    rintro e w2 ⟨N, rfl, hb2⟩
    have HB2 := Lib.hid hb2
    clear hb2)
  go_ret2
  exact ⟨q, rfl, (fun m hm => nomatch hm), HB2.out⟩
theorem decimal_any (s : List UInt8) (hs : s.length ≤ 281474976710656) (w : World) (hL : LaidL w) : Calls Tryz.prog 135 #[.string ⟨s.toArray⟩] w (DecPostL (decimalP s) w) := by
  have hsz : (⟨s.toArray⟩ : ByteArray).size ≤ 281474976710656 := by show s.toArray.size ≤ _; simpa using hs
  rcases hv : atoiAll s with v | - | -
  · exact decimal_ok s v hv hs w hL
  · obtain ⟨te, pe, hc⟩ := hL.syn
    exact decimal_no s (by unfold decimalP; rw [hv]) w hL 0 _ pe ((Tryz.strconv_Atoi_syntax ⟨s.toArray⟩ hsz hv _ w hc (.inr ⟨te, pe, rfl⟩)).mono fun e w' ⟨N, h1, _, _, h4⟩ => ⟨N, h1, h4⟩)
  · obtain ⟨te, pe, hc⟩ := hL.ran
    exact decimal_no s (by unfold decimalP; rw [hv]) w hL _ _ pe ((Tryz.strconv_Atoi_range ⟨s.toArray⟩ hsz hv _ w hc (.inr ⟨te, pe, rfl⟩)).mono fun e w' ⟨N, h1, _, _, h4⟩ => ⟨N, h1, h4⟩)
theorem pre_one (s : List UInt8) (c : UInt8) : (hasPrefix s [c] = true ∧ ∃ r, s = c :: r ∧ trimPrefix s [c] = r ∧ behind c s = decimalP r) ∨ (hasPrefix s [c] = false ∧ behind c s = none) := by
  cases s with
  | nil => exact .inr ⟨rfl, rfl⟩
  | cons b r =>
    by_cases h : b = c
    · subst h
      exact .inl ⟨by simp [hasPrefix], r, rfl, by simp [trimPrefix, hasPrefix], behind_eq b r⟩
    · refine .inr ⟨?_, behind_ne h r⟩
      have h2 : (c == b) = false := beq_eq_false_iff_ne.2 (fun e => h e.symm)
      show [c].isPrefixOf (b :: r) = false
      unfold List.isPrefixOf
      rw [h2]; rfl
set_option maxHeartbeats 4000000 in
set_option maxRecDepth 100000 in
theorem behind_any (c : UInt8) (s : List UInt8) (hs : s.length ≤ 281474976710656) (w : World) (hL : LaidL w) : Calls Tryz.prog 136 #[.string ⟨#[c]⟩, .string ⟨s.toArray⟩] w (DecPostL (behind c s) w) := by
  have HP := Lib.hid (fun (W : World) => Tryz.strings_CutPrefix ⟨s.toArray⟩ ⟨#[c]⟩ W)
  rcases pre_one s c with ⟨h1, r, h2, h3, h4⟩ | ⟨h1, h2⟩
  · rw [h4]
    have HD := Lib.hid (decimal_any r (by rw [h2] at hs; simp at hs; omega) w hL)
    unfold DecPostL at HD
    have e1 : hasPrefix (⟨s.toArray⟩ : ByteArray).data.toList (⟨#[c]⟩ : ByteArray).data.toList = true := h1
    have e2 : trimPrefix (⟨s.toArray⟩ : ByteArray).data.toList (⟨#[c]⟩ : ByteArray).data.toList = r := h3
    rw [e1, e2] at HP
    obtain ⟨oo, ho⟩ : ∃ oo, oo = decimalP r := ⟨_, rfl⟩
    rw [← ho] at HD ⊢
    clear h1 h2 h3 h4 e1 e2 hL ho
    go_enter Tryz.func136, Tryz.ntmps136
    go_wp2_with (first
      | (go_at_call 144
         refine (HP.out _).mono ?_
         rintro e w2 ⟨rfl, rfl⟩)
      | (go_at_call 135
         refine HD.out.mono ?_
         rintro e w3 ⟨n, rfl, h5, hb3⟩
         have HB3 := Lib.hid hb3
         have H5 := Lib.hid h5
         clear hb3 h5))
    go_ret2
    exact ⟨n, rfl, H5.out, HB3.out⟩
  · rw [h2]
    have e1 : hasPrefix (⟨s.toArray⟩ : ByteArray).data.toList (⟨#[c]⟩ : ByteArray).data.toList = false := h1
    rw [e1] at HP
    clear h1 h2 e1 hL
    go_enter Tryz.func136, Tryz.ntmps136
    go_wp2_with (
      go_at_call 144
      refine (HP.out _).mono ?_
      rintro e w2 ⟨rfl, rfl⟩)
    go_ret2
    exact ⟨0, rfl, (fun m hm => nomatch hm), Below.refl _ _⟩
end Go.Proofs.YthojmbljlehpbaaGreatDoor.Lists
namespace Go.Proofs.YthojmbljlehpbaaGreatDoor.Lists
open Go.RowKit Go.Proofs.YthojmbljlehpbaaGreatDoor.Relax Go.Proofs.YthojmbljlehpbaaGreatDoor.Graph Go.Maps
open Go.Lib hiding intOf
open Go.Proofs.YthojmbljlehpbaaGreatDoor.Enc hiding below_one bt ret_bool

def slit (s : List UInt8) : Lit := .string s
def opsD : Nat → DataW Unit
  | 0 => .map []
  | i + 1 => if i = 0 then opsD i else (opsD i).put (slit (nameB i)) (.lit (.int .i64 i))
/-- The last Op of so many that has this name. -/
def opN (s : List UInt8) : Nat → Option Int
  | 0 => none
  | i + 1 => if i ≠ 0 ∧ nameB i = s then some i else opN s i
theorem opsD_is : ∀ i, IsMap (opsD i)
  | 0 => isMap_empty
  | i + 1 => by
    unfold opsD
    split
    · exact opsD_is i
    · exact (opsD_is i).put _ _
theorem slit_key (s : List UInt8) : WideAt.IsKeyLit (slit s) := by unfold slit WideAt.IsKeyLit; trivial
theorem slit_ne {a b : List UInt8} (h : a ≠ b) : slit a ≠ slit b := fun e => by injection e with e; exact h e
theorem opsD_has (s : List UInt8) : ∀ i, Maps.has (opsD i) (slit s) = (opN s i).isSome
  | 0 => rfl
  | i + 1 => by
    unfold opsD opN
    by_cases h0 : i = 0
    · rw [if_pos h0, if_neg (fun h => h.1 h0)]; exact opsD_has s i
    · rw [if_neg h0]
      by_cases h1 : nameB i = s
      · rw [if_pos ⟨h0, h1⟩, h1, has_put_same (opsD_is i) (slit_key _)]; rfl
      · rw [if_neg (fun h => h1 h.2), has_put_other (slit_ne (fun e => h1 e.symm))]; exact opsD_has s i
theorem opsD_at (s : List UInt8) : ∀ i, (opsD i).atKey (slit s) (.lit (.int .i64 0)) = .lit (.int .i64 ((opN s i).getD 0))
  | 0 => rfl
  | i + 1 => by
    unfold opsD opN
    by_cases h0 : i = 0
    · rw [if_pos h0, if_neg (fun h => h.1 h0)]; exact opsD_at s i
    · rw [if_neg h0]
      by_cases h1 : nameB i = s
      · rw [if_pos ⟨h0, h1⟩, h1, atKey_put_same (opsD_is i) (slit_key _)]; rfl
      · rw [if_neg (fun h => h1 h.2), atKey_put_other (slit_ne (fun e => h1 e.symm))]; exact opsD_at s i
theorem opN_some {s : List UInt8} {n : Int} : ∀ {i : Nat}, i ≤ 49 → opN s i = some n → opOf s = some n
  | 0, _, h => by cases h
  | i + 1, hi, h => by
    unfold opN at h
    split at h
    · rename_i h1
      injection h with h
      subst h
      rw [← h1.2]
      exact op_name ⟨by omega, by omega⟩
    · exact opN_some (by omega) h
theorem opN_none {s : List UInt8} : ∀ {i : Nat}, opN s i = none → ∀ j : Nat, j < i → j ≠ 0 → nameB j ≠ s
  | 0, _, j, hj, _ => absurd hj (by omega)
  | i + 1, h, j, hj, h0 => by
    unfold opN at h
    split at h
    · cases h
    · rename_i h1
      by_cases e : j = i
      · subst e; exact fun h2 => h1 ⟨h0, h2⟩
      · exact opN_none h j (by omega) h0
theorem opN_all (s : List UInt8) : opN s 49 = opOf s := by
  cases h : opN s 49 with
  | some n => exact (opN_some (Nat.le_refl _) h).symm
  | none =>
    cases h2 : opOf s with
    | none => rfl
    | some n =>
      obtain ⟨h3, h4, h5⟩ := op_some h2
      obtain ⟨k, rfl⟩ : ∃ k : Nat, n = k := ⟨n.toNat, by omega⟩
      exact absurd h3.symm (opN_none h k (by omega) (by omega))
abbrev OpsAt (w : World) (b i : Nat) : Prop := w.ownsMap Tryz.prog 9 (plainElem (H := Unit) Tryz.prog 3) b i (opsD i)
theorem lawS : Keyed Tryz.prog 9 := string_keyed Tryz.underlying9
theorem key_str (s : List UInt8) (h : s.length ≤ 281474976710656) : keyOf Tryz.prog 9 (.string ⟨s.toArray⟩) = some (slit s) := by
  have := Go.WideMaps.keyOf_string_mk (P := Tryz.prog) Tryz.underlying9 (s := ⟨s.toArray⟩) (by show s.toArray.size ≤ maxLen; unfold maxLen; simp; omega)
  rw [this]; rfl
theorem names_range {w : World} (h : LaidL w) : w.rangeAt 0 0 nameCells.toList := fun j v hv => by
  obtain ⟨t, fr, h1⟩ := h.names
  rw [Nat.zero_add]
  simp only [World.cell?, h1]
  simpa using hv
def namesV : Value := .agg nameCells
set_option maxRecDepth 100000 in
theorem names_index (W : World) (k : Nat) (hk : k < 49) : (Instr.index 132 namesV (.int .i64 (k : Nat))).run Tryz.prog W = .ok (.string ⟨(nameB k).toArray⟩) W := by
  rcases (show k = 0 ∨ k = 1 ∨ k = 2 ∨ k = 3 ∨ k = 4 ∨ k = 5 ∨ k = 6 ∨ k = 7 ∨ k = 8 ∨ k = 9 ∨ k = 10 ∨ k = 11 ∨ k = 12 ∨ k = 13 ∨ k = 14 ∨ k = 15 ∨ k = 16 ∨ k = 17 ∨ k = 18 ∨ k = 19 ∨ k = 20 ∨ k = 21 ∨ k = 22 ∨ k = 23 ∨ k = 24 ∨ k = 25 ∨ k = 26 ∨ k = 27 ∨ k = 28 ∨ k = 29 ∨ k = 30 ∨ k = 31 ∨ k = 32 ∨ k = 33 ∨ k = 34 ∨ k = 35 ∨ k = 36 ∨ k = 37 ∨ k = 38 ∨ k = 39 ∨ k = 40 ∨ k = 41 ∨ k = 42 ∨ k = 43 ∨ k = 44 ∨ k = 45 ∨ k = 46 ∨ k = 47 ∨ k = 48 by omega) with rfl | rfl | rfl | rfl | rfl | rfl | rfl | rfl | rfl | rfl | rfl | rfl | rfl | rfl | rfl | rfl | rfl | rfl | rfl | rfl | rfl | rfl | rfl | rfl | rfl | rfl | rfl | rfl | rfl | rfl | rfl | rfl | rfl | rfl | rfl | rfl | rfl | rfl | rfl | rfl | rfl | rfl | rfl | rfl | rfl | rfl | rfl | rfl | rfl
  all_goals kernel_rfl
theorem names_load (W : World) (h : LaidL W) : (Instr.loadAt 132 (.pointer (some ⟨0, 0, none⟩))).run Tryz.prog W = .ok namesV W := by
  have := run_loadAt_mid (P := Tryz.prog) W 0 0 132 nameCells.toList _ (names_range h) Tryz.underlying132 rfl (by kernel_rfl)
  rw [this]; rfl
theorem name_len (n : Int) : (nameB n).length ≤ 22 := by
  have key : namesL.all (fun q => decide (q.length ≤ 22)) = true := by decide
  unfold nameB
  rw [List.getD_eq_getElem?_getD]
  cases hq : namesL[n.toNat]? with
  | none => simp
  | some q => simpa using List.all_eq_true.1 key q (List.mem_of_getElem? hq)
set_option maxHeartbeats 4000000 in
set_option maxRecDepth 100000 in
theorem opsByName_any (w : World) (hL : LaidL w) : Calls Tryz.prog 64 #[] w fun e w' => ∃ b, e = .returned (.map (some b)) ∧ w.heap.size ≤ b ∧ OpsAt w' b 49 ∧ Below w.heap.size w w' := by
  have hmm := @run_makeMap Tryz.prog
  obtain ⟨W1, hW1⟩ : ∃ W1, W1 = w.alloc (.map #[] 0) := ⟨_, rfl⟩
  have HL1 := Lib.hid (show LaidL W1 by rw [hW1]; exact hL.alloc _)
  have HB1 := Lib.hid (show Below w.heap.size w W1 by rw [hW1]; exact below_one w _)
  have HM1 : Hid (OpsAt W1 w.heap.size 0) := Lib.hid (by rw [hW1]; exact World.ownsMap_made _ _ _ _)
  have HIX0 : Hid (∀ (k : Nat) (W : World), k < 49 → (Instr.index 132 namesV (.int .i64 (k : Nat))).run Tryz.prog W = .ok (.string ⟨(nameB k).toArray⟩) W) := Lib.hid (fun k W hk => names_index W k hk)
  clear hL
  go_enter Tryz.func64, Tryz.ntmps64
  go_upto_region 2 with (fail)
  rw [← hW1]
  clear hW1 hmm
  refine wp_region_lit ?_
  refine wpList_load_mid rfl _ _ rfl 0 0 rfl nameCells.toList _ (names_range HL1.out) Tryz.underlying132 rfl (by kernel_rfl) ?_
  have hvv0 : Value.agg nameCells.toList.toArray = namesV := rfl
  rw [hvv0]
  clear hvv0
  generalize namesV = vv at HIX0 ⊢
  have HIX := HIX0
  clear HIX0
  go_wp2
  go_loopw [6] (fun i wr => ∃ k : Nat, k ≤ 49 ∧ i = .int .i64 k ∧ Hid (OpsAt wr w.heap.size k) ∧ Hid (Below w.heap.size w wr)) (fun i _ => 49 - (intOf i).toNat)
  case atStart => exact ⟨0, by omega, rfl, HM1, HB1⟩
  case round =>
    obtain ⟨k, hk, rfl, HM, HB⟩ := hrel
    have k0 : (0 : Int) ≤ k := by omega
    by_cases hlt : k < 49
    · have k1 : (k : Int) < 49 := by omega
      have hix := fun W => HIX.out k W hlt
      have HKS := Lib.hid (key_str (nameB k) (by have := name_len k; omega))
      have HDS : Hid (opsD (k + 1) = if k = 0 then opsD k else (opsD k).put (slit (nameB k)) (.lit (.int .i64 k))) := Lib.hid rfl
      generalize nameB k = nm at hix HKS HDS
      by_cases hz : k = 0
      · have e0 : ((k : Int) != 0) = false := by simp [hz]
        have e1 : ((k : Int) == 0) = true := by simp [hz]
        have HD2 := Lib.hid (HDS.out.trans (if_pos hz))
        clear hz HDS
        go_wp2
        exact ⟨⟨k + 1, by omega, by go_num, Lib.hid (by unfold OpsAt; rw [HD2.out]; exact HM.out.mono (Nat.le_succ _)), HB⟩, by simp [intOf]; omega⟩
      · have e0 : ((k : Int) != 0) = true := by simp [hz]
        have e1 : ((k : Int) == 0) = false := by simp [hz]
        have HD2 := Lib.hid (HDS.out.trans (if_neg hz))
        have hk9 : k < maxLen := by unfold maxLen; omega
        clear hz HDS
        go_wp2_with (
          at_mapUpdate
          go_loud (refine wpList_mapUpdate_own _ rfl _ _ _ 68 rfl 9 3 lawS Tryz.underlying68 _ w.heap.size k (opsD k) rfl HM.out hk9 _ _ (slit nm) rfl rfl HKS.out _ [] (plainElem_int Tryz.underlying3 (WalkArith.wf_i64 (by omega))) ?_)
          intro w2 h1 h2
          have HM2 := Lib.hid h1
          have HB2 := Lib.hid (Below.grown HB.out h2 HB.out.size (fun q hq => by injection hq with hq; omega))
          clear h1 h2)
        exact ⟨⟨k + 1, by omega, by go_num, Lib.hid (by unfold OpsAt; rw [HD2.out]; exact HM2.out), HB2⟩, by simp [intOf]; omega⟩
    · obtain rfl : k = 49 := by omega
      go_wp2
      go_ret
      exact ⟨_, rfl, Nat.le_refl _, HM.out, HB.out⟩
end Go.Proofs.YthojmbljlehpbaaGreatDoor.Lists
