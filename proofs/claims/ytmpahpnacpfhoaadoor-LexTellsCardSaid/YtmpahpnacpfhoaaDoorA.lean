/- The leaf functions of package lex, each with what it returns at every byte. No condition. -/
import Derived.Test.YtmpahpnacpfhoaaDoorSp
import Derived.Test.YtmpahpnacpfhoaaDoorShelf
import Derived.WalkKit
import Derived.WalkSpells
import Derived.WalkLawsBesides
import Derived.Lib.Hide
namespace Go.Proofs.YtmpahpnacpfhoaaDoor
open Go.RowKit

theorem ret_bool {a b : Bool} (h : a = b) : Ending.returned (.bool a) = .returned (.bool b) := by rw [h]
theorem ret_int {k : IntKind} {a b : Int} (h : a = b) : Ending.returned (.int k a) = .returned (.int k b) := by rw [h]

set_option maxHeartbeats 400000 in
theorem isBlank_any (c : UInt8) (w : World) :
    Calls Tryd.prog 23 #[.int .u8 (c.toNat : Int)] w fun e w' => e = .returned (.bool (blankB c)) ∧ w = w' := by
  go_enter Tryd.func23, Tryd.ntmps23
  go_wp2
  all_goals go_ret
  all_goals exact ⟨ret_bool (by rw [Bool.eq_iff_iff]; simp [blankB]; omega), rfl⟩
set_option maxHeartbeats 400000 in
theorem isLetter_any (c : UInt8) (w : World) :
    Calls Tryd.prog 27 #[.int .u8 (c.toNat : Int)] w fun e w' => e = .returned (.bool (letterB c)) ∧ w = w' := by
  go_enter Tryd.func27, Tryd.ntmps27
  go_wp2
  all_goals go_ret
  all_goals exact ⟨ret_bool (by rw [Bool.eq_iff_iff]; simp [letterB]; omega), rfl⟩
set_option maxHeartbeats 400000 in
theorem isDigit_any (c : UInt8) (w : World) :
    Calls Tryd.prog 29 #[.int .u8 (c.toNat : Int)] w fun e w' => e = .returned (.bool (digitB c)) ∧ w = w' := by
  go_enter Tryd.func29, Tryd.ntmps29
  go_wp2
  all_goals go_ret
  all_goals exact ⟨ret_bool (by rw [Bool.eq_iff_iff]; simp [digitB]; omega), rfl⟩

set_option maxHeartbeats 400000 in
theorem escaped_any (n : Int) (w : World) :
    Calls Tryd.prog 57 #[.int .u8 n] w fun e w' => e = .returned (.tuple #[.int .u8 (escN n).1, .bool (escN n).2]) ∧ w = w' := by
  go_enter Tryd.func57, Tryd.ntmps57
  go_wp2
  all_goals go_ret2
  all_goals refine ⟨?_, rfl⟩
  all_goals simp_all [escN]

theorem byteL_of (s : ByteArray) (k : Nat) (h : k < s.size) : ((s[k].toNat : Nat) : Int) = (byteL s.data.toList k : Int) := by
  have := Lib.data_getElem? s k h
  simp [byteL, List.getD, this]
theorem byteL_off (s : ByteArray) (k : Nat) (h : s.size ≤ k) : byteL s.data.toList k = 0 := by
  have : s.data.toList[k]? = none := by
    rw [List.getElem?_eq_none]; rw [← Lib.size_eq]; exact h
  simp [byteL, List.getD, this]

set_option maxHeartbeats 400000 in
theorem byteAt_any (s : ByteArray) (k : Nat) (_hk : k ≤ 3) (w : World) :
    Calls Tryd.prog 48 #[.string s, .int .i64 k] w fun e w' => e = .returned (.int .u8 (byteL s.data.toList k)) ∧ w = w' := by
  by_cases h : k < s.size
  · go_enter Tryd.func48, Tryd.ntmps48
    go_wp2
    go_ret
    exact ⟨ret_int (byteL_of s k h), rfl⟩
  · go_enter Tryd.func48, Tryd.ntmps48
    go_wp2
    go_ret
    exact ⟨ret_int (by rw [byteL_off s k (by omega)]; rfl), rfl⟩

set_option maxHeartbeats 400000 in
theorem isWord_any (s : ByteArray) (w : World) :
    Calls Tryd.prog 45 #[.string s] w fun e w' => e = .returned (.bool (isWordL s.data.toList)) ∧ w = w' := by
  go_enter Tryd.func45, Tryd.ntmps45
  go_wp2
  all_goals go_ret
  all_goals refine ⟨ret_bool ?_, rfl⟩
  all_goals rw [← Lib.toList_data]
  all_goals simp_all [isWordL, wordsL]

/-- The library's contracts, with the caller's own name of the world. -/
theorem hasPrefix_any (s p : ByteArray) (w : World) :
    Calls Tryd.prog 24 #[.string s, .string p] w fun e w' => e = .returned (.bool (Lib.hasPrefix s.data.toList p.data.toList)) ∧ w = w' :=
  (Tryd.strings_HasPrefix s p w).mono fun _ _ ⟨a, b⟩ => ⟨a, b.symm⟩
theorem indexByte_any (s : ByteArray) (c : Int) (w : World) :
    Calls Tryd.prog 42 #[.string s, .int .u8 c] w fun e w' => e = .returned (.int .i64 (Lib.indexByte s.data.toList c.toNat.toUInt8)) ∧ w = w' :=
  (Tryd.strings_IndexByte s c w).mono fun _ _ ⟨a, b⟩ => ⟨a, b.symm⟩
theorem index_any (s sub : ByteArray) (m : Int) (w : World) (hs : s.size ≤ 20000) (hm : w.cell? ⟨0, 0, none⟩ = some (.int .i64 m)) :
    Calls Tryd.prog 26 #[.string s, .string sub] w fun e w' => e = .returned (.int .i64 (Lib.index s.data.toList sub.data.toList)) ∧ w = w' :=
  (Tryd.strings_Index s sub m w (by omega) hm).mono fun _ _ ⟨a, b⟩ => ⟨a, b.symm⟩
set_option maxHeartbeats 400000 in
theorem clone_any (s : ByteArray) (w : World) (hs : s.size ≤ 20000) :
    Calls Tryd.prog 33 #[.string s] w fun e w' => e = .returned (.string s) ∧ Below w.heap.size w w' := by
  go_enter Tryd.func33, Tryd.ntmps33
  go_wp2_with (go_at_call 49; refine (Tryd.stringslite_Clone s _ (by omega)).mono ?_; rintro e w' ⟨rfl, hb⟩)
  go_ret
  exact ⟨rfl, hb⟩

set_option maxHeartbeats 400000 in
theorem lineComment_any (s : ByteArray) (w : World) :
    Calls Tryd.prog 25 #[.string s] w fun e w' => e = .returned (.int .i64 (lineLen s.data.toList)) ∧ w = w' := by
  by_cases h : 0 ≤ Lib.indexByte s.data.toList 10
  · have hv : (lineLen s.data.toList : Int) = Lib.indexByte s.data.toList 10 := by unfold lineLen; rw [if_pos h]; omega
    have HV := Lib.hid hv; clear hv
    go_enter Tryd.func25, Tryd.ntmps25
    go_wp2_with (go_at_call 42; refine (indexByte_any s 10 _).mono ?_; rintro e w' ⟨rfl, rfl⟩)
    go_ret
    exact ⟨ret_int HV.out.symm, rfl⟩
  · have hv : (lineLen s.data.toList : Int) = s.size := by unfold lineLen; rw [if_neg h, Lib.size_eq]
    have HV := Lib.hid hv; clear hv
    have h' : ¬ 0 ≤ Lib.indexByte s.data.toList (Int.toNat 10).toUInt8 := h
    go_enter Tryd.func25, Tryd.ntmps25
    go_wp2_with (go_at_call 42; refine (indexByte_any s 10 _).mono ?_; rintro e w' ⟨rfl, rfl⟩)
    go_ret
    exact ⟨ret_int HV.out.symm, rfl⟩

/-- The text of a number without the letter that says that it is unsigned. -/
def cutD (s : ByteArray) : ByteArray := if markedL s.data.toList then s.extract 0 (s.size - 1) else s
theorem cutD_list (s : ByteArray) : (cutD s).data.toList = digitsL s.data.toList := by
  unfold cutD digitsL
  by_cases hm : markedL s.data.toList = true
  · rw [if_pos hm, if_pos hm, Lib.extract_data, ← Lib.size_eq]; simp
  · rw [if_neg hm, if_neg hm]
theorem cutD_size (s : ByteArray) : (cutD s).size ≤ s.size := by
  unfold cutD
  split
  · rw [ByteArray.size_extract]; omega
  · exact Nat.le_refl _
set_option maxHeartbeats 400000 in
theorem cutMark_any (s : ByteArray) (w : World) (h0 : 0 < s.size) (_hs : s.size ≤ 20000) :
    Calls Tryd.prog 55 #[.string s] w fun e w' => e = .returned (.tuple #[.string (cutD s), .bool (markedL s.data.toList)]) ∧ w = w' := by
  have e1 := Lib.hid (byteL_of s (s.size - 1) (by omega))
  have eT : ∀ (x : Int), (x = 117 ∨ x = 85) → x = (byteL s.data.toList (s.size - 1) : Int) → markedL s.data.toList = true ∧ cutD s = s.extract 0 (s.size - 1) := by
    intro x hx he
    have hm : markedL s.data.toList = true := by unfold markedL; rw [← Lib.size_eq]; exact decide_eq_true (by omega)
    exact ⟨hm, by unfold cutD; rw [if_pos hm]⟩
  have eF : ∀ (x : Int), ¬ (x = 117 ∨ x = 85) → x = (byteL s.data.toList (s.size - 1) : Int) → markedL s.data.toList = false ∧ cutD s = s := by
    intro x hx he
    have hm : markedL s.data.toList = false := by unfold markedL; rw [← Lib.size_eq]; exact decide_eq_false (by omega)
    exact ⟨hm, by unfold cutD; rw [hm]; rfl⟩
  have HT := Lib.hid eT
  have HF := Lib.hid eF
  clear eT eF
  go_enter Tryd.func55, Tryd.ntmps55
  go_wp2
  all_goals go_ret2
  · obtain ⟨hm, hd⟩ := HT.out _ (by left; assumption) e1.out
    exact ⟨by rw [hm, hd]; rfl, rfl⟩
  · obtain ⟨hm, hd⟩ := HT.out _ (by rename_i h; simpa using h) e1.out
    exact ⟨by rw [hm, hd]; rfl, rfl⟩
  · obtain ⟨hm, hd⟩ := HF.out _ (by rename_i h; simpa using h) e1.out
    exact ⟨by rw [hm, hd]; rfl, rfl⟩

set_option maxHeartbeats 1000000 in
theorem character_any (s : ByteArray) (w : World) (_hs : s.size ≤ 20000) :
    Calls Tryd.prog 47 #[.string s] w fun e w' => e = .returned (.tuple #[.int .u8 (charL s.data.toList).1, .int .i64 (charL s.data.toList).2]) ∧ w = w' := by
  have e1 := Lib.hid (byteL_of s 1)
  have e2 := Lib.hid (byteL_of s 2)
  have e3 := Lib.hid (byteL_of s 3)
  go_enter Tryd.func47, Tryd.ntmps47
  go_wp2_with (go_at_call 57; refine (escaped_any _ _).mono ?_; rintro e w' ⟨rfl, rfl⟩)
  all_goals go_ret2
  all_goals refine ⟨?_, rfl⟩
  all_goals (simp only [beq_iff_eq, bne_iff_ne, ne_eq, beq_eq_false_iff_ne, bne_eq_false_iff_eq] at *)
  all_goals (try have f1 := e1.out (by omega))
  all_goals (try have f2 := e2.out (by omega))
  all_goals (try have f3 := e3.out (by omega))
  all_goals first
    | (have hc : charL s.data.toList = ((byteL s.data.toList 1 : Int), 3) := by
        simp only [charL, ← Lib.size_eq]
        rw [if_pos (by omega)]
       rw [hc, ← f1]
       rfl)
    | (have hx : (escN (byteL s.data.toList 2 : Int)).2 = true := by rw [← f2]; assumption
       have hc : charL s.data.toList = ((escN (byteL s.data.toList 2 : Int)).1, 4) := by
        simp only [charL, ← Lib.size_eq]
        rw [if_neg (by omega), if_pos (by omega), if_pos hx]
       rw [hc, ← f2]
       rfl)
    | (have hx : (escN (byteL s.data.toList 2 : Int)).2 = false := by rw [← f2]; assumption
       have hc : charL s.data.toList = (0, 0) := by
        simp only [charL, ← Lib.size_eq]
        rw [if_neg (by omega), if_pos (by omega), hx]
        rfl
       rw [hc]
       rfl)
    | (have hc : charL s.data.toList = (0, 0) := by
        simp only [charL, ← Lib.size_eq]
        rw [if_neg (by omega), if_neg (by omega)]
       rw [hc]
       rfl)
end Go.Proofs.YtmpahpnacpfhoaaDoor
