/- The text of a word, and words written with blanks between them. No condition but what the package variables hold. -/
import Derived.Test.YthojmbljlehpbaaGreatDoorG18
import Derived.Lib.BufferKept
import Derived.Lib.AppendIntMem
namespace Go.Proofs.YthojmbljlehpbaaGreatDoor.Lists
open Go.RowKit Go.Proofs.YthojmbljlehpbaaGreatDoor.Relax Go.Proofs.YthojmbljlehpbaaGreatDoor.Graph Go.Lib
open Go.Proofs.YthojmbljlehpbaaGreatDoor.Enc hiding below_one bt ret_bool

theorem itoa_any (n : Int) (h : I64 n) (w : World) (hL : LaidL w) : Calls Tryz.prog 40 #[.int .i64 n] w fun e w' => e = .returned (.string ⟨(Lib.itoa n).toArray⟩) ∧ Below w.heap.size w w' :=
  (Tryz.strconv_Itoa n h.1 h.2 w hL.pow).mono fun _e _w' ⟨h1, _k, _os, h2⟩ => ⟨h1, h2 ▸ below_grow _ _ (Nat.le_refl _) _ _⟩
theorem dec_len : ∀ (k u : Nat), u < 10 ^ (k + 1) → (decDigits u).length ≤ k + 1
  | 0, u, h => by rw [decDigits, dif_pos (by omega)]; simp
  | k + 1, u, h => by
    rw [decDigits]
    split
    · simp
    · have := dec_len k (u / 10) (by rw [Nat.pow_succ] at h; omega)
      rw [List.length_append, List.length_singleton]; omega
theorem itoa_len {n : Int} (h : I64 n) : (itoa n).length ≤ 20 := by
  unfold I64 at h
  unfold itoa
  split
  · have := dec_len 18 n.natAbs (by have : (10 : Nat) ^ (18 + 1) = 10000000000000000000 := by decide
                                    omega)
    simp only [List.length_cons]; omega
  · have := dec_len 18 n.toNat (by have : (10 : Nat) ^ (18 + 1) = 10000000000000000000 := by decide
                                   omega)
    omega
theorem cat_bytes (a b : List UInt8) : (⟨a.toArray⟩ : ByteArray) ++ ⟨b.toArray⟩ = ⟨(a ++ b).toArray⟩ := by
  apply ByteArray.ext
  simp
set_option maxHeartbeats 4000000 in
set_option maxRecDepth 100000 in
theorem text_reg (n : Int) (h : I64 n) (w : World) (hL : LaidL w) : Calls Tryz.prog 55 #[wdV (some (.reg n))] w fun e w' => e = .returned (.string ⟨(textW (.reg n)).toArray⟩) ∧ Below w.heap.size w w' := by
  have a0 := as_name (some (.reg n)) w
  have a1 := as_reg (some (.reg n)) w
  have a2 := as_lab (some (.reg n)) w
  have a3 := as_mark (some (.reg n)) w
  have a4 := as_num (some (.reg n)) w
  simp only [wdV, asName, asReg, asLab, asMark, asNum] at a0 a1 a2 a3 a4
  have HI := Lib.hid (itoa_any n h w hL)
  have hlen := itoa_len h
  obtain ⟨ts, hts⟩ : ∃ q, q = itoa n := ⟨_, rfl⟩
  have HT : Hid (textW (.reg n) = 82 :: ts) := Lib.hid (by rw [hts]; rfl)
  rw [← hts] at HI hlen
  clear h hL hts
  unfold wdV
  go_enter Tryz.func55, Tryz.ntmps55
  go_wp2_with (
    go_at_call 40
    refine HI.out.mono ?_
    rintro e w2 ⟨rfl, hb2⟩
    have HB2 := Lib.hid hb2
    clear hb2)
  go_ret
  refine ⟨?_, HB2.out⟩
  rw [HT.out]
  exact congrArg (fun q => Ending.returned (Value.string q)) (cat_bytes [82] ts)
set_option maxHeartbeats 4000000 in
set_option maxRecDepth 100000 in
theorem text_lab (n : Int) (h : I64 n) (w : World) (hL : LaidL w) : Calls Tryz.prog 55 #[wdV (some (.lab n))] w fun e w' => e = .returned (.string ⟨(textW (.lab n)).toArray⟩) ∧ Below w.heap.size w w' := by
  have a0 := as_name (some (.lab n)) w
  have a1 := as_reg (some (.lab n)) w
  have a2 := as_lab (some (.lab n)) w
  have a3 := as_mark (some (.lab n)) w
  have a4 := as_num (some (.lab n)) w
  simp only [wdV, asName, asReg, asLab, asMark, asNum] at a0 a1 a2 a3 a4
  have HI := Lib.hid (itoa_any n h w hL)
  have hlen := itoa_len h
  obtain ⟨ts, hts⟩ : ∃ q, q = itoa n := ⟨_, rfl⟩
  have HT : Hid (textW (.lab n) = 76 :: ts) := Lib.hid (by rw [hts]; rfl)
  rw [← hts] at HI hlen
  clear h hL hts
  unfold wdV
  go_enter Tryz.func55, Tryz.ntmps55
  go_wp2_with (
    go_at_call 40
    refine HI.out.mono ?_
    rintro e w2 ⟨rfl, hb2⟩
    have HB2 := Lib.hid hb2
    clear hb2)
  go_ret
  refine ⟨?_, HB2.out⟩
  rw [HT.out]
  exact congrArg (fun q => Ending.returned (Value.string q)) (cat_bytes [76] ts)
set_option maxHeartbeats 4000000 in
set_option maxRecDepth 100000 in
theorem text_mark (n : Int) (h : I64 n) (w : World) (hL : LaidL w) : Calls Tryz.prog 55 #[wdV (some (.mark n))] w fun e w' => e = .returned (.string ⟨(textW (.mark n)).toArray⟩) ∧ Below w.heap.size w w' := by
  have a0 := as_name (some (.mark n)) w
  have a1 := as_reg (some (.mark n)) w
  have a2 := as_lab (some (.mark n)) w
  have a3 := as_mark (some (.mark n)) w
  have a4 := as_num (some (.mark n)) w
  simp only [wdV, asName, asReg, asLab, asMark, asNum] at a0 a1 a2 a3 a4
  have HI := Lib.hid (itoa_any n h w hL)
  have hlen := itoa_len h
  obtain ⟨ts, hts⟩ : ∃ q, q = itoa n := ⟨_, rfl⟩
  have HT : Hid (textW (.mark n) = 76 :: (ts ++ [58])) := Lib.hid (by rw [hts]; rfl)
  rw [← hts] at HI hlen
  clear h hL hts
  unfold wdV
  go_enter Tryz.func55, Tryz.ntmps55
  go_wp2_with (
    go_at_call 40
    refine HI.out.mono ?_
    rintro e w2 ⟨rfl, hb2⟩
    have HB2 := Lib.hid hb2
    clear hb2)
  go_ret
  refine ⟨?_, HB2.out⟩
  rw [HT.out]
  exact congrArg (fun q => Ending.returned (Value.string q)) ((congrArg (fun q => q ++ (⟨#[58]⟩ : ByteArray)) (cat_bytes [76] ts)).trans ((cat_bytes (76 :: ts) [58]).trans rfl))
set_option maxHeartbeats 4000000 in
set_option maxRecDepth 100000 in
theorem text_num (n : Int) (h : I64 n) (w : World) (hL : LaidL w) : Calls Tryz.prog 55 #[wdV (some (.num n))] w fun e w' => e = .returned (.string ⟨(textW (.num n)).toArray⟩) ∧ Below w.heap.size w w' := by
  have a0 := as_name (some (.num n)) w
  have a1 := as_reg (some (.num n)) w
  have a2 := as_lab (some (.num n)) w
  have a3 := as_mark (some (.num n)) w
  have a4 := as_num (some (.num n)) w
  simp only [wdV, asName, asReg, asLab, asMark, asNum] at a0 a1 a2 a3 a4
  have HI := Lib.hid (itoa_any n h w hL)
  have hlen := itoa_len h
  obtain ⟨ts, hts⟩ : ∃ q, q = itoa n := ⟨_, rfl⟩
  have HT : Hid (textW (.num n) = ts) := Lib.hid (by rw [hts]; rfl)
  rw [← hts] at HI hlen
  clear h hL hts
  unfold wdV
  go_enter Tryz.func55, Tryz.ntmps55
  go_wp2_with (
    go_at_call 40
    refine HI.out.mono ?_
    rintro e w2 ⟨rfl, hb2⟩
    have HB2 := Lib.hid hb2
    clear hb2)
  go_ret
  refine ⟨?_, HB2.out⟩
  rw [HT.out]
  rfl
set_option maxHeartbeats 4000000 in
set_option maxRecDepth 100000 in
theorem text_name (n : Int) (h : 0 ≤ n ∧ n ≤ 48) (w : World) (hL : LaidL w) : Calls Tryz.prog 55 #[wdV (some (.name n))] w fun e w' => e = .returned (.string ⟨(textW (.name n)).toArray⟩) ∧ Below w.heap.size w w' := by
  have a0 := as_name (some (.name n)) w
  simp only [wdV, asName] at a0
  have c0 := hL.name h.1 (by omega)
  obtain ⟨k, rfl⟩ : ∃ k : Nat, n = k := ⟨n.toNat, by omega⟩
  rw [Int.toNat_natCast] at c0
  have i0 : (0 : Int) ≤ k := by omega
  have i1 : (k : Int) < 49 := by omega
  unfold wdV
  show Calls _ _ _ _ fun e w' => e = .returned (.string ⟨(nameB k).toArray⟩) ∧ Below w.heap.size w w'
  obtain ⟨ts, hts⟩ : ∃ q, q = nameB k := ⟨_, rfl⟩
  rw [← hts] at c0 ⊢
  clear h hL hts
  go_enter Tryz.func55, Tryz.ntmps55
  go_wp2
  go_ret
  exact ⟨rfl, Below.refl _ _⟩
theorem text_any (x : Wd) (h : okW x) (w : World) (hL : LaidL w) : Calls Tryz.prog 55 #[wdV (some x)] w fun e w' => e = .returned (.string ⟨(textW x).toArray⟩) ∧ Below w.heap.size w w' := by
  cases x with
  | name n => exact text_name n ⟨by have := h.1; omega, h.2⟩ w hL
  | reg n => exact text_reg n h w hL
  | lab n => exact text_lab n h w hL
  | mark n => exact text_mark n h w hL
  | num n => exact text_num n h w hL
theorem text_len {x : Wd} (h : okW x) : (textW x).length ≤ 22 := by
  cases x with
  | name n =>
    show (nameB n).length ≤ 22
    unfold nameB
    have key : namesL.all (fun q => decide (q.length ≤ 22)) = true := by decide
    rw [List.getD_eq_getElem?_getD]
    cases hq : namesL[n.toNat]? with
    | none => simp
    | some q => simpa using List.all_eq_true.1 key q (List.mem_of_getElem? hq)
  | reg n => have := itoa_len h; show (82 :: itoa n).length ≤ 22; simp; omega
  | lab n => have := itoa_len h; show (76 :: itoa n).length ≤ 22; simp; omega
  | mark n => have := itoa_len h; show (76 :: (itoa n ++ [58])).length ≤ 22; simp; omega
  | num n => have := itoa_len h; show (itoa n).length ≤ 22; omega
end Go.Proofs.YthojmbljlehpbaaGreatDoor.Lists
