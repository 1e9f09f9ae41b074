/- The document's own answer for numbers, in any of the three bases. -/
import Derived.Test.YteggenldmkbhiaaDoorTA
import Derived.Test.YteggenldmkbhiaaDoorTC
import Derived.Test.YteggenldmkbhiaaDoorTD
import Derived.Test.YteggenldmkbhiaaDoorTE
import Derived.Test.YteggenldmkbhiaaDoorTF
namespace Go.Proofs.YteggenldmkbhiaaDoor
open Go.RowKit
theorem pre1 (d : ByteArray) (h : 0 < d.size) (x : UInt8) : Lib.hasPrefix d.data.toList [x] = true ↔ d[0] = x := by
  have := drop_cons d 0 h
  rw [List.drop_zero] at this
  rw [this]; unfold Lib.hasPrefix
  simp only [List.isPrefixOf, Bool.and_true, beq_iff_eq]
  exact ⟨fun h => h.symm, fun h => h.symm⟩
theorem pre20 (d : ByteArray) (x y : UInt8) : Lib.hasPrefix d.data.toList [x, y] = true ↔ ∃ h : 1 < d.size, d[0] = x ∧ d[1] = y := by
  have := pre2 d 0 x y
  simpa using this
theorem all_pos {b : Nat} {l : Bs} (h : 0 < l.length) : parseAll b l = parseU b 0 l := by
  unfold parseAll; rw [if_neg]; intro h1; subst h1; simp at h
theorem num_case (s d : ByteArray) (m : Bool) (hm : markedL s.data.toList = m) (hdl : digitsL s.data.toList = d.data.toList) (h0 : 0 < d.size) :
    (((d[0].toNat : Int) == 48) = false → numL s.data.toList = (parseU 10 0 (d.data.toList.drop 0)).map fun n => (n, m || decide (2147483647 < n))) ∧
    (((d[0].toNat : Int) == 48) = true → d.size ≤ 1 → numL s.data.toList = (parseU 8 0 (d.data.toList.drop 0)).map fun n => (n, m || decide (2147483647 < n))) ∧
    (((d[0].toNat : Int) == 48) = true → ∀ h : 1 < d.size, ((d[1].toNat : Int) == 120) = true ∨ ((d[1].toNat : Int) == 88) = true →
      (2 < d.size → numL s.data.toList = (parseU 16 0 (d.data.toList.drop 2)).map fun n => (n, m || decide (2147483647 < n))) ∧ (d.size ≤ 2 → numL s.data.toList = none)) ∧
    (((d[0].toNat : Int) == 48) = true → ∀ h : 1 < d.size, ((d[1].toNat : Int) == 120) = false → ((d[1].toNat : Int) == 88) = false →
      numL s.data.toList = (parseU 8 0 (d.data.toList.drop 0)).map fun n => (n, m || decide (2147483647 < n))) := by
  have hl : 0 < d.data.toList.length := by rw [← Lib.size_eq]; exact h0
  have key : ∀ b t, baseOf d.data.toList = b → bodyOf d.data.toList = t → numL s.data.toList = (parseAll b t).map fun n => (n, m || decide (2147483647 < n)) :=
    fun b t h1 h2 => num_of hm (by rw [hdl]; exact h1) (by rw [hdl]; exact h2)
  have u0 := u8_iff d[0] 48 (by decide)
  have p1 := pre1 d h0 48
  have px := pre20 d 48 120
  have pX := pre20 d 48 88
  simp only [beq_iff_eq, beq_eq_false_iff_ne, ne_eq]
  refine ⟨fun h => ?_, fun h h1 => ?_, fun h h1 h2 => ⟨fun h3 => ?_, fun h3 => ?_⟩, fun h h1 h2 h3 => ?_⟩
  · have e0 : ¬ d[0] = 48 := fun h1 => h (u0.1 h1)
    have b1 : baseOf d.data.toList = 10 := by
      unfold baseOf
      rw [if_neg (by rintro (h | h); exact e0 (px.1 h).2.1; exact e0 (pX.1 h).2.1), if_neg (fun h => e0 (p1.1 h))]
    have b2 : bodyOf d.data.toList = d.data.toList := by
      unfold bodyOf; rw [if_neg (by rintro (h | h); exact e0 (px.1 h).2.1; exact e0 (pX.1 h).2.1)]
    rw [key _ _ b1 b2, all_pos hl, List.drop_zero]
  · have b1 : baseOf d.data.toList = 8 := by
      unfold baseOf
      rw [if_neg (by rintro (h | h); (have := (px.1 h).1; omega); (have := (pX.1 h).1; omega)), if_pos (p1.2 (u0.2 h))]
    have b2 : bodyOf d.data.toList = d.data.toList := by
      unfold bodyOf; rw [if_neg (by rintro (h | h); (have := (px.1 h).1; omega); (have := (pX.1 h).1; omega))]
    rw [key _ _ b1 b2, all_pos hl, List.drop_zero]
  · have hp : Lib.hasPrefix d.data.toList [48, 120] = true ∨ Lib.hasPrefix d.data.toList [48, 88] = true :=
      h2.imp (fun h2 => px.2 ⟨h1, u0.2 h, (u8_iff d[1] 120 (by decide)).2 h2⟩) (fun h2 => pX.2 ⟨h1, u0.2 h, (u8_iff d[1] 88 (by decide)).2 h2⟩)
    rw [key 16 (d.data.toList.drop 2) (by unfold baseOf; rw [if_pos hp]) (by unfold bodyOf; rw [if_pos hp]), all_pos (by rw [List.length_drop, ← Lib.size_eq]; omega)]
  · have hp : Lib.hasPrefix d.data.toList [48, 120] = true ∨ Lib.hasPrefix d.data.toList [48, 88] = true :=
      h2.imp (fun h2 => px.2 ⟨h1, u0.2 h, (u8_iff d[1] 120 (by decide)).2 h2⟩) (fun h2 => pX.2 ⟨h1, u0.2 h, (u8_iff d[1] 88 (by decide)).2 h2⟩)
    rw [key 16 (d.data.toList.drop 2) (by unfold baseOf; rw [if_pos hp]) (by unfold bodyOf; rw [if_pos hp])]
    rw [List.drop_eq_nil_of_le (by rw [← Lib.size_eq]; exact h3)]
    rfl
  · have n1 : ¬ (Lib.hasPrefix d.data.toList [48, 120] = true ∨ Lib.hasPrefix d.data.toList [48, 88] = true) := by
      rintro (h | h)
      · exact h2 ((u8_iff d[1] 120 (by decide)).1 (px.1 h).2.2)
      · exact h3 ((u8_iff d[1] 88 (by decide)).1 (pX.1 h).2.2)
    have b1 : baseOf d.data.toList = 8 := by
      unfold baseOf
      rw [if_neg n1, if_pos (p1.2 (u0.2 h))]
    have b2 : bodyOf d.data.toList = d.data.toList := by
      unfold bodyOf; rw [if_neg n1]
    rw [key _ _ b1 b2, all_pos hl, List.drop_zero]
end Go.Proofs.YteggenldmkbhiaaDoor
namespace Go.Proofs.YteggenldmkbhiaaDoor
open Go.RowKit
theorem mark_of (s : ByteArray) (h0 : 0 < s.size) : markedL s.data.toList = decide (((s[s.size - 1]'(by omega)).toNat : Int) = 117 ∨ ((s[s.size - 1]'(by omega)).toNat : Int) = 85) := by
  have h := byteL_of s (s.size - 1) (by omega)
  unfold markedL
  rw [← Lib.size_eq]
  apply decide_eq_decide.2
  omega
theorem rNum_any (s : ByteArray) (h0 : 0 < s.size) (hd : digitB s[0] = true) (w : World) (hs : s.size ≤ 20000) :
    Calls Tryd.prog 31 #[.string s] w fun e w' => e = .returned (numTup (numL s.data.toList)) ∧ w = w' := by
  have hdg := (digitB_iff s[0]).1 hd
  have hm := mark_of s h0
  have hcl := cutD_list s
  have two : ∀ x : Int, (x = 117 ∨ x = 85) → ((s[s.size - 1]'(by omega)).toNat : Int) = x → 1 < s.size := by
    intro x hx h
    rcases Nat.lt_or_ge 1 s.size with h1 | h1
    · exact h1
    · have : s.size - 1 = 0 := by omega
      simp only [this] at h
      omega
  have hDs : (s.extract 0 (s.size - 1)).size = s.size - 1 := by rw [ByteArray.size_extract]; omega
  by_cases h117 : ((s[s.size - 1]'(by omega)).toNat : Int) = 117
  · have h2 := two _ (Or.inl rfl) h117
    have hm' : markedL s.data.toList = true := by rw [hm]; exact decide_eq_true (Or.inl h117)
    have hc : cutD s = s.extract 0 (s.size - 1) := by unfold cutD; rw [if_pos hm']
    rw [hc] at hcl
    obtain ⟨c1, c2, c3, c4⟩ := num_case s _ true hm' hcl.symm (by omega)
    have g1 : (((s[s.size - 1]'(by omega)).toNat : Int) == 117) = true := by simpa using h117
    cases g3 : ((((s.extract 0 (s.size - 1))[0]'(by omega)).toNat : Int) == 48) with
    | false => exact rNum_B117 s w hs h2 hDs g1 g3 (Lib.hid (c1 g3))
    | true =>
      by_cases h1 : (s.extract 0 (s.size - 1)).size ≤ 1
      · exact rNum_C117 s w hs h2 hDs g1 g3 (by omega) (Lib.hid (c2 g3 h1))
      · cases g4 : ((((s.extract 0 (s.size - 1))[1]'(by omega)).toNat : Int) == 120) with
        | true =>
          by_cases h3 : 2 < (s.extract 0 (s.size - 1)).size
          · exact rNum_D117 s w hs (by omega) hDs g1 g3 g4 (Lib.hid ((c3 g3 (by omega) (Or.inl g4)).1 h3))
          · exact rNum_D0117 s w hs (by omega) hDs g1 g3 g4 (by omega) (Lib.hid ((c3 g3 (by omega) (Or.inl g4)).2 (by omega)))
        | false =>
          cases g5 : ((((s.extract 0 (s.size - 1))[1]'(by omega)).toNat : Int) == 88) with
          | true =>
            by_cases h3 : 2 < (s.extract 0 (s.size - 1)).size
            · exact rNum_E117 s w hs (by omega) hDs g1 g3 g4 g5 (Lib.hid ((c3 g3 (by omega) (Or.inr g5)).1 h3))
            · exact rNum_E0117 s w hs (by omega) hDs g1 g3 g4 g5 (by omega) (Lib.hid ((c3 g3 (by omega) (Or.inr g5)).2 (by omega)))
          | false => exact rNum_F117 s w hs (by omega) hDs g1 g3 g4 g5 (Lib.hid (c4 g3 (by omega) g4 g5))
  · have g1 : (((s[s.size - 1]'(by omega)).toNat : Int) == 117) = false := by simpa using h117
    by_cases h85 : ((s[s.size - 1]'(by omega)).toNat : Int) = 85
    · have h2 := two _ (Or.inr rfl) h85
      have hm' : markedL s.data.toList = true := by rw [hm]; exact decide_eq_true (Or.inr h85)
      have hc : cutD s = s.extract 0 (s.size - 1) := by unfold cutD; rw [if_pos hm']
      rw [hc] at hcl
      obtain ⟨c1, c2, c3, c4⟩ := num_case s _ true hm' hcl.symm (by omega)
      have g2 : (((s[s.size - 1]'(by omega)).toNat : Int) == 85) = true := by simpa using h85
      cases g3 : ((((s.extract 0 (s.size - 1))[0]'(by omega)).toNat : Int) == 48) with
      | false => exact rNum_B85 s w hs h2 hDs g1 g2 g3 (Lib.hid (c1 g3))
      | true =>
        by_cases h1 : (s.extract 0 (s.size - 1)).size ≤ 1
        · exact rNum_C85 s w hs h2 hDs g1 g2 g3 (by omega) (Lib.hid (c2 g3 h1))
        · cases g4 : ((((s.extract 0 (s.size - 1))[1]'(by omega)).toNat : Int) == 120) with
          | true =>
            by_cases h3 : 2 < (s.extract 0 (s.size - 1)).size
            · exact rNum_D85 s w hs (by omega) hDs g1 g2 g3 g4 (Lib.hid ((c3 g3 (by omega) (Or.inl g4)).1 h3))
            · exact rNum_D085 s w hs (by omega) hDs g1 g2 g3 g4 (by omega) (Lib.hid ((c3 g3 (by omega) (Or.inl g4)).2 (by omega)))
          | false =>
            cases g5 : ((((s.extract 0 (s.size - 1))[1]'(by omega)).toNat : Int) == 88) with
            | true =>
              by_cases h3 : 2 < (s.extract 0 (s.size - 1)).size
              · exact rNum_E85 s w hs (by omega) hDs g1 g2 g3 g4 g5 (Lib.hid ((c3 g3 (by omega) (Or.inr g5)).1 h3))
              · exact rNum_E085 s w hs (by omega) hDs g1 g2 g3 g4 g5 (by omega) (Lib.hid ((c3 g3 (by omega) (Or.inr g5)).2 (by omega)))
            | false => exact rNum_F85 s w hs (by omega) hDs g1 g2 g3 g4 g5 (Lib.hid (c4 g3 (by omega) g4 g5))
    · have g2 : (((s[s.size - 1]'(by omega)).toNat : Int) == 85) = false := by simpa using h85
      have hm' : markedL s.data.toList = false := by rw [hm]; exact decide_eq_false (by omega)
      have hc : cutD s = s := by unfold cutD; rw [hm']; rfl
      rw [hc] at hcl
      obtain ⟨c1, c2, c3, c4⟩ := num_case s _ false hm' hcl.symm h0
      have hne : ¬ s = ByteArray.empty := by rintro rfl; simp at h0
      have g6 : ((s[0].toNat : Int) == 117) = false := by rw [beq_eq_false_iff_ne]; omega
      have g7 : ((s[0].toNat : Int) == 85) = false := by rw [beq_eq_false_iff_ne]; omega
      cases g3 : ((s[0].toNat : Int) == 48) with
      | false => exact rNum_B s w hs h0 g1 g2 g3 hne (Lib.hid (c1 g3))
      | true =>
        by_cases h1 : s.size ≤ 1
        · exact rNum_C s w hs h0 g1 g2 g3 hne g6 g7 (by omega) (Lib.hid (c2 g3 h1))
        · cases g4 : (((s[1]'(by omega)).toNat : Int) == 120) with
          | true =>
            by_cases h3 : 2 < s.size
            · exact rNum_D s w hs (by omega) g1 g2 g3 hne g4 (Lib.hid ((c3 g3 (by omega) (Or.inl g4)).1 h3))
            · exact rNum_D0 s w hs (by omega) g1 g2 g3 hne g4 (by omega) (Lib.hid ((c3 g3 (by omega) (Or.inl g4)).2 (by omega)))
          | false =>
            cases g5 : (((s[1]'(by omega)).toNat : Int) == 88) with
            | true =>
              by_cases h3 : 2 < s.size
              · exact rNum_E s w hs (by omega) g1 g2 g3 hne g4 g5 (Lib.hid ((c3 g3 (by omega) (Or.inr g5)).1 h3))
              · exact rNum_E0 s w hs (by omega) g1 g2 g3 hne g4 g5 (by omega) (Lib.hid ((c3 g3 (by omega) (Or.inr g5)).2 (by omega)))
            | false => exact rNum_F s w hs (by omega) g1 g2 g3 hne g4 g5 (Lib.hid (c4 g3 (by omega) g4 g5))
end Go.Proofs.YteggenldmkbhiaaDoor
namespace Go.Proofs.YteggenldmkbhiaaDoor
open Go.RowKit

set_option maxHeartbeats 1000000 in
theorem rTokNum (s : ByteArray) (a : Nat) (ha : a < s.size) (w : World) (hs : s.size ≤ 20000) (hl : letterB s[a] = false) (hd : digitB s[a] = true) :
    Calls Tryd.prog 23 #[.string s, .int .i64 a] w fun e w' => TokEnd (readL (s.data.toList.drop a)) a e ∧ Below w.heap.size w w' := by
  have hle := run_at_le s a (by omega)
  have hrn := fun w => rRun_any s a (by omega) w hs
  have hpos : 0 < runLen (s.data.toList.drop a) := by
    rw [drop_cons s a ha]; exact runL_pos (by simp [wordB, hd])
  have hx := ext_at s a (runLen (s.data.toList.drop a)) hle
  have hV : readL (s.data.toList.drop a) = nmbL (s.data.toList.drop a) := by unfold readL; rw [getD_drop s a ha, hl, if_neg (by simp), hd, if_pos rfl]
  rw [hV]
  obtain ⟨R, hR⟩ : ∃ R, R = nmbL (s.data.toList.drop a) := ⟨_, rfl⟩
  rw [← hR]
  have hxl : (s.extract a (a + runLen (s.data.toList.drop a))).data.toList = (s.data.toList.drop a).take (runLen (s.data.toList.drop a)) := by rw [hx]
  have hxs : (s.extract a (a + runLen (s.data.toList.drop a))).size = runLen (s.data.toList.drop a) := by rw [ByteArray.size_extract]; omega
  have hx0 : (s.extract a (a + runLen (s.data.toList.drop a)))[0]'(by rw [hxs]; exact hpos) = s[a] := by
    have h1 := Lib.data_getElem? (s.extract a (a + runLen (s.data.toList.drop a))) 0 (by rw [hxs]; exact hpos)
    have h2 := Lib.data_getElem? s a ha
    rw [hxl, List.getElem?_take, if_pos hpos, List.getElem?_drop, Nat.add_zero, h2] at h1
    exact (Option.some.inj h1).symm
  have hnum := rNum_any (s.extract a (a + runLen (s.data.toList.drop a))) (by rw [hxs]; exact hpos) (by rw [hx0]; exact hd)
  rw [hxl] at hnum
  have hnum' := fun w => hnum w (by rw [hxs]; omega)
  unfold nmbL at hR
  clear hV hxl hx0 hxs hnum hx
  generalize runLen (s.data.toList.drop a) = n at *
  generalize (s.data.toList.drop a).take n = X at *
  have i1 : (a : Int) < s.size := by omega
  have i2 : (a : Int) + n ≤ s.size := by omega
  have HR := Lib.hid hrn
  clear hrn
  cases hq : numL X with
  | none =>
    rw [hq] at hR hnum'
    have HV := Lib.hid hR
    have HC := Lib.hid hnum'
    clear hR hnum' hq
    go_enter Tryd.func23, Tryd.ntmps23
    go_wp2_with (first | (go_at_call 27; refine (rLetter_any _ _).mono ?_; rintro e w' ⟨rfl, rfl⟩) | (go_at_call 30; refine (rDigit_any _ _).mono ?_; rintro e w' ⟨rfl, rfl⟩) | (go_at_call 28; refine (HR.out _).mono ?_; rintro e w' ⟨rfl, rfl⟩) | (go_at_call 31; refine (HC.out _).mono ?_; rintro e w' ⟨rfl, rfl⟩; unfold numTup))
    exact bodyPost_ret (v := .tuple #[.agg #[.int .i64 2, .int .i64 a, .string ⟨#[]⟩, .int .u32 0, .bool false], .int .i64 (a + n), .int .i64 11]) (by simp [results, Tryd.results23, go_sem]) rfl ⟨⟨⟨2, [], 0, false⟩, a + n, by rw [HV.out]; rfl, fun h => by rw [HV.out] at h; simp at h⟩, below_two _ _ _⟩
  | some r =>
    obtain ⟨x, u⟩ := r
    rw [hq] at hR hnum'
    have HV := Lib.hid hR
    have HC := Lib.hid hnum'
    clear hR hnum' hq
    go_enter Tryd.func23, Tryd.ntmps23
    go_wp2_with (first | (go_at_call 27; refine (rLetter_any _ _).mono ?_; rintro e w' ⟨rfl, rfl⟩) | (go_at_call 30; refine (rDigit_any _ _).mono ?_; rintro e w' ⟨rfl, rfl⟩) | (go_at_call 28; refine (HR.out _).mono ?_; rintro e w' ⟨rfl, rfl⟩) | (go_at_call 31; refine (HC.out _).mono ?_; rintro e w' ⟨rfl, rfl⟩; unfold numTup))
    exact bodyPost_ret (v := .tuple #[.agg #[.int .i64 2, .int .i64 a, .string ⟨#[]⟩, .int .u32 x, .bool u], .int .i64 (a + n), .int .i64 0]) (by simp [results, Tryd.results23, go_sem]) rfl ⟨⟨⟨2, [], x, u⟩, a + n, by rw [HV.out]; rfl, fun _ => by rw [HV.out]; exact ⟨rfl, rfl⟩⟩, below_two _ _ _⟩

theorem rTok_any (s : ByteArray) (a : Nat) (ha : a < s.size) (w : World) (hs : s.size ≤ 20000) :
    Calls Tryd.prog 23 #[.string s, .int .i64 a] w fun e w' => TokEnd (readL (s.data.toList.drop a)) a e ∧ Below w.heap.size w w' := by
  cases hl : letterB s[a] with
  | true => exact rTokName s a ha w hs hl
  | false =>
    cases hd : digitB s[a] with
    | true => exact rTokNum s a ha w hs hl hd
    | false =>
      by_cases hq : (s[a].toNat : Int) = 39
      · exact rTokChar s a ha w hs hl hd hq
      · exact rTokSign s a ha w hs hl hd hq
end Go.Proofs.YteggenldmkbhiaaDoor
namespace Go.Proofs.YteggenldmkbhiaaDoor
open Go.RowKit
theorem Tryd.info41 : (Tryd.prog.info? 41).map (fun i => (i.zero, i.size, i.bytes)) = some (some (.agg #[.int .i64 0, .int .i64 0, .string ⟨#[]⟩, .int .u32 0, .bool false]), 5, 40) := by kernel_rfl
set_option maxHeartbeats 400000 in
theorem rLex_long (s : ByteArray) (w : World) (hs : 20000 < s.size) :
    Calls Tryd.prog 16 #[.string s] w fun e w' => e = .returned (.tuple #[.slice none 0 0, .int .i64 0, .int .i64 2]) ∧ w = w' := by
  go_enter Tryd.func16, Tryd.ntmps16
  go_wp2
  go_ret3
  exact ⟨rfl, rfl⟩

set_option maxHeartbeats 4000000 in
set_option maxRecDepth 100000 in
theorem rLex_short (s : ByteArray) (w : World) (hs : s.size ≤ 20000) :
    Calls Tryd.prog 16 #[.string s] w fun e w' => LexEnd w (lexL (s.data.toList.length + 1) s.data.toList 0 []) e w' := by
  obtain ⟨i0, hi, hz0, hz1, hz2⟩ := info_parts Tryd.info41
  obtain ⟨R, hR⟩ : ∃ R, R = lexL (s.data.toList.length + 1) s.data.toList 0 [] := ⟨_, rfl⟩
  rw [← hR]
  have HL0 := Lib.hid hR
  clear hR
  go_enter Tryd.func16, Tryd.ntmps16
  go_wp2
  go_loopw [5, 6] (fun v i wr => ∃ (a f : Nat) (ts : List PTok) (ao : Option Addr) (cv : Nat), a ≤ s.size ∧ i = .int .i64 a ∧ s.size - a < f ∧ ts.length ≤ 3999 ∧ v = .slice ao ts.length cv ∧
      Hid (TokRow wr w.heap.size (.slice ao ts.length cv) ts) ∧ Below w.heap.size w wr ∧ Hid (R = lexL f s.data.toList a ts))
    (fun _ i _ => s.size - (intOf i).toNat)
  case atStart => exact ⟨0, s.data.toList.length + 1, [], none, 0, by omega, rfl, by rw [← Lib.size_eq]; omega, by simp, rfl, Lib.hid (TokRow.nil _ _), Below.refl _ _, HL0⟩
  case round =>
    obtain ⟨a, f, ts, ao, cv, ha, rfl, hf, hts, rfl, hT, hnx, hH⟩ := hrel
    obtain ⟨g, rfl⟩ : ∃ g, f = g + 1 := ⟨f - 1, by omega⟩
    by_cases hlt : a < s.size
    · have hl : a < s.data.toList.length := by rw [← Lib.size_eq]; exact hlt
      have hbl := rBlank_any s[a]
      have hgb : s.data.toList.getD a 0 = s[a] := by rw [← getD_drop s a hlt]; simp [List.getD]
      have i1 : (a : Int) < s.size := by omega
      cases hb : blankB s[a] with
      | true =>
        have HS := Lib.hid (hH.out.trans (lexL_same (f := g) (ts := ts) (skipAt_blank hl (by rw [hgb]; exact hb))))
        rw [hb] at hbl
        have HB := Lib.hid hbl
        clear hb hbl hgb hH
        go_wp2_with (first | (go_at_call 21; refine (HB.out _).mono ?_; rintro e w' ⟨rfl, rfl⟩))
        go_roundw
        case rel => exact ⟨a + 1, g + 1, ts, ao, cv, by omega, by go_num, by omega, hts, rfl, hT, hnx, HS⟩
        case measure => simp [intOf]; omega
      | false =>
        rw [hb] at hbl
        have HB := Lib.hid hbl
        have hcm := fun w => rComment_any s a hlt w hs
        rcases cmt_facts hl (by rw [hgb]; exact hb) with ⟨h1, h2⟩ | ⟨h1, h2⟩ | ⟨e, h1, h3, h4, h2⟩
        · rw [h1] at hcm
          have HC := Lib.hid hcm
          have HS := Lib.hid (hH.out.trans (lex_skipErr h2))
          clear hb hbl hgb hH hcm h1 h2
          go_wp2_with (first | (go_at_call 21; refine (HB.out _).mono ?_; rintro e w' ⟨rfl, rfl⟩) | (go_at_call 22; refine (HC.out _).mono ?_; rintro e w' ⟨rfl, rfl⟩))
          go_ret3
          rw [HS.out]
          exact LexEnd.err rfl hnx
        · rw [h1] at hcm
          have HC := Lib.hid hcm
          have hrt := fun w => rTok_any s a hlt w hs
          obtain ⟨r, hrr⟩ : ∃ r, r = readL (s.data.toList.drop a) := ⟨_, rfl⟩
          rw [← hrr] at hrt
          have HD := Lib.hid hrt
          have hend : a ≠ s.data.toList.length := by rw [← Lib.size_eq]; omega
          clear hrt hcm h1 hbl
          by_cases he : r.2.2 = 0
          · by_cases hm : ts.length = 3999
            · have HS := Lib.hid (hH.out.trans (lex_many h2 hend (by rw [← hrr]; exact he) hm))
              have he1 : ((r.2.2 : Int) != 0) = false := by rw [bne_eq_false_iff_eq]; omega
              have hm1 : (3999 : Int) ≤ (ts.length : Int) := by omega
              clear hrr h2 hend he hm hb hgb hH
              go_wp2_with (first | (go_at_call 21; refine (HB.out _).mono ?_; rintro e w' ⟨rfl, rfl⟩) | (go_at_call 22; refine (HC.out _).mono ?_; rintro e w' ⟨rfl, rfl⟩) | (go_at_call 23; refine (HD.out _).mono ?_; rintro e w' ⟨⟨t, n, rfl, hok⟩, hb⟩; obtain ⟨hq, hf⟩ := bcell hb; have hz := hb.size; unfold aggT))
              go_ret3
              rw [HS.out]
              exact LexEnd.err rfl ((hnx.trans (hb.mono hnx.size)).alloc (Nat.le_trans hnx.size hz) _)
            · have hrl := readL_len (l := s.data.toList.drop a) (by rw [List.length_drop, ← Lib.size_eq]; omega) (by rw [← hrr]; exact he)
              rw [← hrr, List.length_drop, ← Lib.size_eq] at hrl
              have HS := Lib.hid (hH.out.trans (lex_on h2 hend (by rw [← hrr]; exact he) hm))
              rw [← hrr] at HS
              obtain ⟨hn1, hn2⟩ := hrl
              have he1 : ((r.2.2 : Int) != 0) = false := by rw [bne_eq_false_iff_eq]; omega
              have hm1 : (ts.length : Int) < 3999 := by omega
              have hm2 : ts.length < 3999 := by omega
              have HE := Lib.hid he
              have hT' := hT.out
              unfold TokRow at hT'
              have HT := Lib.hid hT'
              have hsz := hnx.size
              clear hrr h2 hend hm hb hgb hH hT' he
              go_wp2_with (first | (go_at_call 21; refine (HB.out _).mono ?_; rintro e w' ⟨rfl, rfl⟩) | (go_at_call 22; refine (HC.out _).mono ?_; rintro e w' ⟨rfl, rfl⟩) | (go_at_call 23; refine (HD.out _).mono ?_; rintro e w' ⟨⟨t, n, rfl, hok⟩, hb⟩; obtain ⟨ht, hn⟩ := hok HE.out; subst ht hn; obtain ⟨hq, hf⟩ := bcell hb; have hz := hb.size; unfold aggT) | (at_builtin; refine wpList_append_own _ rfl (.tmp 48) (.tmp 50) 22 rfl w.heap.size 41 i0 (.agg #[.int .i64 0, .int .i64 0, .string ⟨#[]⟩, .int .u32 0, .bool false]) 5 40 Tryd.underlying22 hi hz0 hz1 hz2 rfl (by decide) _ _ _ rfl (((own_below HT.out hb).alloc _).alloc _) ⟨w'.heap.size + 1, 0, none⟩ 1 1 (tokCells (r.1, a)) rfl rfl (by have h5 := cells_new5 (w'.alloc (.cells #[.int .i64 r.1.kind, .int .i64 a, .string ⟨r.1.text.toArray⟩, .int .u32 r.1.num, .bool r.1.uns] 41)) (.int .i64 r.1.kind) (.int .i64 a) (.string ⟨r.1.text.toArray⟩) (.int .u32 r.1.num) (.bool r.1.uns) 41; rw [World.size_alloc] at h5; exact h5) (tok_one _) (by unfold maxLen; omega) (by omega) (by rw [World.size_alloc, World.size_alloc]; omega) ?_; intro v3 w3 hown3 hgrow3 hnil3))
              obtain ⟨ao3, cv3, hv3⟩ := tok_form hown3
              go_roundw
              case rel =>
                have hbw : Below w.heap.size w w' := hnx.trans (hb.mono hsz)
                have hB3 : Below w.heap.size w w3 := ((hbw.alloc (by omega) _).alloc (by rw [World.size_alloc]; omega) _).grown hgrow3 (by rw [World.size_alloc, World.size_alloc]; omega) (fun k hk => (HT.out.lt k hk).1)
                have hT3 : TokRow w3 w.heap.size v3 (ts ++ [(r.1, a)]) := TokRow.snoc (t := (r.1, a)) hown3
                rw [hv3] at hT3
                have hlen : (ts ++ [(r.1, a)]).length = ts.length + 1 := by simp
                exact ⟨a + r.2.1, g, ts ++ [(r.1, a)], ao3, cv3, by omega, by go_num, by omega, by omega, by rw [hlen]; exact hv3, Lib.hid (by rw [hlen]; exact hT3), hB3, HS⟩
              case measure => simp [intOf]; omega
          · have HS := Lib.hid (hH.out.trans (lex_err h2 hend (by rw [← hrr]; exact he)))
            rw [← hrr] at HS
            have he1 : ((r.2.2 : Int) != 0) = true := by rw [bne_iff_ne]; omega
            clear hrr h2 hend he hb hgb hH
            go_wp2_with (first | (go_at_call 21; refine (HB.out _).mono ?_; rintro e w' ⟨rfl, rfl⟩) | (go_at_call 22; refine (HC.out _).mono ?_; rintro e w' ⟨rfl, rfl⟩) | (go_at_call 23; refine (HD.out _).mono ?_; rintro e w' ⟨⟨t, n, rfl, hok⟩, hb⟩; obtain ⟨hq, hf⟩ := bcell hb; have hz := hb.size; unfold aggT))
            go_ret3
            rw [HS.out]
            exact LexEnd.err rfl ((hnx.trans (hb.mono hnx.size)).alloc (Nat.le_trans hnx.size hz) _)
        · rw [h1] at hcm
          have HC := Lib.hid hcm
          have HS := Lib.hid (hH.out.trans (lexL_same (f := g) (ts := ts) h2))
          have h4' : e ≤ s.size := by rw [Lib.size_eq]; exact h4
          have j1 : (0 : Int) ≤ e := by omega
          clear hb hbl hgb hH hcm h1 h2 h4
          go_wp2_with (first | (go_at_call 21; refine (HB.out _).mono ?_; rintro e w' ⟨rfl, rfl⟩) | (go_at_call 22; refine (HC.out _).mono ?_; rintro e w' ⟨rfl, rfl⟩))
          go_roundw
          case rel => exact ⟨e, g + 1, ts, ao, cv, by omega, by first | rfl | go_num, by omega, hts, rfl, hT, hnx, HS⟩
          case measure => simp [intOf]; omega
    · have haa : a = s.size := by omega
      subst haa
      have HS := Lib.hid (hH.out.trans (lex_end (ts := ts) (f := g) (by unfold skipAt; rw [skip_end (by rw [← Lib.size_eq]; omega), Lib.size_eq])))
      rw [← Lib.size_eq] at HS
      have hT' := hT.out
      unfold TokRow at hT'
      have HT := Lib.hid hT'
      have hsz := hnx.size
      clear hT' hH
      go_wp2_with (first | (at_builtin; refine wpList_append_own _ rfl (.tmp 53) (.tmp 57) 22 rfl w.heap.size 41 i0 (.agg #[.int .i64 0, .int .i64 0, .string ⟨#[]⟩, .int .u32 0, .bool false]) 5 40 Tryd.underlying22 hi hz0 hz1 hz2 rfl (by decide) _ _ _ rfl (HT.out.alloc _) ⟨wr.heap.size, 0, none⟩ 1 1 (tokCells (endTok, s.size)) rfl rfl (cells_new5 _ _ _ _ _ _ _) (tok_one _) (by unfold maxLen; omega) (by omega) (by rw [World.size_alloc]; omega) ?_; intro v3 w3 hown3 hgrow3 hnil3))
      go_ret3
      rw [HS.out]
      exact ⟨v3, rfl, TokRow.snoc (t := (endTok, s.size)) hown3, (hnx.alloc hsz _).grown hgrow3 (by rw [World.size_alloc]; omega) (fun k hk => (HT.out.lt k hk).1)⟩

theorem rLex_any (s : ByteArray) (w : World) : Calls Tryd.prog 16 #[.string s] w fun e w' => LexEnd w (lexAll s.data.toList) e w' := by
  unfold lexAll
  by_cases h : s.size ≤ 20000
  · rw [if_neg (by rw [← Lib.size_eq]; omega)]
    exact rLex_short s w h
  · rw [if_pos (by rw [← Lib.size_eq]; omega)]
    refine (rLex_long s w (by omega)).mono ?_
    rintro e w' ⟨he, rfl⟩
    exact LexEnd.err he (Below.refl _ _)
end Go.Proofs.YteggenldmkbhiaaDoor
