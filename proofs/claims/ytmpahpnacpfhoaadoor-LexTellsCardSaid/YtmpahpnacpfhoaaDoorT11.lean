/- The document's own answer for numbers, for every run that begins with a digit. -/
import Derived.Test.YtmpahpnacpfhoaaDoorT10
import Derived.Test.YtmpahpnacpfhoaaDoorT5
import Derived.Test.YtmpahpnacpfhoaaDoorT6
import Derived.Test.YtmpahpnacpfhoaaDoorT7
namespace Go.Proofs.YtmpahpnacpfhoaaDoor
open Go.RowKit
theorem mark_of (s : ByteArray) (h0 : 0 < s.size) : markedL s.data.toList = decide (((s[s.size - 1]'(by omega)).toNat : Int) = 117 ∨ ((s[s.size - 1]'(by omega)).toNat : Int) = 85) := by
  have h := byteL_of s (s.size - 1) (by omega)
  unfold markedL
  rw [← Lib.size_eq]
  apply decide_eq_decide.2
  omega
theorem rNum_any (s : ByteArray) (h0 : 0 < s.size) (hd : digitB s[0] = true) (w : World) (hs : s.size ≤ 20000) :
    Calls Tryd.prog 38 #[.string s] w fun e w' => e = .returned (numTup (numL s.data.toList)) ∧ w = w' := by
  have hdg := (digitB_iff s[0]).1 hd
  have hm := mark_of s h0
  have hcl := cutD_list s
  have two : ∀ x : Int, (x = 117 ∨ x = 85) → ((s[s.size - 1]'(by omega)).toNat : Int) = x → 1 < s.size := by
    intro x hx h
    rcases Nat.lt_or_ge 1 s.size with h1 | h1
    · exact h1
    · have : s.size - 1 = 0 := by omega
      simp only [this] at h
      omega
  have hDs : (s.extract 0 (s.size - 1)).size = s.size - 1 := by rw [ByteArray.size_extract]; omega
  by_cases h117 : ((s[s.size - 1]'(by omega)).toNat : Int) = 117
  · have h2 := two _ (Or.inl rfl) h117
    have hm' : markedL s.data.toList = true := by rw [hm]; exact decide_eq_true (Or.inl h117)
    have hc : cutD s = s.extract 0 (s.size - 1) := by unfold cutD; rw [if_pos hm']
    rw [hc] at hcl
    obtain ⟨c1, c2, c3, c4⟩ := num_case s _ true hm' hcl.symm (by omega)
    have g1 : (((s[s.size - 1]'(by omega)).toNat : Int) == 117) = true := by simpa using h117
    cases g3 : ((((s.extract 0 (s.size - 1))[0]'(by omega)).toNat : Int) == 48) with
    | false => exact rNum_B117 s w hs h2 hDs g1 g3 (Lib.hid (c1 g3))
    | true =>
      by_cases h1 : (s.extract 0 (s.size - 1)).size ≤ 1
      · exact rNum_C117 s w hs h2 hDs g1 g3 (by omega) (Lib.hid (c2 g3 h1))
      · cases g4 : ((((s.extract 0 (s.size - 1))[1]'(by omega)).toNat : Int) == 120) with
        | true =>
          by_cases h3 : 2 < (s.extract 0 (s.size - 1)).size
          · exact rNum_D117 s w hs (by omega) hDs g1 g3 g4 (Lib.hid ((c3 g3 (by omega) (Or.inl g4)).1 h3))
          · exact rNum_D0117 s w hs (by omega) hDs g1 g3 g4 (by omega) (Lib.hid ((c3 g3 (by omega) (Or.inl g4)).2 (by omega)))
        | false =>
          cases g5 : ((((s.extract 0 (s.size - 1))[1]'(by omega)).toNat : Int) == 88) with
          | true =>
            by_cases h3 : 2 < (s.extract 0 (s.size - 1)).size
            · exact rNum_E117 s w hs (by omega) hDs g1 g3 g4 g5 (Lib.hid ((c3 g3 (by omega) (Or.inr g5)).1 h3))
            · exact rNum_E0117 s w hs (by omega) hDs g1 g3 g4 g5 (by omega) (Lib.hid ((c3 g3 (by omega) (Or.inr g5)).2 (by omega)))
          | false => exact rNum_F117 s w hs (by omega) hDs g1 g3 g4 g5 (Lib.hid (c4 g3 (by omega) g4 g5))
  · have g1 : (((s[s.size - 1]'(by omega)).toNat : Int) == 117) = false := by simpa using h117
    by_cases h85 : ((s[s.size - 1]'(by omega)).toNat : Int) = 85
    · have h2 := two _ (Or.inr rfl) h85
      have hm' : markedL s.data.toList = true := by rw [hm]; exact decide_eq_true (Or.inr h85)
      have hc : cutD s = s.extract 0 (s.size - 1) := by unfold cutD; rw [if_pos hm']
      rw [hc] at hcl
      obtain ⟨c1, c2, c3, c4⟩ := num_case s _ true hm' hcl.symm (by omega)
      have g2 : (((s[s.size - 1]'(by omega)).toNat : Int) == 85) = true := by simpa using h85
      cases g3 : ((((s.extract 0 (s.size - 1))[0]'(by omega)).toNat : Int) == 48) with
      | false => exact rNum_B85 s w hs h2 hDs g1 g2 g3 (Lib.hid (c1 g3))
      | true =>
        by_cases h1 : (s.extract 0 (s.size - 1)).size ≤ 1
        · exact rNum_C85 s w hs h2 hDs g1 g2 g3 (by omega) (Lib.hid (c2 g3 h1))
        · cases g4 : ((((s.extract 0 (s.size - 1))[1]'(by omega)).toNat : Int) == 120) with
          | true =>
            by_cases h3 : 2 < (s.extract 0 (s.size - 1)).size
            · exact rNum_D85 s w hs (by omega) hDs g1 g2 g3 g4 (Lib.hid ((c3 g3 (by omega) (Or.inl g4)).1 h3))
            · exact rNum_D085 s w hs (by omega) hDs g1 g2 g3 g4 (by omega) (Lib.hid ((c3 g3 (by omega) (Or.inl g4)).2 (by omega)))
          | false =>
            cases g5 : ((((s.extract 0 (s.size - 1))[1]'(by omega)).toNat : Int) == 88) with
            | true =>
              by_cases h3 : 2 < (s.extract 0 (s.size - 1)).size
              · exact rNum_E85 s w hs (by omega) hDs g1 g2 g3 g4 g5 (Lib.hid ((c3 g3 (by omega) (Or.inr g5)).1 h3))
              · exact rNum_E085 s w hs (by omega) hDs g1 g2 g3 g4 g5 (by omega) (Lib.hid ((c3 g3 (by omega) (Or.inr g5)).2 (by omega)))
            | false => exact rNum_F85 s w hs (by omega) hDs g1 g2 g3 g4 g5 (Lib.hid (c4 g3 (by omega) g4 g5))
    · have g2 : (((s[s.size - 1]'(by omega)).toNat : Int) == 85) = false := by simpa using h85
      have hm' : markedL s.data.toList = false := by rw [hm]; exact decide_eq_false (by omega)
      have hc : cutD s = s := by unfold cutD; rw [hm']; rfl
      rw [hc] at hcl
      obtain ⟨c1, c2, c3, c4⟩ := num_case s _ false hm' hcl.symm h0
      have hne : ¬ s = ByteArray.empty := by rintro rfl; simp at h0
      have g6 : ((s[0].toNat : Int) == 117) = false := by rw [beq_eq_false_iff_ne]; omega
      have g7 : ((s[0].toNat : Int) == 85) = false := by rw [beq_eq_false_iff_ne]; omega
      cases g3 : ((s[0].toNat : Int) == 48) with
      | false => exact rNum_B s w hs h0 g1 g2 g3 hne (Lib.hid (c1 g3))
      | true =>
        by_cases h1 : s.size ≤ 1
        · exact rNum_C s w hs h0 g1 g2 g3 hne g6 g7 (by omega) (Lib.hid (c2 g3 h1))
        · cases g4 : (((s[1]'(by omega)).toNat : Int) == 120) with
          | true =>
            by_cases h3 : 2 < s.size
            · exact rNum_D s w hs (by omega) g1 g2 g3 hne g4 (Lib.hid ((c3 g3 (by omega) (Or.inl g4)).1 h3))
            · exact rNum_D0 s w hs (by omega) g1 g2 g3 hne g4 (by omega) (Lib.hid ((c3 g3 (by omega) (Or.inl g4)).2 (by omega)))
          | false =>
            cases g5 : (((s[1]'(by omega)).toNat : Int) == 88) with
            | true =>
              by_cases h3 : 2 < s.size
              · exact rNum_E s w hs (by omega) g1 g2 g3 hne g4 g5 (Lib.hid ((c3 g3 (by omega) (Or.inr g5)).1 h3))
              · exact rNum_E0 s w hs (by omega) g1 g2 g3 hne g4 g5 (by omega) (Lib.hid ((c3 g3 (by omega) (Or.inr g5)).2 (by omega)))
            | false => exact rNum_F s w hs (by omega) g1 g2 g3 hne g4 g5 (Lib.hid (c4 g3 (by omega) g4 g5))
end Go.Proofs.YtmpahpnacpfhoaaDoor
