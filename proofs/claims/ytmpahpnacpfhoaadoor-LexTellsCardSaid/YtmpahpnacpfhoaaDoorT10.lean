/- The document's own answer for numbers, in any of the three bases. -/
import Derived.Test.YtmpahpnacpfhoaaDoorT4
import Derived.Test.YtmpahpnacpfhoaaDoorE
namespace Go.Proofs.YtmpahpnacpfhoaaDoor
open Go.RowKit
theorem pre1 (d : ByteArray) (h : 0 < d.size) (x : UInt8) : Lib.hasPrefix d.data.toList [x] = true ↔ d[0] = x := by
  have := drop_cons d 0 h
  rw [List.drop_zero] at this
  rw [this]; unfold Lib.hasPrefix
  simp only [List.isPrefixOf, Bool.and_true, beq_iff_eq]
  exact ⟨fun h => h.symm, fun h => h.symm⟩
theorem pre20 (d : ByteArray) (x y : UInt8) : Lib.hasPrefix d.data.toList [x, y] = true ↔ ∃ h : 1 < d.size, d[0] = x ∧ d[1] = y := by
  have := pre2 d 0 x y
  simpa using this
theorem all_pos {b : Nat} {l : Bs} (h : 0 < l.length) : parseAll b l = parseU b 0 l := by
  unfold parseAll; rw [if_neg]; intro h1; subst h1; simp at h
theorem num_case (s d : ByteArray) (m : Bool) (hm : markedL s.data.toList = m) (hdl : digitsL s.data.toList = d.data.toList) (h0 : 0 < d.size) :
    (((d[0].toNat : Int) == 48) = false → numL s.data.toList = (parseU 10 0 (d.data.toList.drop 0)).map fun n => (n, m || decide (2147483647 < n))) ∧
    (((d[0].toNat : Int) == 48) = true → d.size ≤ 1 → numL s.data.toList = (parseU 8 0 (d.data.toList.drop 0)).map fun n => (n, m || decide (2147483647 < n))) ∧
    (((d[0].toNat : Int) == 48) = true → ∀ h : 1 < d.size, ((d[1].toNat : Int) == 120) = true ∨ ((d[1].toNat : Int) == 88) = true →
      (2 < d.size → numL s.data.toList = (parseU 16 0 (d.data.toList.drop 2)).map fun n => (n, m || decide (2147483647 < n))) ∧ (d.size ≤ 2 → numL s.data.toList = none)) ∧
    (((d[0].toNat : Int) == 48) = true → ∀ h : 1 < d.size, ((d[1].toNat : Int) == 120) = false → ((d[1].toNat : Int) == 88) = false →
      numL s.data.toList = (parseU 8 0 (d.data.toList.drop 0)).map fun n => (n, m || decide (2147483647 < n))) := by
  have hl : 0 < d.data.toList.length := by rw [← Lib.size_eq]; exact h0
  have key : ∀ b t, baseOf d.data.toList = b → bodyOf d.data.toList = t → numL s.data.toList = (parseAll b t).map fun n => (n, m || decide (2147483647 < n)) :=
    fun b t h1 h2 => num_of hm (by rw [hdl]; exact h1) (by rw [hdl]; exact h2)
  have u0 := u8_iff d[0] 48 (by decide)
  have p1 := pre1 d h0 48
  have px := pre20 d 48 120
  have pX := pre20 d 48 88
  simp only [beq_iff_eq, beq_eq_false_iff_ne, ne_eq]
  refine ⟨fun h => ?_, fun h h1 => ?_, fun h h1 h2 => ⟨fun h3 => ?_, fun h3 => ?_⟩, fun h h1 h2 h3 => ?_⟩
  · have e0 : ¬ d[0] = 48 := fun h1 => h (u0.1 h1)
    have b1 : baseOf d.data.toList = 10 := by
      unfold baseOf
      rw [if_neg (by rintro (h | h); exact e0 (px.1 h).2.1; exact e0 (pX.1 h).2.1), if_neg (fun h => e0 (p1.1 h))]
    have b2 : bodyOf d.data.toList = d.data.toList := by
      unfold bodyOf; rw [if_neg (by rintro (h | h); exact e0 (px.1 h).2.1; exact e0 (pX.1 h).2.1)]
    rw [key _ _ b1 b2, all_pos hl, List.drop_zero]
  · have b1 : baseOf d.data.toList = 8 := by
      unfold baseOf
      rw [if_neg (by rintro (h | h); (have := (px.1 h).1; omega); (have := (pX.1 h).1; omega)), if_pos (p1.2 (u0.2 h))]
    have b2 : bodyOf d.data.toList = d.data.toList := by
      unfold bodyOf; rw [if_neg (by rintro (h | h); (have := (px.1 h).1; omega); (have := (pX.1 h).1; omega))]
    rw [key _ _ b1 b2, all_pos hl, List.drop_zero]
  · have hp : Lib.hasPrefix d.data.toList [48, 120] = true ∨ Lib.hasPrefix d.data.toList [48, 88] = true :=
      h2.imp (fun h2 => px.2 ⟨h1, u0.2 h, (u8_iff d[1] 120 (by decide)).2 h2⟩) (fun h2 => pX.2 ⟨h1, u0.2 h, (u8_iff d[1] 88 (by decide)).2 h2⟩)
    rw [key 16 (d.data.toList.drop 2) (by unfold baseOf; rw [if_pos hp]) (by unfold bodyOf; rw [if_pos hp]), all_pos (by rw [List.length_drop, ← Lib.size_eq]; omega)]
  · have hp : Lib.hasPrefix d.data.toList [48, 120] = true ∨ Lib.hasPrefix d.data.toList [48, 88] = true :=
      h2.imp (fun h2 => px.2 ⟨h1, u0.2 h, (u8_iff d[1] 120 (by decide)).2 h2⟩) (fun h2 => pX.2 ⟨h1, u0.2 h, (u8_iff d[1] 88 (by decide)).2 h2⟩)
    rw [key 16 (d.data.toList.drop 2) (by unfold baseOf; rw [if_pos hp]) (by unfold bodyOf; rw [if_pos hp])]
    rw [List.drop_eq_nil_of_le (by rw [← Lib.size_eq]; exact h3)]
    rfl
  · have n1 : ¬ (Lib.hasPrefix d.data.toList [48, 120] = true ∨ Lib.hasPrefix d.data.toList [48, 88] = true) := by
      rintro (h | h)
      · exact h2 ((u8_iff d[1] 120 (by decide)).1 (px.1 h).2.2)
      · exact h3 ((u8_iff d[1] 88 (by decide)).1 (pX.1 h).2.2)
    have b1 : baseOf d.data.toList = 8 := by
      unfold baseOf
      rw [if_neg n1, if_pos (p1.2 (u0.2 h))]
    have b2 : bodyOf d.data.toList = d.data.toList := by
      unfold bodyOf; rw [if_neg n1]
    rw [key _ _ b1 b2, all_pos hl, List.drop_zero]
end Go.Proofs.YtmpahpnacpfhoaaDoor
