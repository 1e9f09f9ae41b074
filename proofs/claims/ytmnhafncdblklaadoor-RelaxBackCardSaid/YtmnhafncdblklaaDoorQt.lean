/- The words of a line read back: the law's line, at any line of a list that is taken. No condition. -/
import Derived.Test.YtmnhafncdblklaaDoorQs
import Derived.Test.YtmnhafncdblklaaDoorQn
import Derived.Test.YtmnhafncdblklaaDoorGP
namespace Go.Proofs.YtmnhafncdblklaaDoor.Relax
open Go.RowKit Go.Proofs.YtmnhafncdblklaaDoor.Enc Go.Proofs.YtmnhafncdblklaaDoor.Graph

theorem may_range {op a b i : Int} (h : mayP ⟨op, a, b, i⟩ = true) : decP (wordOf op a b i) = (⟨op, a, b, i⟩, 0) ∧ (0 ≤ wordOf op a b i ∧ wordOf op a b i ≤ 4294967295) := wordOf_may h
theorem line_at (D : DoesDec) (l : List PL) (a : Asm) (line : Int) (h : asmP l = (a, line, 0)) (v vw vk vp : Value) (w : World) (hl : LinesR w v l) (ha : AsmR w a vw vk vp) (hF : FormsAt w) (i : Nat) (hi : i < l.length) :
    Calls Tryd.prog 18 #[v, asmV a vw vk vp, .int .i64 i, .int .i64 (placeP l (longP l).1 i)] w (LineIs (sizeP (lineAt l i) (longAt (longP l).1 i)) w) := by
  obtain ⟨ht, _, _, _⟩ := asm_yes h
  have hm := ht.may hi
  have hend := asm_end h hi
  have hword := fun j y k => asm_word h hi (j := j) (y := y) (k := k)
  by_cases h0 : (lineAt l i).op = 0
  · have e : sizeP (lineAt l i) (longAt (longP l).1 i) = 0 := by unfold sizeP; rw [if_pos h0]
    rw [e]
    exact line_label l a v vw vk vp w hl ha i hi _ h0
  by_cases hg : goesB (lineAt l i) = true
  · obtain ⟨f1, f2, f3, f4, f5⟩ := fields_go hm hg
    obtain ⟨s, s1, s2, s3, s4, s5⟩ := asm_label h (ht.goes hi hg)
    by_cases hb : isBr (lineAt l i) = true
    · have hop : (30 ≤ (lineAt l i).op ∧ (lineAt l i).op ≤ 39) ∨ (lineAt l i).op = 40 := by unfold isBr branchOp at hb; simpa using hb
      cases hlg : longAt (longP l).1 i with
      | false =>
        have e : sizeP (lineAt l i) false = 1 := br_size _ hb
        rw [e]
        rw [hlg, e] at hend
        obtain ⟨y, imm, x1, x2, x3, x4⟩ := short_code h hi hb hlg
        have hn := long_reaches l i hi hb hlg
        have hmd : (madeP (lineAt l i) (longAt (longP l).1 i) (placeP l (longP l).1 i) (atP l (longP l).1))[0]? = some (wordOf (lineAt l i).op (lineAt l i).a (lineAt l i).b (dispP l (longP l).1 i), 1) := by
          unfold madeP
          rw [if_neg h0, hlg, if_neg (by simp), if_neg (by simp; omega), if_pos (by unfold branchOp; simp; omega)]
          rfl
        obtain ⟨k1, k2⟩ := hword 0 _ _ hmd
        obtain ⟨m1, m2⟩ := may_range (reg_near hb hm hn)
        exact line_short l a v vw vk vp w hl ha i hi D hF _ _ k1 k2 m2 _ m1 hb s _ s1 s2 s3 (by omega) ⟨s4, s5⟩ rfl hn
      | true =>
        rcases hop with ho | ho
        · have hbo : branchOp (lineAt l i).op = true := by unfold branchOp; simp; omega
          have e : sizeP (lineAt l i) true = 3 := by unfold sizeP; rw [if_neg h0, hbo, if_pos (by simp)]
          have hmd : madeP (lineAt l i) (longAt (longP l).1 i) (placeP l (longP l).1 i) (atP l (longP l).1) = [(wordOf (otherP (lineAt l i).op) (lineAt l i).a (lineAt l i).b 2, 1), (wordOf 41 0 0 0, 1), (atP l (longP l).1 (lineAt l i).label, 2)] := by
            unfold madeP; rw [if_neg h0, hbo, hlg, if_pos (by simp)]
          rw [e]
          rw [hlg, e] at hend
          obtain ⟨k1, k2⟩ := hword 0 _ _ (by rw [hmd]; rfl)
          obtain ⟨k3, k4⟩ := hword 1 _ _ (by rw [hmd]; rfl)
          obtain ⟨k5, k6⟩ := hword 2 _ _ (by rw [hmd]; rfl)
          obtain ⟨m1, m2⟩ := may_range (may_other ho f2)
          obtain ⟨m3, m4⟩ := may_range may41
          exact line_long l a v vw vk vp w hl ha i hi D hF _ _ k1 k2 m2 _ rfl ho m1 s _ s1 s2 s3 (by omega) ⟨s4, s5⟩ _ k3 k4 m4 m3 k5 k6
        · have hbo : branchOp (lineAt l i).op = false := by unfold branchOp; rw [ho]; decide
          have e : sizeP (lineAt l i) true = 2 := by unfold sizeP; rw [if_neg h0, hbo, if_neg (by simp), if_pos (.inl ⟨ho, rfl⟩)]
          have hmd : madeP (lineAt l i) (longAt (longP l).1 i) (placeP l (longP l).1 i) (atP l (longP l).1) = [(wordOf 41 0 0 0, 1), (atP l (longP l).1 (lineAt l i).label, 2)] := by
            unfold madeP; rw [if_neg h0, hbo, hlg, if_neg (by simp), if_pos (.inl ⟨ho, rfl⟩)]
          rw [e]
          rw [hlg, e] at hend
          obtain ⟨k1, k2⟩ := hword 0 _ _ (by rw [hmd]; rfl)
          obtain ⟨k3, k4⟩ := hword 1 _ _ (by rw [hmd]; rfl)
          obtain ⟨m3, m4⟩ := may_range may41
          exact line_jump l a v vw vk vp w hl ha i hi D hF _ _ k1 k2 m4 m3 ho s _ s1 s2 s3 (by omega) ⟨s4, s5⟩ k3 k4
    · have hop : (lineAt l i).op = 41 ∨ (lineAt l i).op = 43 := by unfold goesB at hg; simpa [hb] using hg
      have hbo : branchOp (lineAt l i).op = false := by unfold branchOp; rcases hop with h | h <;> (rw [h]; decide)
      have e : sizeP (lineAt l i) (longAt (longP l).1 i) = 2 := by unfold sizeP; rw [if_neg h0, hbo, if_neg (by simp), if_pos (by rcases hop with h | h <;> simp [h])]
      have hf : (lineAt l i).a = 0 ∧ (lineAt l i).b = 0 := by
        rcases hop with h | h
        all_goals
          rw [h] at f2
          have h2 : (zero (lineAt l i).a && zero (lineAt l i).b && zero 0) = true := f2
          unfold zero at h2
          simpa using h2
      have hmd : madeP (lineAt l i) (longAt (longP l).1 i) (placeP l (longP l).1 i) (atP l (longP l).1) = [(wordOf (lineAt l i).op (lineAt l i).a (lineAt l i).b (lineAt l i).imm, 1), (atP l (longP l).1 (lineAt l i).label, 2)] := by
        unfold madeP
        rw [if_neg h0, hbo, if_neg (by simp), hf.1, hf.2, f3]
        rcases hop with h | h
        · rw [if_pos (.inr h), h]
        · rw [if_neg (by omega), if_neg (by simp; omega), if_pos h, h]
      rw [e]
      rw [e] at hend
      obtain ⟨k1, k2⟩ := hword 0 _ _ (by rw [hmd]; rfl)
      obtain ⟨k3, k4⟩ := hword 1 _ _ (by rw [hmd]; rfl)
      have hmy : mayP ⟨(lineAt l i).op, (lineAt l i).a, (lineAt l i).b, (lineAt l i).imm⟩ = true := by rw [f3]; exact f2
      obtain ⟨m1, m2⟩ := may_range hmy
      exact line_goes l a v vw vk vp w hl ha i hi D hF _ _ k1 k2 m2 m1 hop s _ s1 s2 s3 (by omega) ⟨s4, s5⟩ k3 k4
  · have hg : goesB (lineAt l i) = false := by simpa using hg
    have hne : (lineAt l i).op ≠ 40 ∧ (lineAt l i).op ≠ 41 ∧ (lineAt l i).op ≠ 43 ∧ branchOp (lineAt l i).op = false := by
      have h3 := hg
      unfold goesB isBr at h3
      simp only [Bool.or_eq_false_iff, beq_eq_false_iff_ne] at h3
      exact ⟨h3.1.2, h3.2.1, h3.2.2, h3.1.1⟩
    by_cases h2 : (lineAt l i).op = 2
    · obtain ⟨f1, f2, f3⟩ := fields_lit hm h2
      have e : sizeP (lineAt l i) (longAt (longP l).1 i) = 2 := by unfold sizeP; rw [if_neg h0, hne.2.2.2, if_neg (by simp), if_pos (by omega)]
      have hmd : madeP (lineAt l i) (longAt (longP l).1 i) (placeP l (longP l).1 i) (atP l (longP l).1) = [(wordOf 2 (lineAt l i).a 0 0, 1), ((lineAt l i).n, 2)] := by
        unfold madeP
        rw [if_neg h0, hne.2.2.2, if_neg (by simp), if_neg (by omega), if_neg (by simp; omega), if_neg (by omega), if_pos h2]
      rw [e]
      obtain ⟨k1, k2⟩ := hword 0 _ _ (by rw [hmd]; rfl)
      obtain ⟨k3, k4⟩ := hword 1 _ _ (by rw [hmd]; rfl)
      obtain ⟨m1, m2⟩ := may_range f1
      exact line_lit l a v vw vk vp w hl ha i hi D hF _ _ k1 k2 m2 (by rw [f2, f3]; exact m1) h2 k3 k4
    by_cases h42 : (lineAt l i).op = 42
    · obtain ⟨f1, f2, f3, f4, f5⟩ := fields_tab hm h42
      have e : sizeP (lineAt l i) (longAt (longP l).1 i) = 2 + (lineAt l i).list.length := by unfold sizeP; rw [if_neg h0, hne.2.2.2, if_neg (by simp), if_neg (by omega), if_pos h42]
      have hmd : madeP (lineAt l i) (longAt (longP l).1 i) (placeP l (longP l).1 i) (atP l (longP l).1) = (wordOf 42 (lineAt l i).a 0 0, 1) :: (((lineAt l i).list.length : Int), 3) :: (lineAt l i).list.map fun k => (atP l (longP l).1 k, 3) := by
        unfold madeP
        rw [if_neg h0, hne.2.2.2, if_neg (by simp), if_neg (by omega), if_neg (by simp; omega), if_neg (by omega), if_neg h2, if_pos h42]
      rw [e]
      rw [e] at hend
      obtain ⟨k1, k2⟩ := hword 0 _ _ (by rw [hmd]; rfl)
      obtain ⟨k3, k4⟩ := hword 1 _ _ (by rw [hmd]; rfl)
      obtain ⟨m1, m2⟩ := may_range f1
      refine line_tab l a v vw vk vp w hl ha i hi D hF _ _ k1 k2 m2 (by rw [f2, f3]; exact m1) h42 (by omega) k3 k4 fun j lab hj => ?_
      obtain ⟨s, s1, s2, s3, s4, s5⟩ := asm_label h (ht.list hi (List.mem_of_getElem? hj))
      obtain ⟨k5, k6⟩ := hword (2 + j) (atP l (longP l).1 lab) 3 (by rw [hmd, show 2 + j = j + 1 + 1 by omega, List.getElem?_cons_succ, List.getElem?_cons_succ, List.getElem?_map, hj]; rfl)
      rw [← Nat.add_assoc] at k5 k6
      exact ⟨s, _, s1, s2, s3, ⟨s4, s5⟩, k5, k6⟩
    · obtain ⟨f1, f2⟩ := fields_plain hm h0 hg h42 h2
      have e : sizeP (lineAt l i) (longAt (longP l).1 i) = 1 := by unfold sizeP; rw [if_neg h0, hne.2.2.2, if_neg (by simp), if_neg (by omega), if_neg h42]
      have hmd : madeP (lineAt l i) (longAt (longP l).1 i) (placeP l (longP l).1 i) (atP l (longP l).1) = [(wordOf (lineAt l i).op (lineAt l i).a (lineAt l i).b (lineAt l i).imm, 1)] := by
        unfold madeP
        rw [if_neg h0, hne.2.2.2, if_neg (by simp), if_neg (by omega), if_neg (by simp; omega), if_neg (by omega), if_neg h2, if_neg h42]
      rw [e]
      obtain ⟨k1, k2⟩ := hword 0 _ _ (by rw [hmd]; rfl)
      obtain ⟨m1, m2⟩ := may_range f1
      exact line_plain l a v vw vk vp w hl ha i hi D hF _ _ k1 k2 m2 m1 h0 h2 h42 hg
end Go.Proofs.YtmnhafncdblklaaDoor.Relax
