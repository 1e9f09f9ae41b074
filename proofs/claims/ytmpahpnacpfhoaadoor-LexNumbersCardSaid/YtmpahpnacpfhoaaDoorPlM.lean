/- The three forms of a number, with and without the letter that makes it unsigned, are read as that number. -/
import Derived.Test.YtmpahpnacpfhoaaDoorR
namespace Go.Proofs.YtmpahpnacpfhoaaDoor

theorem byteL_last (x : Bs) (c : UInt8) : byteL (x ++ [c]) ((x ++ [c]).length - 1) = c.toNat := by
  have e : (x ++ [c]).length - 1 = x.length := by simp
  rw [e, byteL_right]; rfl
theorem num_plain {D : Bs} {c : UInt8} {x : Bs} {n : Nat} (hD : D = x ++ [c]) (hc : c.toNat ≠ 117 ∧ c.toNat ≠ 85) (hp : parseAll (baseOf D) (bodyOf D) = some n) :
    numL D = some (n, decide (2147483647 < n)) ∧ numL (D ++ [117]) = some (n, true) := by
  have m1 : markedL D = false := by
    unfold markedL; rw [hD, byteL_last]; exact decide_eq_false (by omega)
  have m2 : markedL (D ++ [117]) = true := by
    unfold markedL; rw [byteL_last]; exact decide_eq_true (.inl rfl)
  have d1 : digitsL D = D := by unfold digitsL; rw [m1]; rfl
  have d2 : digitsL (D ++ [117]) = D := by
    unfold digitsL; rw [m2, if_pos rfl]
    have e : (D ++ [117]).length - 1 = D.length := by simp
    rw [e, List.take_left]
  refine ⟨?_, ?_⟩
  · unfold numL; rw [d1, m1, hp]; rfl
  · unfold numL; rw [d2, m2, hp]; rfl

theorem parseAll_of {b : Nat} {l : Bs} {n : Nat} (hl : l ≠ []) (h : parseU b 0 l = some n) : parseAll b l = some n := by
  unfold parseAll; rw [if_neg hl]; exact h
theorem dchr_ne {d : Nat} (h : d < 16) (h0 : d ≠ 0) : dchr d ≠ 48 := by
  intro e
  have := dchr_nat h
  rw [e] at this
  simp at this
  split at this <;> omega
theorem dchr_nox {d : Nat} (h : d < 8) : dchr d ≠ 120 ∧ dchr d ≠ 88 := by
  constructor
  all_goals
    intro e
    have := dchr_nat (show d < 16 by omega)
    rw [e, if_pos (by omega)] at this
    simp at this
    omega
theorem pre_ne {a b : UInt8} {l p : Bs} (h : a ≠ b) : Lib.hasPrefix (a :: l) (b :: p) = false := by
  unfold Lib.hasPrefix
  rw [List.isPrefixOf_cons_cons, show (b == a) = false by rw [beq_eq_false_iff_ne]; exact fun e => h e.symm]
  rfl

theorem read10 (n : Nat) (hn : n ≤ 4294967295) : parseAll (baseOf (baseL 10 n)) (bodyOf (baseL 10 n)) = some n := by
  by_cases h0 : n = 0
  · subst h0; rw [baseL_zero (by omega)]; decide
  · obtain ⟨d, t, hd, h1, h2⟩ := baseL_head (b := 10) (by omega) (by omega) n h0
    have hne := dchr_ne (show d < 16 by omega) h2
    have e1 : baseOf (baseL 10 n) = 10 := by
      rw [hd]; unfold baseOf; rw [pre_ne hne, pre_ne hne, pre_ne hne]; rfl
    have e2 : bodyOf (baseL 10 n) = baseL 10 n := by
      rw [hd]; unfold bodyOf; rw [pre_ne hne, pre_ne hne]; rfl
    rw [e1, e2]
    exact parseAll_of (baseL_words (by omega) (by omega) n).2 (parseU_base (by omega) (by omega) n hn)
theorem read16 (n : Nat) (hn : n ≤ 4294967295) : parseAll (baseOf (48 :: 120 :: baseL 16 n)) (bodyOf (48 :: 120 :: baseL 16 n)) = some n := by
  have hp : Lib.hasPrefix (48 :: 120 :: baseL 16 n) [48, 120] = true := by simp [Lib.hasPrefix]
  have e1 : baseOf (48 :: 120 :: baseL 16 n) = 16 := by unfold baseOf; rw [if_pos (.inl hp)]
  have e2 : bodyOf (48 :: 120 :: baseL 16 n) = baseL 16 n := by unfold bodyOf; rw [if_pos (.inl hp)]; rfl
  rw [e1, e2]
  exact parseAll_of (baseL_words (by omega) (by omega) n).2 (parseU_base (by omega) (by omega) n hn)
theorem read8 (n : Nat) (hn : n ≤ 4294967295) : parseAll (baseOf (48 :: baseL 8 n)) (bodyOf (48 :: baseL 8 n)) = some n := by
  have hw := baseL_words (b := 8) (by omega) (by omega) n
  obtain ⟨c, t, hc⟩ : ∃ c t, baseL 8 n = c :: t := by
    cases h : baseL 8 n with
    | nil => exact absurd h hw.2
    | cons c t => exact ⟨c, t, rfl⟩
  obtain ⟨d, hd, rfl⟩ := hw.1 c (by rw [hc]; simp)
  obtain ⟨x1, x2⟩ := dchr_nox hd
  have p1 : Lib.hasPrefix (48 :: baseL 8 n) [48, 120] = false := by
    rw [hc]; have := pre_ne (l := t) (p := []) x1; unfold Lib.hasPrefix at this ⊢; rw [List.isPrefixOf_cons_cons, this]; rfl
  have p2 : Lib.hasPrefix (48 :: baseL 8 n) [48, 88] = false := by
    rw [hc]; have := pre_ne (l := t) (p := []) x2; unfold Lib.hasPrefix at this ⊢; rw [List.isPrefixOf_cons_cons, this]; rfl
  have p3 : Lib.hasPrefix (48 :: baseL 8 n) [48] = true := by simp [Lib.hasPrefix]
  have e1 : baseOf (48 :: baseL 8 n) = 8 := by unfold baseOf; rw [p1, p2, p3]; rfl
  have e2 : bodyOf (48 :: baseL 8 n) = 48 :: baseL 8 n := by unfold bodyOf; rw [p1, p2]; rfl
  rw [e1, e2]
  refine parseAll_of (by simp) ?_
  rw [parseU, show digN 48 = 0 by decide, if_pos (by omega)]
  exact parseU_base (by omega) (by omega) n hn

/-- Both forms of a text of letters and digits that is a number. -/
def Forms (X : ByteArray) (n : Nat) : Prop :=
  (∃ ts, lexAll X.data.toList = (ts, 0, 0) ∧ ts.map (·.1) = [⟨2, [], n, decide (2147483647 < n)⟩, endTok]) ∧
  (∃ ts, lexAll (X.data.toList ++ [117]) = (ts, 0, 0) ∧ ts.map (·.1) = [⟨2, [], n, true⟩, endTok])
theorem forms_of {X : ByteArray} {n : Nat} {c : UInt8} {t : Bs} {b : Nat} {pre : Bs} (hb : 2 ≤ b) (hb2 : b ≤ 16) (hX : X.data.toList = pre ++ baseL b n) (hct : pre ++ baseL b n = c :: t) (hc : digitB c = true) (hp : ∀ x ∈ pre, wordB x = true) (hpl : pre.length ≤ 2)
    (hl : (baseL b n).length ≤ 100) (hr : parseAll (baseOf (pre ++ baseL b n)) (bodyOf (pre ++ baseL b n)) = some n) : Forms X n := by
  have hw := baseL_words hb hb2 n
  have hm : n % b < 16 := by have := Nat.mod_lt n (show 0 < b by omega); omega
  have hlast := dchr_nat hm
  have hne : (dchr (n % b)).toNat ≠ 117 ∧ (dchr (n % b)).toNat ≠ 85 := by
    rw [hlast]; split <;> omega
  obtain ⟨n1, n2⟩ := num_plain (D := pre ++ baseL b n) (x := pre ++ preL b n) (by rw [pre_base hb]; simp) hne hr
  have hwt : ∀ x ∈ t, wordB x = true := by
    intro x hx
    have : x ∈ pre ++ baseL b n := by rw [hct]; simp [hx]
    rcases List.mem_append.1 this with h | h
    · exact hp x h
    · obtain ⟨d, hd, rfl⟩ := hw.1 x h; exact dchr_word (by omega)
  have hlen : t.length ≤ 102 := by
    have := congrArg List.length hct
    simp only [List.length_append, List.length_cons] at this
    omega
  refine ⟨?_, ?_⟩
  · rw [hX, hct]
    rw [hct] at n1
    exact lex_num hc hwt n1 (by omega)
  · rw [hX, hct, List.cons_append]
    rw [hct, List.cons_append] at n2
    refine lex_num hc ?_ n2 (by simp; omega)
    intro x hx
    rcases List.mem_append.1 hx with h | h
    · exact hwt x h
    · simp at h; subst h; decide
theorem baseL_short {b : Nat} (hb : 2 ≤ b) : ∀ (k n : Nat), n < 2 ^ k → (baseL b n).length ≤ k + 1 := by
  intro k
  induction k with
  | zero => intro n h; rw [baseL_lt (by omega)]; simp
  | succ k ih =>
    intro n h
    by_cases hlt : n < b
    · rw [baseL_lt hlt]; simp
    · rw [baseL_ge hb hlt]
      have h1 : n / b ≤ n / 2 := Nat.div_le_div_left hb (by omega)
      have h2 : n / 2 < 2 ^ k := by rw [Nat.pow_succ] at h; omega
      have := ih (n / b) (by omega)
      simp only [List.length_append, List.length_cons, List.length_nil]
      omega
theorem forms10 (n : Nat) (hn : n ≤ 4294967295) : Forms ⟨(baseL 10 n).toArray⟩ n := by
  have hl := baseL_short (b := 10) (by omega) 32 n (by omega)
  have hw := baseL_words (b := 10) (by omega) (by omega) n
  obtain ⟨c, t, hc⟩ : ∃ c t, baseL 10 n = c :: t := by
    cases h : baseL 10 n with
    | nil => exact absurd h hw.2
    | cons c t => exact ⟨c, t, rfl⟩
  obtain ⟨d, hd, hdc⟩ := hw.1 c (by rw [hc]; simp)
  have hdig : digitB c = true := by
    rw [hdc]; unfold digitB
    have := dchr_nat (show d < 16 by omega)
    rw [if_pos hd] at this
    exact decide_eq_true (by omega)
  exact forms_of (b := 10) (pre := []) (c := c) (t := t) (by omega) (by omega) rfl hc hdig (by simp) (by simp) (by omega) (read10 n hn)
theorem forms16 (n : Nat) (hn : n ≤ 4294967295) : Forms (⟨#[48, 120]⟩ ++ ⟨(baseL 16 n).toArray⟩) n := by
  have hl := baseL_short (b := 16) (by omega) 32 n (by omega)
  refine forms_of (b := 16) (pre := [48, 120]) (c := 48) (t := 120 :: baseL 16 n) (by omega) (by omega) (append_data _ _) rfl (by decide) ?_ (by simp) (by omega) (read16 n hn)
  intro x hx
  simp at hx
  rcases hx with rfl | rfl <;> decide
theorem forms8 (n : Nat) (hn : n ≤ 4294967295) : Forms (⟨#[48]⟩ ++ ⟨(baseL 8 n).toArray⟩) n := by
  have hl := baseL_short (b := 8) (by omega) 32 n (by omega)
  refine forms_of (b := 8) (pre := [48]) (c := 48) (t := baseL 8 n) (by omega) (by omega) (append_data _ _) rfl (by decide) ?_ (by simp) (by omega) (read8 n hn)
  intro x hx
  simp at hx
  subst hx; decide
end Go.Proofs.YtmpahpnacpfhoaaDoor
