/- What readL makes of a text hangs on the token's own bytes and the byte behind it. -/
import Derived.Test.YtmpahpnacpfhoaaDoorPlG
namespace Go.Proofs.YtmpahpnacpfhoaaDoor

/-- What may stand behind a token in the place of y: y's own first byte, or a blank. -/
def Behind (y z : Bs) : Prop := z.head? = y.head? ∨ ∃ c t, z = c :: t ∧ blankB c = true

theorem blank_facts {c : UInt8} (h : blankB c = true) : (9 ≤ c.toNat ∧ c.toNat ≤ 13) ∨ c.toNat = 32 := by
  unfold blankB at h
  have := of_decide_eq_true h
  omega
theorem blank_word {c : UInt8} (h : blankB c = true) : wordB c = false := by
  have := blank_facts h
  unfold wordB letterB digitB
  rw [Bool.or_eq_false_iff]
  constructor <;> (apply decide_eq_false; omega)

theorem run_split : ∀ (x y : Bs), runLen (x ++ y) = x.length → (∀ c ∈ x, wordB c = true) ∧ runLen y = 0 := by
  intro x
  induction x with
  | nil => intro y h; exact ⟨by simp, h⟩
  | cons c x ih =>
    intro y h
    cases hc : wordB c with
    | false => unfold runLen at h; rw [List.cons_append, List.takeWhile_cons, hc] at h; simp at h
    | true =>
      unfold runLen at h
      rw [List.cons_append, List.takeWhile_cons, hc] at h
      simp only [if_true, List.length_cons, Nat.add_right_cancel_iff] at h
      obtain ⟨h1, h2⟩ := ih y h
      exact ⟨by intro d hd; simp only [List.mem_cons] at hd; rcases hd with rfl | hd; exact hc; exact h1 d hd, h2⟩
theorem run_join : ∀ (x z : Bs), (∀ c ∈ x, wordB c = true) → runLen z = 0 → runLen (x ++ z) = x.length := by
  intro x
  induction x with
  | nil => intro z _ h; exact h
  | cons c x ih =>
    intro z h hz
    unfold runLen
    rw [List.cons_append, List.takeWhile_cons, h c (by simp)]
    simp only [if_true, List.length_cons, Nat.add_right_cancel_iff]
    exact ih z (fun d hd => h d (by simp [hd])) hz
theorem run_behind {y z : Bs} (h : Behind y z) (hy : runLen y = 0) : runLen z = 0 := by
  rcases h with h | ⟨c, t, rfl, hc⟩
  · cases z with
    | nil => rfl
    | cons c t =>
      cases y with
      | nil => simp at h
      | cons d u =>
        simp only [List.head?_cons, Option.some.injEq] at h
        subst h
        unfold runLen at hy ⊢
        rw [List.takeWhile_cons] at hy ⊢
        split at hy
        · simp at hy
        · rename_i hn; rw [if_neg hn]; rfl
  · unfold runLen; rw [List.takeWhile_cons, blank_word hc]; rfl

theorem byteL_left (x y : Bs) (k : Nat) (h : k < x.length) : byteL (x ++ y) k = byteL x k := by
  unfold byteL; simp only [List.getD]; rw [List.getElem?_append_left h]
theorem byteL_right (x y : Bs) : byteL (x ++ y) x.length = byteL y 0 := by
  unfold byteL; simp only [List.getD]; rw [List.getElem?_append_right (Nat.le_refl _), Nat.sub_self]
theorem byteL_head {y z : Bs} (h : z.head? = y.head?) : byteL z 0 = byteL y 0 := by
  unfold byteL; simp only [List.getD]; rw [← List.head?_eq_getElem?, ← List.head?_eq_getElem?, h]
theorem byteL_blank {c : UInt8} {t : Bs} : byteL (c :: t) 0 = c.toNat := rfl

theorem getD0 (x y : Bs) (h : 0 < x.length) : (x ++ y).getD 0 0 = x.getD 0 0 := by
  simp only [List.getD]; rw [List.getElem?_append_left h]

/-- A sign of a, b, c: what it hangs on. -/
theorem signN_stop (a b c b' c' : Int) (n : Nat) (hn : signN a b c = n) (_h0 : n ≠ 0) (h1 : n = 1 → (b' = b ∨ (b' ≠ a ∧ b' ≠ 61))) (h2 : 2 ≤ n → b' = b) (h3 : n = 2 → (c' = c ∨ c' ≠ 61)) (h4 : 3 ≤ n → c' = c) : signN a b' c' = n := by
  unfold signN at hn ⊢
  have : n ≤ 3 := by
    revert hn
    repeat' split
    all_goals omega
  repeat' split at hn
  all_goals (repeat' split)
  all_goals omega

theorem signL_stop (x y z : Bs) (hx : 0 < x.length) (h : signL (x ++ y) = x.length) (hb : Behind y z) (hblank : ∀ c t, z = c :: t → blankB c = true → (c.toNat : Int) ≠ byteL x 0) : signL (x ++ z) = x.length := by
  have hz : byteL z 0 = byteL y 0 ∨ ((byteL z 0 : Int) ≠ byteL x 0 ∧ (byteL z 0 : Int) ≠ 61) := by
    rcases hb with h | ⟨c, t, rfl, hc⟩
    · exact .inl (byteL_head h)
    · right
      have := blank_facts hc
      exact ⟨hblank c t rfl hc, by show ((c.toNat : Nat) : Int) ≠ 61; omega⟩
  unfold signL at h ⊢
  rw [byteL_left x y 0 hx] at h
  rw [byteL_left x z 0 hx]
  refine signN_stop _ _ _ _ _ x.length h (by omega) ?_ ?_ ?_ ?_
  · intro h1
    rw [← h1, byteL_right, byteL_right]
    rcases hz with hz | hz
    · left; rw [hz]
    · right; exact hz
  · intro h2
    rw [byteL_left x y 1 (by omega), byteL_left x z 1 (by omega)]
  · intro h2
    rw [← h2, byteL_right, byteL_right]
    rcases hz with hz | hz
    · left; rw [hz]
    · right; exact hz.2
  · intro h3
    rw [byteL_left x y 2 (by omega), byteL_left x z 2 (by omega)]

theorem sign_first {a b c : Int} (h : signN a b c ≠ 0) : ¬ (9 ≤ a ∧ a ≤ 13) ∧ a ≠ 32 := by
  unfold signN at h
  repeat' split at h
  all_goals omega
theorem nameL_len {l : Bs} {t : Tok} {n : Nat} (h : nameL l = (t, n, 0)) : runLen l = n ∧ (isWordL (l.take n) = true ∧ t = ⟨3, l.take n, 0, false⟩ ∨ isWordL (l.take n) = false ∧ n ≤ 31 ∧ t = ⟨1, l.take n, 0, false⟩) := by
  unfold nameL at h
  split at h
  · rename_i hw
    injection h with h1 h2; injection h2 with h2 _
    subst h2; exact ⟨rfl, .inl ⟨hw, h1.symm⟩⟩
  · rename_i hw
    split at h
    · injection h with _ h2; injection h2 with _ h3; cases h3
    · injection h with h1 h2; injection h2 with h2 _
      subst h2; exact ⟨rfl, .inr ⟨by simpa using hw, by omega, h1.symm⟩⟩
theorem nameL_of {l : Bs} {n : Nat} (h : runLen l = n) (hn : n ≤ 31) (hw : isWordL (l.take n) = false) : nameL l = (⟨1, l.take n, 0, false⟩, n, 0) := by
  unfold nameL; rw [h, hw, if_neg (by simp), if_neg (by omega)]
theorem nameL_word {l : Bs} {n : Nat} (h : runLen l = n) (hw : isWordL (l.take n) = true) : nameL l = (⟨3, l.take n, 0, false⟩, n, 0) := by
  unfold nameL; rw [h, hw, if_pos rfl]

def One (l : Bs) : Prop := 3 ≤ l.length ∧ byteL l 1 ≠ 39 ∧ byteL l 1 ≠ 92 ∧ byteL l 1 ≠ 10 ∧ byteL l 2 = 39
def Esc (l : Bs) : Prop := 4 ≤ l.length ∧ byteL l 1 = 92 ∧ byteL l 3 = 39 ∧ (escN (byteL l 2 : Int)).2 = true
theorem charL_one {l : Bs} (h : One l) : charL l = ((byteL l 1 : Int), 3) := by
  unfold One at h
  unfold charL; rw [if_pos h]
theorem charL_esc {l : Bs} (h : Esc l) : charL l = ((escN (byteL l 2 : Int)).1, 4) := by
  obtain ⟨h1, h2, h3, h4⟩ := h
  unfold charL; rw [if_neg (fun h => h.2.2.1 h2), if_pos ⟨h1, h2, h3⟩, if_pos h4]
theorem charL_none {l : Bs} (h : ¬ One l) (h' : ¬ Esc l) : charL l = (0, 0) := by
  unfold One at h
  unfold charL
  rw [if_neg h]
  by_cases hd : 4 ≤ l.length ∧ byteL l 1 = 92 ∧ byteL l 3 = 39
  · rw [if_pos hd, if_neg (fun he => h' ⟨hd.1, hd.2.1, hd.2.2, he⟩)]
  · rw [if_neg hd]

/-- What has been read is read again, whatever stands behind, if its first byte is as it was or blank. -/
theorem readL_stop {x y z : Bs} {t : Tok} (hx : 0 < x.length) (h : readL (x ++ y) = (t, x.length, 0)) (hb : Behind y z) : readL (x ++ z) = (t, x.length, 0) := by
  have hty : (x ++ y).take x.length = x := by simp
  have htz : (x ++ z).take x.length = x := by simp
  unfold readL at h ⊢
  rw [getD0 x y hx, byteL_left x y 0 hx] at h
  rw [getD0 x z hx, byteL_left x z 0 hx]
  split
  · rename_i hl
    rw [if_pos hl] at h
    obtain ⟨h1, h2⟩ := nameL_len h
    obtain ⟨h3, h4⟩ := run_split x y h1
    have h5 := run_join x z h3 (run_behind hb h4)
    rw [hty] at h2
    rcases h2 with ⟨h6, h7⟩ | ⟨h6, h7, h8⟩
    · rw [nameL_word h5 (by rw [htz]; exact h6), htz, h7]
    · rw [nameL_of h5 h7 (by rw [htz]; exact h6), htz, h8]
  · rename_i hl
    rw [if_neg hl] at h
    split
    · rename_i hd
      rw [if_pos hd] at h
      unfold nmbL at h ⊢
      have h1 : runLen (x ++ y) = x.length := by
        split at h
        · injection h with _ h2; injection h2 with h2 _
        · injection h with _ h2; injection h2 with _ h3; cases h3
      obtain ⟨h3, h4⟩ := run_split x y h1
      have h5 := run_join x z h3 (run_behind hb h4)
      rw [h5, htz]
      rw [h1, hty] at h
      exact h
    · rename_i hd
      rw [if_neg hd] at h
      split
      · rename_i hq
        rw [if_pos hq] at h
        unfold chrL at h ⊢
        have h1 : (charL (x ++ y)).2.toNat = x.length ∧ (charL (x ++ y)).2 ≠ 0 := by
          split at h
          · injection h with _ h2; injection h2 with _ h3; cases h3
          · rename_i h0; injection h with _ h2; injection h2 with h2 _; exact ⟨h2, h0⟩
        have h2 : charL (x ++ z) = charL (x ++ y) := by
          have h3 := charL_len h1.2
          have hlz : (x ++ z).length = x.length + z.length := by simp
          have e1 := byteL_left x y 1 (by omega)
          have e2 := byteL_left x y 2 (by omega)
          have f1 := byteL_left x z 1 (by omega)
          have f2 := byteL_left x z 2 (by omega)
          by_cases hc : One (x ++ y)
          · rw [charL_one hc]
            obtain ⟨c1, c2, c3, c4, c5⟩ := hc
            rw [charL_one ⟨by omega, by omega, by omega, by omega, by omega⟩, e1, f1]
          · by_cases hd : Esc (x ++ y)
            · have h5 := h1.1
              rw [charL_esc hd] at h5 ⊢
              have h4 : x.length = 4 := h5.symm
              obtain ⟨c1, c2, c3, c4⟩ := hd
              have e3 := byteL_left x y 3 (by omega)
              have f3 := byteL_left x z 3 (by omega)
              rw [charL_esc ⟨by omega, by omega, by omega, by rw [f2, ← e2]; exact c4⟩, e2, f2]
            · rw [charL_none hc hd] at h1; exact absurd rfl h1.2
        rw [h2]
        exact h
      · rename_i hq
        rw [if_neg hq] at h
        unfold sgnL at h ⊢
        have h1 : signL (x ++ y) = x.length ∧ signL (x ++ y) ≠ 0 := by
          have hr := signL_range (x ++ y) (by simp; omega)
          split at h
          · injection h with _ h2; injection h2 with _ h3; cases h3
          · rename_i h0; injection h with _ h2; injection h2 with h2 _; exact ⟨by omega, h0⟩
        have hf := sign_first (show signN (byteL (x ++ y) 0) (byteL (x ++ y) 1) (byteL (x ++ y) 2) ≠ 0 from h1.2)
        rw [byteL_left x y 0 hx] at hf
        have h2 := signL_stop x y z hx h1.1 hb (fun c u hz hc => by have := blank_facts hc; omega)
        rw [h2, Int.toNat_natCast, htz]
        rw [h1.1, Int.toNat_natCast, hty] at h
        exact h

theorem run_blank {c : UInt8} (hc : blankB c = true) : ∀ r : Bs, runLen (r ++ [c]) = runLen r := by
  intro r
  induction r with
  | nil => unfold runLen; simp [blank_word hc]
  | cons d r ih =>
    unfold runLen at ih ⊢
    rw [List.cons_append, List.takeWhile_cons, List.takeWhile_cons]
    split
    · simp only [List.length_cons]; rw [ih]
    · rfl
theorem byteL_snoc (r : Bs) (c : UInt8) (k : Nat) : byteL (r ++ [c]) k = byteL r k ∨ (k = r.length ∧ byteL (r ++ [c]) k = c.toNat ∧ byteL r k = 0) := by
  rcases Nat.lt_trichotomy k r.length with h | h | h
  · left; exact byteL_left r [c] k h
  · right; subst h
    refine ⟨rfl, by rw [byteL_right]; rfl, ?_⟩
    unfold byteL; simp only [List.getD]; rw [List.getElem?_eq_none (Nat.le_refl _)]; rfl
  · left
    unfold byteL; simp only [List.getD]
    rw [List.getElem?_eq_none (by simp; omega), List.getElem?_eq_none (by omega)]
theorem signN_same {a b c b' c' : Int} (hb : b' = b ∨ (b' ≠ 61 ∧ b ≠ 61 ∧ (b' = a → ((9 ≤ a ∧ a ≤ 13) ∨ a = 32 ∨ a = 0)) ∧ (b = a → ((9 ≤ a ∧ a ≤ 13) ∨ a = 32 ∨ a = 0)))) (hc : c' = c ∨ (c' ≠ 61 ∧ c ≠ 61)) : signN a b' c' = signN a b c := by
  unfold signN
  repeat' split
  all_goals omega

/-- A blank behind a text changes nothing of what is read at its beginning. -/
theorem readL_blank {r : Bs} {c : UInt8} (hr : 0 < r.length) (hc : blankB c = true) : readL (r ++ [c]) = readL r := by
  have hf := blank_facts hc
  have ht : (r ++ [c]).take (runLen r) = r.take (runLen r) := List.take_append_of_le_length (runL_le r)
  have hrun := run_blank hc r
  have b1 := byteL_snoc r c 1
  have b2 := byteL_snoc r c 2
  have b3 := byteL_snoc r c 3
  have i2 : byteL r 2 = 0 ∨ 2 < r.length := by
    by_cases h : byteL r 2 = 0
    · exact .inl h
    · exact .inr (byteL_in h)
  have i3 : byteL r 3 = 0 ∨ 3 < r.length := by
    by_cases h : byteL r 3 = 0
    · exact .inl h
    · exact .inr (byteL_in h)
  have h0 := byteL_left r [c] 0 hr
  have hlen : (r ++ [c]).length = r.length + 1 := by simp
  have hch : charL (r ++ [c]) = charL r := by
    by_cases ho : One r
    · have ho' : One (r ++ [c]) := by unfold One at ho ⊢; omega
      rw [charL_one ho, charL_one ho']
      have : byteL (r ++ [c]) 1 = byteL r 1 := by unfold One at ho; omega
      rw [this]
    · have ho' : ¬ One (r ++ [c]) := by unfold One at ho ⊢; omega
      by_cases he : Esc r
      · have e2 : byteL (r ++ [c]) 2 = byteL r 2 := by unfold Esc at he; omega
        have he' : Esc (r ++ [c]) := by
          unfold Esc at he ⊢
          rw [e2]
          exact ⟨by omega, by omega, by omega, he.2.2.2⟩
        rw [charL_esc he, charL_esc he', e2]
      · have he' : ¬ Esc (r ++ [c]) := by
          intro h
          apply he
          have e2 : byteL (r ++ [c]) 2 = byteL r 2 := by unfold Esc at h; omega
          unfold Esc at h ⊢
          rw [e2] at h
          exact ⟨by omega, by omega, by omega, h.2.2.2⟩
        rw [charL_none ho he, charL_none ho' he']
  have hsg : signL (r ++ [c]) = signL r := by
    unfold signL
    rw [h0]
    refine signN_same ?_ ?_
    · rcases b1 with h | ⟨_, h, h'⟩
      · left; rw [h]
      · right; rw [h, h']; exact ⟨by omega, by omega, fun e => by omega, fun e => by omega⟩
    · rcases b2 with h | ⟨_, h, h'⟩
      · left; rw [h]
      · right; rw [h, h']; omega
  have hst : signL r ≠ 0 → (r ++ [c]).take (signL r).toNat = r.take (signL r).toNat := by
    intro h
    have := signL_range r hr
    exact List.take_append_of_le_length (by omega)
  unfold readL nameL nmbL chrL sgnL
  rw [getD0 r [c] hr, hrun, ht, hch, h0, hsg]
  by_cases h : signL r = 0
  · rw [h]; rfl
  · rw [hst h]
end Go.Proofs.YtmpahpnacpfhoaaDoor
