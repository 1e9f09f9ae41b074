/- What follows of the plain Lex: places rise, one end, at the end; an error has no tokens and a place within the text. -/
import Derived.Test.YtmpahpnacpfhoaaDoorI
namespace Go.Proofs.YtmpahpnacpfhoaaDoor

/-- Tokens so far: none is the end, places rise, and lie before a. -/
def Sofar (ts : List PTok) (a : Nat) : Prop :=
  (∀ (k : Nat) (t : PTok), ts[k]? = some t → t.1.kind ≠ 0 ∧ t.2 < a) ∧ ∀ (k : Nat) (t u : PTok), ts[k]? = some t → ts[k + 1]? = some u → t.2 < u.2
/-- All tokens: none but the last is the end, places rise, the last lies at n. -/
def Placed (n : Nat) (ts : List PTok) : Prop :=
  0 < ts.length ∧ (∀ (k : Nat) (t : PTok), ts[k]? = some t → (t.1.kind = 0 ↔ k + 1 = ts.length) ∧ (k + 1 = ts.length → t.2 = n)) ∧ ∀ (k : Nat) (t u : PTok), ts[k]? = some t → ts[k + 1]? = some u → t.2 < u.2

theorem readL_kind {l : Bs} (he : (readL l).2.2 = 0) : (readL l).1.kind ≠ 0 := by
  unfold readL nameL nmbL chrL sgnL at he ⊢
  repeat' split
  all_goals simp_all

theorem snoc_cases {ts : List PTok} {x t : PTok} {k : Nat} (h : (ts ++ [x])[k]? = some t) : (k < ts.length ∧ ts[k]? = some t) ∨ (k = ts.length ∧ t = x) := by
  rcases Nat.lt_or_ge k ts.length with h1 | h1
  · rw [List.getElem?_append_left h1] at h
    exact .inl ⟨h1, h⟩
  · rw [List.getElem?_append_right h1] at h
    have : k - ts.length = 0 := by
      rcases Nat.eq_zero_or_pos (k - ts.length) with h2 | h2
      · exact h2
      · rw [List.getElem?_eq_none (by simp; omega)] at h; cases h
    rw [this] at h
    simp at h
    exact .inr ⟨by omega, h.symm⟩

theorem Sofar.on {ts : List PTok} {a b a' : Nat} {t : Tok} (h : Sofar ts a) (hab : a ≤ b) (hb : b < a') (hk : t.kind ≠ 0) : Sofar (ts ++ [(t, b)]) a' := by
  refine ⟨fun k x hx => ?_, fun k x y hx hy => ?_⟩
  · rcases snoc_cases hx with ⟨_, h1⟩ | ⟨_, rfl⟩
    · have := h.1 k x h1; exact ⟨this.1, by omega⟩
    · exact ⟨hk, hb⟩
  · rcases snoc_cases hx with ⟨h0, h1⟩ | ⟨h0, rfl⟩
    · rcases snoc_cases hy with ⟨_, h2⟩ | ⟨_, rfl⟩
      · exact h.2 k x y h1 h2
      · have := (h.1 k x h1).2; show x.2 < b; omega
    · rcases snoc_cases hy with ⟨h3, _⟩ | ⟨h3, _⟩
      · omega
      · omega
theorem Sofar.fin {ts : List PTok} {a n : Nat} (h : Sofar ts a) (han : a ≤ n) : Placed n (ts ++ [(endTok, n)]) := by
  refine ⟨by simp, fun k x hx => ?_, fun k x y hx hy => ?_⟩
  · simp only [List.length_append, List.length_cons, List.length_nil]
    rcases snoc_cases hx with ⟨h0, h1⟩ | ⟨h0, rfl⟩
    · have := (h.1 k x h1).1
      exact ⟨⟨fun e => absurd e this, fun e => by omega⟩, fun e => by omega⟩
    · exact ⟨⟨fun _ => by omega, fun _ => rfl⟩, fun _ => rfl⟩
  · rcases snoc_cases hx with ⟨h0, h1⟩ | ⟨h0, rfl⟩
    · rcases snoc_cases hy with ⟨_, h2⟩ | ⟨_, rfl⟩
      · exact h.2 k x y h1 h2
      · have := (h.1 k x h1).2; show x.2 < n; omega
    · rcases snoc_cases hy with ⟨h3, _⟩ | ⟨h3, _⟩
      · omega
      · omega

/-- What the answer of Lex is like. -/
def Answer (n : Nat) (R : List PTok × Nat × Nat) : Prop := (R.2.2 = 0 ∧ R.2.1 = 0 ∧ Placed n R.1) ∨ (R.2.2 ≠ 0 ∧ R.1 = [] ∧ R.2.1 ≤ n)

theorem lexL_answer (l : Bs) : ∀ (f a : Nat) (ts : List PTok), a ≤ l.length → Sofar ts a → Answer l.length (lexL f l a ts) := by
  intro f
  induction f with
  | zero => intro a ts _ _; right; simp [lexL]
  | succ f ih =>
    intro a ts ha hS
    obtain ⟨h1, h2, _, _⟩ := skipL_range (l.length + 1) l a ha
    have h1' : a ≤ (skipAt l a).1 := h1
    have h2' : (skipAt l a).1 ≤ l.length := h2
    rw [lexL]
    simp only
    split
    · rename_i he
      right; exact ⟨he, rfl, h2'⟩
    · split
      · rename_i hb
        left
        refine ⟨rfl, rfl, ?_⟩
        rw [hb]
        exact hS.fin ha
      · split
        · rename_i he
          right; exact ⟨he, rfl, h2'⟩
        · rename_i hb he
          have he : (readL (l.drop (skipAt l a).1)).2.2 = 0 := by simpa using he
          split
          · right; exact ⟨by simp, rfl, h2'⟩
          · have hl := readL_len (l := l.drop (skipAt l a).1) (by rw [List.length_drop]; omega) he
            rw [List.length_drop] at hl
            exact ih _ _ (by omega) (hS.on h1' (by omega) (readL_kind he))
theorem lexAll_answer (l : Bs) : Answer l.length (lexAll l) := by
  unfold lexAll
  split
  · right; simp
  · exact lexL_answer l _ 0 [] (Nat.zero_le _) ⟨fun k t h => by simp at h, fun k t u h => by simp at h⟩

theorem lexL_len (l : Bs) : ∀ (f a : Nat) (ts : List PTok), ts.length ≤ 3999 → (lexL f l a ts).1.length ≤ 4000 := by
  intro f
  induction f with
  | zero => intro a ts _; simp [lexL]
  | succ f ih =>
    intro a ts h
    rw [lexL]
    simp only
    split
    · simp
    · split
      · simp; omega
      · split
        · simp
        · split
          · simp
          · exact ih _ _ (by simp; omega)
theorem lexAll_len (l : Bs) : (lexAll l).1.length ≤ 4000 := by
  unfold lexAll
  split
  · simp
  · exact lexL_len l _ 0 [] (by simp)
end Go.Proofs.YtmpahpnacpfhoaaDoor
