/- Tokens with and without places: what a text's tokens are, when texts are put together. -/
import Derived.Test.YtmpahpnacpfhoaaDoorPlR
namespace Go.Proofs.YtmpahpnacpfhoaaDoor

/-- The tokens of a text that has no error. -/
inductive Lx : Bs → List Tok → Prop
  | fin (l : Bs) : GapE l → Lx l []
  | tok (g x y : Bs) (t : Tok) (ts : List Tok) : Gap g → Stops (x ++ y) → 0 < x.length → readL (x ++ y) = (t, x.length, 0) → Lx y ts → Lx (g ++ (x ++ y)) (t :: ts)
/-- The same from a place on, with places. -/
inductive Lp (l : Bs) : Nat → List PTok → Prop
  | fin (a : Nat) : a ≤ l.length → GapE (l.drop a) → Lp l a []
  | tok (a b n : Nat) (t : Tok) (ts : List PTok) : a ≤ b → b + n ≤ l.length → 0 < n → Gap ((l.drop a).take (b - a)) → Stops (l.drop b) → readL (l.drop b) = (t, n, 0) → Lp l (b + n) ts → Lp l a ((t, b) :: ts)

theorem Stops.ne {r : Bs} (h : Stops r) : r ≠ [] := by
  obtain ⟨c, t, rfl, _⟩ := h; simp
theorem gap_append {a b : Bs} (ha : Gap a) (hb : Gap b) : Gap (a ++ b) := by
  induction ha with
  | nil => exact hb
  | blank c g hc _ ih => exact .blank c _ hc ih
  | line m g hm _ ih =>
    have e : (47 :: 47 :: (m ++ 10 :: g)) ++ b = 47 :: 47 :: (m ++ 10 :: (g ++ b)) := by simp
    rw [e]; exact .line m _ hm ih
  | block m g hm _ ih =>
    have e : (47 :: 42 :: (m ++ 42 :: 47 :: g)) ++ b = 47 :: 42 :: (m ++ 42 :: 47 :: (g ++ b)) := by simp
    rw [e]; exact .block m _ hm ih
theorem gapE_gap {a b : Bs} (ha : GapE a) (hb : Gap b) : Gap (a ++ 10 :: b) := by
  rcases ha with ha | ⟨g, m, rfl, hg, hm⟩
  · exact gap_append ha (.blank 10 b blank10 hb)
  · rw [List.append_assoc]
    exact gap_append hg (.line m b hm hb)
theorem gapE_gapE {a b : Bs} (ha : GapE a) (hb : GapE b) : GapE (a ++ 10 :: b) := by
  rcases hb with hb | ⟨g, m, rfl, hg, hm⟩
  · exact .inl (gapE_gap ha hb)
  · exact .inr ⟨a ++ 10 :: g, m, by simp, gapE_gap ha hg, hm⟩

theorem skip_tok {l : Bs} {a b : Nat} (ha : a ≤ b) (hb : b ≤ l.length) (hg : Gap ((l.drop a).take (b - a))) (hs : Stops (l.drop b)) : skipAt l a = (b, 0) := by
  have h1 : l.drop a = (l.drop a).take (b - a) ++ l.drop b := by
    have := (List.take_append_drop (b - a) (l.drop a)).symm
    rw [List.drop_drop, show a + (b - a) = b by omega] at this
    exact this
  obtain ⟨e1, e2, _⟩ := skipAt_P l a (by omega)
  have h2 : skipF (l.drop a) = (l.drop b, 0) := by rw [h1, gap_skip hg, hs.skip]
  rw [h2] at e1 e2
  simp only [List.length_drop] at e1
  ext
  · rw [e1]; show l.length - (l.length - b) = b; omega
  · exact e2
theorem skip_fin {l : Bs} {a : Nat} (ha : a ≤ l.length) (hg : GapE (l.drop a)) : skipAt l a = (l.length, 0) := by
  obtain ⟨e1, e2, _⟩ := skipAt_P l a ha
  rw [gapE_end hg] at e1 e2
  ext
  · rw [e1]; simp
  · exact e2

theorem lp_lex {l : Bs} : ∀ {a : Nat} {us : List PTok}, Lp l a us → ∀ (f : Nat) (ts : List PTok), l.length - a < f → ts.length + us.length ≤ 3999 → lexL f l a ts = (ts ++ us ++ [(endTok, l.length)], 0, 0) := by
  intro a us h
  induction h with
  | fin a ha hg =>
    intro f ts hf _
    obtain ⟨g, rfl⟩ : ∃ g, f = g + 1 := ⟨f - 1, by omega⟩
    rw [lex_end (skip_fin ha hg)]
    simp
  | tok a b n t us hab hbn hn hg hs hr _ ih =>
    intro f ts hf hlen
    obtain ⟨g, rfl⟩ : ∃ g, f = g + 1 := ⟨f - 1, by omega⟩
    simp only [List.length_cons] at hlen
    have hsk := skip_tok hab (by omega) hg hs
    rw [lex_on hsk (by omega) (by rw [hr]) (by omega), hr]
    rw [ih g (ts ++ [(t, b)]) (by omega) (by simp; omega)]
    simp

theorem lex_lp (l : Bs) : ∀ (f a : Nat) (ts : List PTok), a ≤ l.length → (lexL f l a ts).2.2 = 0 → ∃ us, (lexL f l a ts).1 = ts ++ us ++ [(endTok, l.length)] ∧ Lp l a us := by
  intro f
  induction f with
  | zero => intro a ts _ h; simp [lexL] at h
  | succ f ih =>
    intro a ts ha h
    obtain ⟨e1, e2, e3⟩ := skipAt_P l a ha
    rcases skip_cases _ (l.drop a) (Nat.le_refl _) with ⟨g, r', hr, hg, hs | ho⟩ | hg
    · have hF : skipF (l.drop a) = (r', 0) := by rw [hr, gap_skip hg, hs.skip]
      rw [hF] at e1 e2 e3
      simp only at e1 e2 e3
      have hlen : (l.drop a).length = g.length + r'.length := by rw [hr]; simp
      rw [List.length_drop] at hlen
      have hr0 : 0 < r'.length := List.length_pos_iff.2 hs.ne
      obtain ⟨b, hb⟩ : ∃ b, (skipAt l a).1 = b := ⟨_, rfl⟩
      rw [hb] at e1 e3
      have hsk : skipAt l a = (b, 0) := by ext; exact hb; exact e2
      by_cases he : (readL (l.drop b)).2.2 = 0
      · by_cases hm : ts.length = 3999
        · rw [lex_many hsk (by omega) he hm] at h; simp at h
        · rw [lex_on hsk (by omega) he hm] at h ⊢
          have hl := readL_len (l := l.drop b) (by rw [e3]; exact hr0) he
          rw [List.length_drop] at hl
          obtain ⟨us, h1, h2⟩ := ih _ _ (by omega) h
          refine ⟨((readL (l.drop b)).1, b) :: us, by rw [h1]; simp, ?_⟩
          refine .tok a b (readL (l.drop b)).2.1 _ us (by omega) (by omega) hl.1 ?_ (by rw [e3]; exact hs) (by ext <;> first | rfl | exact he) h2
          rw [hr, show b - a = g.length by omega, List.take_left]
          exact hg
      · rw [lex_err hsk (by omega) he] at h; exact absurd h he
    · have hF : skipF (l.drop a) = (r', 13) := by rw [hr, gap_skip hg, ho.skip]
      rw [hF] at e2
      have hsk : skipAt l a = ((skipAt l a).1, 13) := by ext; rfl; exact e2
      rw [lex_skipErr hsk] at h; simp at h
    · rw [lex_end (skip_fin ha hg)]
      exact ⟨[], by simp, .fin a ha hg⟩

theorem lp_lx {l : Bs} : ∀ {a : Nat} {us : List PTok}, Lp l a us → Lx (l.drop a) (us.map (·.1)) := by
  intro a us h
  induction h with
  | fin a ha hg => exact .fin _ hg
  | tok a b n t us hab hbn hn hg hs hr _ ih =>
    have h1 : l.drop a = (l.drop a).take (b - a) ++ l.drop b := by
      have := (List.take_append_drop (b - a) (l.drop a)).symm
      rw [List.drop_drop, show a + (b - a) = b by omega] at this
      exact this
    have h2 : l.drop b = (l.drop b).take n ++ l.drop (b + n) := by
      have := (List.take_append_drop n (l.drop b)).symm
      rw [List.drop_drop] at this
      exact this
    have h3 : ((l.drop b).take n).length = n := by rw [List.length_take, List.length_drop]; omega
    rw [h1, h2]
    refine .tok _ _ _ t _ hg ?_ (by rw [h3]; exact hn) ?_ ih
    · rw [← h2]; exact hs
    · rw [← h2, h3]; exact hr
theorem lx_lp {r : Bs} {us : List Tok} (h : Lx r us) : ∀ pre : Bs, ∃ ps : List PTok, ps.map (·.1) = us ∧ Lp (pre ++ r) pre.length ps := by
  induction h with
  | fin l hg => intro pre; exact ⟨[], rfl, .fin _ (by simp) (by rw [List.drop_left]; exact hg)⟩
  | tok g x y t ts hg hs hx hr _ ih =>
    intro pre
    obtain ⟨ps, h1, h2⟩ := ih (pre ++ g ++ x)
    have e : pre ++ g ++ x ++ y = pre ++ (g ++ (x ++ y)) := by simp
    rw [e] at h2
    have e2 : (pre ++ (g ++ (x ++ y))).drop (pre.length + g.length) = x ++ y := by
      rw [← List.append_assoc, List.drop_left' (by simp)]
    refine ⟨(t, pre.length + g.length) :: ps, by simp [h1], ?_⟩
    refine .tok _ _ x.length t ps (by omega) (by simp; omega) hx ?_ (by rw [e2]; exact hs) (by rw [e2]; exact hr) ?_
    · rw [List.drop_left, show pre.length + g.length - pre.length = g.length by omega, List.take_left]; exact hg
    · have e3 : (pre ++ g ++ x).length = pre.length + g.length + x.length := by simp; omega
      rw [e3] at h2; exact h2

/-- Lex of a text with no error, and back. -/
theorem lexAll_lp {l : Bs} (h : (lexAll l).2.2 = 0) : ∃ us, (lexAll l).1 = us ++ [(endTok, l.length)] ∧ (lexAll l).2.1 = 0 ∧ Lp l 0 us ∧ l.length ≤ 20000 ∧ us.length ≤ 3999 := by
  have hlen := lexAll_len l
  have hA := lexAll_answer l
  have hA1 : (lexAll l).2.1 = 0 := by
    rcases hA with ⟨_, h2, _⟩ | ⟨h1, _⟩
    · exact h2
    · exact absurd h h1
  unfold lexAll at h hlen ⊢
  split at h
  · simp at h
  · rename_i hl
    rw [if_neg hl] at hlen ⊢
    obtain ⟨us, h1, h2⟩ := lex_lp l _ 0 [] (Nat.zero_le _) h
    rw [h1] at hlen ⊢
    simp only [List.nil_append, List.length_append, List.length_cons, List.length_nil] at hlen
    refine ⟨us, by simp, ?_, h2, by omega, by omega⟩
    unfold lexAll at hA1; rw [if_neg hl] at hA1; exact hA1
theorem lx_lexAll {l : Bs} {us : List Tok} (h : Lx l us) (hl : l.length ≤ 20000) (hu : us.length ≤ 3999) : ∃ ts, lexAll l = (ts, 0, 0) ∧ ts.map (·.1) = us ++ [endTok] := by
  obtain ⟨ps, h1, h2⟩ := lx_lp h []
  simp only [List.nil_append, List.length_nil] at h2
  have hp : ps.length = us.length := by rw [← h1]; simp
  refine ⟨ps ++ [(endTok, l.length)], ?_, by simp [h1]⟩
  unfold lexAll
  rw [if_neg (by omega), lp_lex h2 _ [] (by omega) (by simp; omega)]
  simp

theorem stops_behind {x y z : Bs} (h : Stops (x ++ y)) (hx : 0 < x.length) (hb : Behind y z) : Stops (x ++ z) := by
  obtain ⟨c, t, he, h1, h2, h3⟩ := h
  cases x with
  | nil => simp at hx
  | cons d x =>
    rw [List.cons_append] at he
    injection he with hd ht
    subst hd
    refine ⟨d, x ++ z, rfl, h1, ?_, ?_⟩
    all_goals
      cases x with
      | cons e x =>
        simp only [Lib.hasPrefix, List.cons_append, List.isPrefixOf_cons_cons, List.isPrefixOf_nil_left, Bool.and_true] at h2 h3 ⊢
        first | exact h2 | exact h3
      | nil =>
        rcases hb with hb | ⟨e, u, rfl, he⟩
        · cases z with
          | nil =>
            cases y with
            | nil => first | exact h2 | exact h3
            | cons f y => simp at hb
          | cons e z =>
            cases y with
            | nil => simp at hb
            | cons f y =>
              simp only [List.head?_cons, Option.some.injEq] at hb
              subst hb
              simp only [Lib.hasPrefix, List.cons_append, List.nil_append, List.isPrefixOf_cons_cons, List.isPrefixOf_nil_left, Bool.and_true] at h2 h3 ⊢
              first | exact h2 | exact h3
        · have := blank_facts he
          simp only [Lib.hasPrefix, List.cons_append, List.nil_append, List.isPrefixOf_cons_cons, List.isPrefixOf_nil_left, Bool.and_true]
          rw [Bool.and_eq_false_iff]
          right
          rw [beq_eq_false_iff_ne]
          intro hh
          subst hh
          simp at this
end Go.Proofs.YtmpahpnacpfhoaaDoor
