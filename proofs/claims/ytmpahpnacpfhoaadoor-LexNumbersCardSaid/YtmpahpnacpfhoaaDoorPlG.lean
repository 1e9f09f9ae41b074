/- What is passed over between tokens, without places: gaps, and what a skip does when something stands behind. -/
import Derived.Test.YtmpahpnacpfhoaaDoorPlP
namespace Go.Proofs.YtmpahpnacpfhoaaDoor

def skipP : Nat → Bs → Bs × Nat
  | 0, r => (r, 0)
  | _ + 1, [] => ([], 0)
  | f + 1, c :: r =>
    if blankB c then skipP f r
    else if Lib.hasPrefix (c :: r) [47, 47] then skipP f ((c :: r).drop (lineLen (c :: r)))
    else if Lib.hasPrefix (c :: r) [47, 42] then
      (if Lib.index ((c :: r).drop 2) [42, 47] < 0 then (c :: r, 13) else skipP f ((c :: r).drop (2 + (Lib.index ((c :: r).drop 2) [42, 47]).toNat + 2)))
    else (c :: r, 0)

theorem lineLen_pos2 {l : Bs} (h : Lib.hasPrefix l [47, 47] = true) : 0 < lineLen l := lineLen_pos h

theorem skipP_fuel : ∀ (f : Nat) (r : Bs), r.length < f → ∀ f', r.length < f' → skipP f r = skipP f' r := by
  intro f
  induction f with
  | zero => intro r h; omega
  | succ f ih =>
    intro r h f' h'
    obtain ⟨g, rfl⟩ : ∃ g, f' = g + 1 := ⟨f' - 1, by omega⟩
    cases r with
    | nil => rfl
    | cons c r =>
      simp only [List.length_cons] at h h'
      simp only [skipP]
      split
      · exact ih r (by omega) g (by omega)
      · split
        · rename_i hp
          have := lineLen_pos hp
          exact ih _ (by rw [List.length_drop, List.length_cons]; omega) g (by rw [List.length_drop, List.length_cons]; omega)
        · split
          · split
            · rfl
            · exact ih _ (by rw [List.length_drop, List.length_cons]; omega) g (by rw [List.length_drop, List.length_cons]; omega)
          · rfl

def skipF (r : Bs) : Bs × Nat := skipP (r.length + 1) r
theorem skipF_eq (r : Bs) (f : Nat) (h : r.length < f) : skipP f r = skipF r := skipP_fuel f r h _ (by omega)
theorem skipF_nil : skipF [] = ([], 0) := rfl
theorem skipF_blank {c : UInt8} {r : Bs} (h : blankB c = true) : skipF (c :: r) = skipF r := by
  unfold skipF; simp only [List.length_cons, skipP, h, if_true]
theorem skipF_line {c : UInt8} {r : Bs} (h : blankB c = false) (h1 : Lib.hasPrefix (c :: r) [47, 47] = true) : skipF (c :: r) = skipF ((c :: r).drop (lineLen (c :: r))) := by
  have := lineLen_pos h1
  refine Eq.trans ?_ (skipF_eq _ (r.length + 1) (by rw [List.length_drop, List.length_cons]; omega))
  unfold skipF
  simp only [List.length_cons, skipP, h, h1, if_true, Bool.false_eq_true, if_false]
theorem skipF_open {c : UInt8} {r : Bs} (h : blankB c = false) (h1 : Lib.hasPrefix (c :: r) [47, 47] = false) (h2 : Lib.hasPrefix (c :: r) [47, 42] = true) (h3 : Lib.index ((c :: r).drop 2) [42, 47] < 0) : skipF (c :: r) = (c :: r, 13) := by
  unfold skipF
  simp only [List.length_cons, skipP, h, h1, h2, h3, if_true, Bool.false_eq_true, if_false]
theorem skipF_shut {c : UInt8} {r : Bs} (h : blankB c = false) (h1 : Lib.hasPrefix (c :: r) [47, 47] = false) (h2 : Lib.hasPrefix (c :: r) [47, 42] = true) (h3 : ¬ Lib.index ((c :: r).drop 2) [42, 47] < 0) :
    skipF (c :: r) = skipF ((c :: r).drop (2 + (Lib.index ((c :: r).drop 2) [42, 47]).toNat + 2)) := by
  refine Eq.trans ?_ (skipF_eq _ (r.length + 1) (by rw [List.length_drop, List.length_cons]; omega))
  unfold skipF
  simp only [List.length_cons, skipP, h, h1, h2, h3, if_true, Bool.false_eq_true, if_false]
theorem skipF_stop {c : UInt8} {r : Bs} (h : blankB c = false) (h1 : Lib.hasPrefix (c :: r) [47, 47] = false) (h2 : Lib.hasPrefix (c :: r) [47, 42] = false) : skipF (c :: r) = (c :: r, 0) := by
  unfold skipF
  simp only [List.length_cons, skipP, h, h1, h2, Bool.false_eq_true, if_false]

/-- With places and without: the same. -/
theorem skipL_P : ∀ (f : Nat) (l : Bs) (a : Nat), a ≤ l.length → l.length - a < f →
    (skipL f l a).1 = l.length - (skipF (l.drop a)).1.length ∧ (skipL f l a).2 = (skipF (l.drop a)).2 ∧ l.drop (skipL f l a).1 = (skipF (l.drop a)).1 := by
  intro f
  induction f with
  | zero => intro l a _ h; omega
  | succ f ih =>
    intro l a h hf
    by_cases hlt : a < l.length
    · have hcons : l.drop a = l[a] :: l.drop (a + 1) := List.drop_eq_getElem_cons hlt
      have hg : l.getD a 0 = l[a] := by simp [List.getD, List.getElem?_eq_getElem hlt]
      cases hb : blankB l[a] with
      | true =>
        rw [skip_blank hlt (by rw [hg]; exact hb), hcons, skipF_blank hb]
        exact ih l (a + 1) (by omega) (by omega)
      | false =>
        have hb' : blankB (l.getD a 0) = false := by rw [hg]; exact hb
        cases h1 : Lib.hasPrefix (l.drop a) [47, 47] with
        | true =>
          have hp := lineLen_pos h1
          have hl := lineLen_le (l.drop a)
          rw [List.length_drop] at hl
          rw [skip_line hlt hb' h1]
          have := ih l (a + lineLen (l.drop a)) (by omega) (by omega)
          rw [← List.drop_drop] at this
          rw [hcons] at h1 this ⊢
          rw [skipF_line hb h1]
          exact this
        | false =>
          cases h2 : Lib.hasPrefix (l.drop a) [47, 42] with
          | true =>
            by_cases h3 : Lib.index ((l.drop a).drop 2) [42, 47] < 0
            · rw [skip_open hlt hb' h1 h2 h3]
              rw [hcons] at h1 h2 h3
              rw [hcons, skipF_open hb h1 h2 h3]
              refine ⟨?_, rfl, rfl⟩
              rw [← hcons, List.length_drop]; omega
            · rw [skip_shut hlt hb' h1 h2 h3]
              have hr := index_room [42, 47] (by simp) ((l.drop a).drop 2) (by omega)
              rw [List.length_drop, List.length_drop] at hr
              simp only [List.length_cons, List.length_nil, Nat.zero_add, Nat.reduceAdd] at hr
              have := ih l (a + (2 + (Lib.index ((l.drop a).drop 2) [42, 47]).toNat + 2)) (by omega) (by omega)
              rw [← List.drop_drop] at this
              rw [hcons] at h1 h2 h3 this ⊢
              rw [skipF_shut hb h1 h2 h3]
              exact this
          | false =>
            rw [skip_stop hlt hb' h1 h2]
            rw [hcons] at h1 h2
            rw [hcons, skipF_stop hb h1 h2]
            refine ⟨?_, rfl, rfl⟩
            rw [← hcons, List.length_drop]; omega
    · rw [skip_end hlt, List.drop_eq_nil_of_le (by omega), skipF_nil]
      exact ⟨by simp only [List.length_nil]; omega, rfl, rfl⟩
theorem skipAt_P (l : Bs) (a : Nat) (h : a ≤ l.length) : (skipAt l a).1 = l.length - (skipF (l.drop a)).1.length ∧ (skipAt l a).2 = (skipF (l.drop a)).2 ∧ l.drop (skipAt l a).1 = (skipF (l.drop a)).1 :=
  skipL_P _ l a h (by omega)

/-- What may stand between two tokens. -/
inductive Gap : Bs → Prop
  | nil : Gap []
  | blank (c : UInt8) (g : Bs) : blankB c = true → Gap g → Gap (c :: g)
  | line (m g : Bs) : (∀ x ∈ m, x ≠ 10) → Gap g → Gap (47 :: 47 :: (m ++ 10 :: g))
  | block (m g : Bs) : Lib.index (m ++ [42, 47]) [42, 47] = m.length → Gap g → Gap (47 :: 42 :: (m ++ 42 :: 47 :: g))
/-- What may stand behind the last token. -/
def GapE (g : Bs) : Prop := Gap g ∨ ∃ g1 m : Bs, g = g1 ++ 47 :: 47 :: m ∧ Gap g1 ∧ ∀ x ∈ m, x ≠ 10

theorem index_append (sub : Bs) : ∀ (s t : Bs), 0 ≤ Lib.index s sub → Lib.index (s ++ t) sub = Lib.index s sub := by
  intro s
  induction s with
  | nil =>
    intro t h
    unfold Lib.index at h
    split at h
    · rename_i h1
      rw [List.isEmpty_iff] at h1; subst h1
      rw [Lib.index_empty, Lib.index_empty]
    · omega
  | cons b l ih =>
    intro t h
    by_cases hp : sub.isPrefixOf (b :: l) = true
    · have hp2 : sub.isPrefixOf (b :: (l ++ t)) = true := by
        rw [List.isPrefixOf_iff_prefix] at hp ⊢
        exact hp.trans (List.prefix_append (b :: l) t)
      rw [List.cons_append, Lib.index, if_pos hp2, Lib.index, if_pos hp]
    · have h1 : Lib.index (b :: l) sub = if Lib.index l sub == -1 then -1 else Lib.index l sub + 1 := by rw [Lib.index, if_neg hp]
      rw [h1] at h
      have hge := Lib.index_ge l sub
      have hne : ¬ Lib.index l sub = -1 := by
        intro e; rw [e] at h; simp at h
      have hl : 0 ≤ Lib.index l sub := by omega
      have hp2 : ¬ sub.isPrefixOf (b :: (l ++ t)) = true := by
        intro hq
        apply hp
        rw [List.isPrefixOf_iff_prefix] at hq ⊢
        rcases Nat.eq_zero_or_pos sub.length with h0 | h0
        · rw [List.length_eq_zero_iff] at h0; subst h0; exact List.nil_prefix
        · have := index_room sub h0 l hl
          rw [← List.cons_append] at hq
          exact List.prefix_of_prefix_length_le hq (List.prefix_append (b :: l) t) (by rw [List.length_cons]; omega)
      rw [List.cons_append, Lib.index, if_neg hp2, h1, ih t hl]

theorem indexByte_at (m x : Bs) (h : ∀ y ∈ m, y ≠ 10) : Lib.indexByte (m ++ 10 :: x) 10 = m.length := by
  induction m with
  | nil => simp [Lib.indexByte]
  | cons y m ih =>
    have hy : y ≠ 10 := h y (by simp)
    have := ih fun z hz => h z (by simp [hz])
    rw [List.cons_append, Lib.indexByte, if_neg (by simpa using hy), this]
    simp only [beq_iff_eq, List.length_cons]
    split
    · omega
    · omega
theorem indexByte_not (m : Bs) (h : ∀ y ∈ m, y ≠ 10) : Lib.indexByte m 10 = -1 := by
  induction m with
  | nil => rfl
  | cons y m ih =>
    have hy : y ≠ 10 := h y (by simp)
    have := ih fun z hz => h z (by simp [hz])
    rw [Lib.indexByte, if_neg (by simpa using hy), this]
    rfl
theorem lineLen_at (m x : Bs) (h : ∀ y ∈ m, y ≠ 10) : lineLen (m ++ 10 :: x) = m.length := by
  unfold lineLen; rw [indexByte_at m x h, if_pos (by omega)]; omega
theorem lineLen_not (m : Bs) (h : ∀ y ∈ m, y ≠ 10) : lineLen m = m.length := by
  unfold lineLen; rw [indexByte_not m h, if_neg (by omega)]
theorem cc_not {m : Bs} (h : ∀ y ∈ m, y ≠ 10) : ∀ y ∈ (47 : UInt8) :: 47 :: m, y ≠ 10 := by
  intro y hy
  simp only [List.mem_cons] at hy
  rcases hy with rfl | rfl | hy
  · decide
  · decide
  · exact h y hy
theorem blank47 : blankB 47 = false := by decide
theorem blank10 : blankB 10 = true := by decide
theorem pre_cc (x : Bs) : Lib.hasPrefix (47 :: 47 :: x) [47, 47] = true := by simp [Lib.hasPrefix]
theorem pre_cs (x : Bs) : Lib.hasPrefix (47 :: 42 :: x) [47, 47] = false ∧ Lib.hasPrefix (47 :: 42 :: x) [47, 42] = true := by constructor <;> rfl

theorem gap_skip {g : Bs} (h : Gap g) (y : Bs) : skipF (g ++ y) = skipF y := by
  induction h with
  | nil => rfl
  | blank c g hc _ ih => rw [List.cons_append, skipF_blank hc, ih]
  | line m g hm _ ih =>
    have e : (47 :: 47 :: (m ++ 10 :: g)) ++ y = (47 :: 47 :: m) ++ 10 :: (g ++ y) := by simp
    have hl := lineLen_at (47 :: 47 :: m) (g ++ y) (cc_not hm)
    rw [e]
    have e2 : (47 :: 47 :: m) ++ 10 :: (g ++ y) = 47 :: (47 :: (m ++ 10 :: (g ++ y))) := by simp
    rw [e2] at hl ⊢
    rw [skipF_line blank47 (pre_cc _), hl, ← e2, List.drop_left, skipF_blank blank10, ih]
  | block m g hm _ ih =>
    have e : (47 :: 42 :: (m ++ 42 :: 47 :: g)) ++ y = 47 :: (42 :: (m ++ 42 :: 47 :: (g ++ y))) := by simp
    have hi : Lib.index ((47 :: (42 :: (m ++ 42 :: 47 :: (g ++ y))) : Bs).drop 2) [42, 47] = m.length := by
      show Lib.index (m ++ 42 :: 47 :: (g ++ y)) [42, 47] = m.length
      have e3 : m ++ 42 :: 47 :: (g ++ y) = (m ++ [42, 47]) ++ (g ++ y) := by simp
      rw [e3, index_append _ _ _ (by rw [hm]; omega), hm]
    rw [e, skipF_shut blank47 (pre_cs _).1 (pre_cs _).2 (by rw [hi]; omega), hi, Int.toNat_natCast]
    have e4 : (47 :: (42 :: (m ++ 42 :: 47 :: (g ++ y))) : Bs) = (47 :: 42 :: (m ++ [42, 47])) ++ (g ++ y) := by simp
    rw [e4, List.drop_left' (by simp; omega), ih]
theorem gapE_skip {g : Bs} (h : GapE g) (y : Bs) : skipF (g ++ 10 :: y) = skipF y := by
  rcases h with h | ⟨g1, m, rfl, h1, hm⟩
  · rw [gap_skip h, skipF_blank blank10]
  · rw [List.append_assoc, gap_skip h1]
    have hl := lineLen_at (47 :: 47 :: m) y (cc_not hm)
    have e2 : (47 :: 47 :: m) ++ 10 :: y = 47 :: (47 :: (m ++ 10 :: y)) := by simp
    rw [e2] at hl ⊢
    rw [skipF_line blank47 (pre_cc _), hl, ← e2, List.drop_left, skipF_blank blank10]
theorem gapE_end {g : Bs} (h : GapE g) : skipF g = ([], 0) := by
  rcases h with h | ⟨g1, m, rfl, h1, hm⟩
  · have := gap_skip h []; simpa [skipF_nil] using this
  · rw [gap_skip h1]
    have hl := lineLen_not (47 :: 47 :: m) (cc_not hm)
    rw [skipF_line blank47 (pre_cc _), hl, List.drop_length, skipF_nil]

def Stops (r : Bs) : Prop := ∃ c t, r = c :: t ∧ blankB c = false ∧ Lib.hasPrefix r [47, 47] = false ∧ Lib.hasPrefix r [47, 42] = false
def Opens (r : Bs) : Prop := ∃ t, r = 47 :: 42 :: t ∧ Lib.index t [42, 47] < 0
theorem Stops.skip {r : Bs} (h : Stops r) : skipF r = (r, 0) := by
  obtain ⟨c, t, rfl, h1, h2, h3⟩ := h; exact skipF_stop h1 h2 h3
theorem Opens.skip {r : Bs} (h : Opens r) : skipF r = (r, 13) := by
  obtain ⟨t, rfl, h1⟩ := h; exact skipF_open blank47 (pre_cs _).1 (pre_cs _).2 h1
theorem split10 : ∀ m : Bs, (∀ y ∈ m, y ≠ 10) ∨ ∃ a b : Bs, m = a ++ 10 :: b ∧ ∀ y ∈ a, y ≠ 10 := by
  intro m
  induction m with
  | nil => left; simp
  | cons x m ih =>
    by_cases hx : x = 10
    · right; exact ⟨[], m, by simp [hx], by simp⟩
    · rcases ih with h | ⟨a, b, rfl, h⟩
      · left; intro y hy; simp only [List.mem_cons] at hy; (rcases hy with rfl | hy); exact hx; exact h y hy
      · right; exact ⟨x :: a, b, by simp, by intro y hy; simp only [List.mem_cons] at hy; (rcases hy with rfl | hy); exact hx; exact h y hy⟩
theorem pre_two {a b : UInt8} {r : Bs} (h : Lib.hasPrefix r [a, b] = true) : ∃ t, r = a :: b :: t := by
  unfold Lib.hasPrefix at h
  obtain ⟨t, ht⟩ := List.isPrefixOf_iff_prefix.1 h
  exact ⟨t, by rw [← ht]; rfl⟩
theorem index_split {t : Bs} (h : 0 ≤ Lib.index t [42, 47]) : ∃ m g : Bs, t = m ++ 42 :: 47 :: g ∧ Lib.index (m ++ [42, 47]) [42, 47] = m.length := by
  induction t with
  | nil => exact absurd h (by decide)
  | cons b l ih =>
    by_cases hp : ([42, 47] : Bs).isPrefixOf (b :: l) = true
    · obtain ⟨g, hg⟩ := List.isPrefixOf_iff_prefix.1 hp
      exact ⟨[], g, by rw [← hg]; rfl, by decide⟩
    · have h1 : Lib.index (b :: l) [42, 47] = if Lib.index l [42, 47] == -1 then -1 else Lib.index l [42, 47] + 1 := by rw [Lib.index, if_neg hp]
      rw [h1] at h
      have hge := Lib.index_ge l [42, 47]
      have hne : ¬ Lib.index l [42, 47] = -1 := by
        intro e; rw [e] at h; simp at h
      obtain ⟨m, g, rfl, hm⟩ := ih (by omega)
      refine ⟨b :: m, g, by simp, ?_⟩
      have hp2 : ¬ ([42, 47] : Bs).isPrefixOf (b :: (m ++ [42, 47])) = true := by
        intro hq
        apply hp
        rw [List.isPrefixOf_iff_prefix] at hq ⊢
        have e3 : b :: (m ++ 42 :: 47 :: g) = (b :: (m ++ [42, 47])) ++ g := by simp
        rw [e3]
        exact hq.trans (List.prefix_append _ _)
      rw [List.cons_append, Lib.index, if_neg hp2, hm]
      simp only [beq_iff_eq, List.length_cons]
      split
      · omega
      · omega

/-- What a skip comes to. -/
theorem skip_cases : ∀ (n : Nat) (r : Bs), r.length ≤ n → (∃ g r', r = g ++ r' ∧ Gap g ∧ (Stops r' ∨ Opens r')) ∨ GapE r := by
  intro n
  induction n with
  | zero =>
    intro r h
    have : r = [] := List.eq_nil_of_length_eq_zero (by omega)
    subst this
    exact .inr (.inl .nil)
  | succ n ih =>
    intro r h
    cases r with
    | nil => exact .inr (.inl .nil)
    | cons c t =>
      simp only [List.length_cons] at h
      cases hb : blankB c with
      | true =>
        rcases ih t (by omega) with ⟨g, r', rfl, hg, hs⟩ | hg | ⟨g1, m, rfl, hg, hm⟩
        · exact .inl ⟨c :: g, r', rfl, .blank c g hb hg, hs⟩
        · exact .inr (.inl (.blank c t hb hg))
        · exact .inr (.inr ⟨c :: g1, m, rfl, .blank c g1 hb hg, hm⟩)
      | false =>
        cases h1 : Lib.hasPrefix (c :: t) [47, 47] with
        | true =>
          obtain ⟨u, hu⟩ := pre_two h1
          injection hu with hc ht
          subst hc ht
          rcases split10 u with hn | ⟨a, b, rfl, ha⟩
          · exact .inr (.inr ⟨[], u, rfl, .nil, hn⟩)
          · simp only [List.length_cons, List.length_append] at h
            rcases ih b (by omega) with ⟨g, r', rfl, hg, hs⟩ | hg | ⟨g1, m, rfl, hg, hm⟩
            · exact .inl ⟨47 :: 47 :: (a ++ 10 :: g), r', by simp, .line a g ha hg, hs⟩
            · exact .inr (.inl (.line a b ha hg))
            · exact .inr (.inr ⟨47 :: 47 :: (a ++ 10 :: g1), m, by simp, .line a g1 ha hg, hm⟩)
        | false =>
          cases h2 : Lib.hasPrefix (c :: t) [47, 42] with
          | true =>
            obtain ⟨u, hu⟩ := pre_two h2
            injection hu with hc ht
            subst hc ht
            by_cases h3 : Lib.index u [42, 47] < 0
            · exact .inl ⟨[], _, rfl, .nil, .inr ⟨u, rfl, h3⟩⟩
            · obtain ⟨m0, b, rfl, hm0⟩ := index_split (t := u) (by omega)
              simp only [List.length_cons, List.length_append] at h
              rcases ih b (by omega) with ⟨g, r', rfl, hg, hs⟩ | hg | ⟨g1, m, rfl, hg, hm⟩
              · exact .inl ⟨47 :: 42 :: (m0 ++ 42 :: 47 :: g), r', by simp, .block m0 g hm0 hg, hs⟩
              · exact .inr (.inl (.block m0 b hm0 hg))
              · exact .inr (.inr ⟨47 :: 42 :: (m0 ++ 42 :: 47 :: g1), m, by simp, .block m0 g1 hm0 hg, hm⟩)
          | false => exact .inl ⟨[], _, rfl, .nil, .inl ⟨c, t, rfl, hb, h1, h2⟩⟩
end Go.Proofs.YtmpahpnacpfhoaaDoor
