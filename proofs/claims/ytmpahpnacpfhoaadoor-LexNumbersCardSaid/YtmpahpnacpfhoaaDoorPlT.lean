/- What the laws on Lex ask: two texts put together, a text parted anew, a blank more at the end. -/
import Derived.Test.YtmpahpnacpfhoaaDoorPlS
namespace Go.Proofs.YtmpahpnacpfhoaaDoor

theorem behind_line (y z : Bs) : Behind y (y ++ 10 :: z) := by
  cases y with
  | nil => exact .inr ⟨10, z, rfl, blank10⟩
  | cons c y => exact .inl rfl
theorem lx_glue {a b : Bs} {us vs : List Tok} (ha : Lx a us) (hb : Lx b vs) : Lx (a ++ 10 :: b) (us ++ vs) := by
  induction ha with
  | fin a hg =>
    cases hb with
    | fin _ hg2 => exact .fin _ (gapE_gapE hg hg2)
    | tok g x y t ts hg2 hs hx hr h =>
      have e : a ++ 10 :: (g ++ (x ++ y)) = (a ++ 10 :: g) ++ (x ++ y) := by simp
      rw [e]
      exact .tok _ x y t ts (gapE_gap hg hg2) hs hx hr h
  | tok g x y t ts hg hs hx hr _ ih =>
    have e : g ++ (x ++ y) ++ 10 :: b = g ++ (x ++ (y ++ 10 :: b)) := by simp
    rw [e]
    exact .tok g x _ t _ hg (stops_behind hs hx (behind_line y b)) hx (readL_stop hx hr (behind_line y b)) ih

/-- Where the next token begins, or the text ends. -/
def nextOf (n : Nat) : List PTok → Nat
  | [] => n
  | (_, b) :: _ => b
/-- The pieces from token to token, each with s behind it. -/
def parts (l s : Bs) : List PTok → Bs
  | [] => []
  | (_, b) :: ps => (l.drop b).take (nextOf l.length ps - b) ++ s ++ parts l s ps

theorem lp_next {l : Bs} {a : Nat} {ps : List PTok} (h : Lp l a ps) : a ≤ nextOf l.length ps ∧ nextOf l.length ps ≤ l.length := by
  cases h with
  | fin a ha _ => exact ⟨ha, Nat.le_refl _⟩
  | tok a b n t ts hab hbn hn _ _ _ _ => exact ⟨hab, by show b ≤ l.length; omega⟩

theorem lx_parts {l s : Bs} (hs10 : Gap s) : ∀ {a : Nat} {ps : List PTok}, Lp l a ps →
    Lx ((l.drop a).take (nextOf l.length ps - a) ++ 10 :: s ++ parts l (10 :: s) ps) (ps.map (·.1)) ∧ Lx (parts l (10 :: s) ps) (ps.map (·.1)) := by
  intro a ps h
  induction h with
  | fin a ha hg =>
    refine ⟨?_, .fin _ (.inl .nil)⟩
    have e : (l.drop a).take (nextOf l.length [] - a) = l.drop a := by
      rw [List.take_of_length_le]; rw [List.length_drop]; exact Nat.le_refl _
    rw [e]
    have e2 : l.drop a ++ 10 :: s ++ parts l (10 :: s) [] = l.drop a ++ 10 :: s := by simp [parts]
    rw [e2]
    exact .fin _ (.inl (gapE_gap hg hs10))
  | tok a b n t us hab hbn hn hg hst hr hlp ih =>
    obtain ⟨ih, _⟩ := ih
    obtain ⟨hn1, hn2⟩ := lp_next hlp
    have h2 : l.drop b = (l.drop b).take n ++ l.drop (b + n) := by
      have := (List.take_append_drop n (l.drop b)).symm
      rw [List.drop_drop] at this
      exact this
    have h3 : ((l.drop b).take n).length = n := by rw [List.length_take, List.length_drop]; omega
    obtain ⟨G, hG⟩ : ∃ G, G = (l.drop (b + n)).take (nextOf l.length us - (b + n)) := ⟨_, rfl⟩
    have h4 : (l.drop b).take (nextOf l.length us - b) = (l.drop b).take n ++ G := by
      rw [hG]
      have e : nextOf l.length us - b = n + (nextOf l.length us - (b + n)) := by omega
      rw [e, List.take_add, List.drop_drop]
    have hb : Behind (l.drop (b + n)) (G ++ 10 :: s ++ parts l (10 :: s) us) := by
      cases G with
      | nil => exact .inr ⟨10, s ++ parts l (10 :: s) us, by simp, blank10⟩
      | cons c G =>
        left
        cases hd : l.drop (b + n) with
        | nil => rw [hd] at hG; simp at hG
        | cons d u =>
          rw [hd] at hG
          cases hk : nextOf l.length us - (b + n) with
          | zero => rw [hk] at hG; simp at hG
          | succ k =>
            rw [hk, List.take_succ_cons] at hG
            injection hG with hG _
            simp [hG]
    rw [← hG] at ih
    have hT : Lx ((l.drop b).take n ++ (G ++ 10 :: s ++ parts l (10 :: s) us)) (t :: us.map (·.1)) :=
      .tok [] _ _ t _ .nil (stops_behind (by rw [← h2]; exact hst) (by rw [h3]; exact hn) hb) (by rw [h3]; exact hn) (readL_stop (by rw [h3]; exact hn) (by rw [← h2, h3]; exact hr) hb) ih
    have e5 : parts l (10 :: s) ((t, b) :: us) = (l.drop b).take n ++ (G ++ 10 :: s ++ parts l (10 :: s) us) := by
      simp only [parts]; rw [h4]; simp
    refine ⟨?_, by rw [e5]; exact hT⟩
    have e6 : (l.drop a).take (nextOf l.length ((t, b) :: us) - a) = (l.drop a).take (b - a) := rfl
    rw [e5, e6]
    have hgs : Gap ((l.drop a).take (b - a) ++ 10 :: s) := gap_append hg (.blank 10 s blank10 hs10)
    exact .tok _ _ _ t _ hgs (stops_behind (by rw [← h2]; exact hst) (by rw [h3]; exact hn) hb) (by rw [h3]; exact hn) (readL_stop (by rw [h3]; exact hn) (by rw [← h2, h3]; exact hr) hb) ih

theorem parts_len {l s : Bs} : ∀ {a : Nat} {ps : List PTok}, Lp l a ps → (parts l s ps).length + nextOf l.length ps ≤ l.length + ps.length * s.length := by
  intro a ps h
  induction h with
  | fin a ha hg => simp [parts, nextOf]
  | tok a b n t us hab hbn hn hg hst hr hlp ih =>
    obtain ⟨hn1, hn2⟩ := lp_next hlp
    simp only [parts, List.length_append, List.length_take, List.length_drop, List.length_cons, Nat.add_mul, Nat.one_mul]
    show _ + b ≤ _
    omega

theorem index_snoc {c : UInt8} (hc : c ≠ 47) : ∀ t : Bs, Lib.index t [42, 47] < 0 → Lib.index (t ++ [c]) [42, 47] < 0 := by
  intro t
  induction t with
  | nil => intro _; rw [List.nil_append, Lib.index]; simp [List.isPrefixOf, Lib.index]
  | cons b l ih =>
    intro h
    have hp : ¬ ([42, 47] : Bs).isPrefixOf (b :: l) = true := by
      intro hp; rw [Lib.index, if_pos hp] at h; omega
    rw [Lib.index, if_neg hp] at h
    have hge := Lib.index_ge l [42, 47]
    have hl : Lib.index l [42, 47] < 0 := by
      rcases Int.lt_or_le (Lib.index l [42, 47]) 0 with h1 | h1
      · exact h1
      · rw [if_neg (by simp; omega)] at h; omega
    have h2 := ih hl
    have hge2 := Lib.index_ge (l ++ [c]) [42, 47]
    have hp2 : ¬ ([42, 47] : Bs).isPrefixOf (b :: (l ++ [c])) = true := by
      intro hq
      cases l with
      | nil =>
        simp only [List.nil_append, List.isPrefixOf_cons_cons, List.isPrefixOf_nil_left, Bool.and_true, Bool.and_eq_true, beq_iff_eq] at hq
        exact hc hq.2.symm
      | cons d l =>
        apply hp
        simpa only [List.cons_append, List.isPrefixOf_cons_cons, List.isPrefixOf_nil_left, Bool.and_true] using hq
    rw [List.cons_append, Lib.index, if_neg hp2, if_pos (by simp; omega)]
    omega

theorem blank_ne47 {c : UInt8} (hc : blankB c = true) : c ≠ 47 := by
  intro h; subst h; rw [blank47] at hc; cases hc
theorem stops_snoc {r : Bs} {c : UInt8} (h : Stops r) (hc : blankB c = true) : Stops (r ++ [c]) :=
  stops_behind (x := r) (y := []) (by simpa using h) (List.length_pos_iff.2 h.ne) (.inr ⟨c, [], rfl, hc⟩)
theorem opens_snoc {r : Bs} {c : UInt8} (h : Opens r) (hc : blankB c = true) : Opens (r ++ [c]) := by
  obtain ⟨t, rfl, h1⟩ := h
  exact ⟨t ++ [c], rfl, index_snoc (blank_ne47 hc) t h1⟩
theorem gapE_snoc {g : Bs} {c : UInt8} (h : GapE g) (hc : blankB c = true) : GapE (g ++ [c]) := by
  rcases h with h | ⟨g1, m, rfl, h1, hm⟩
  · exact .inl (gap_append h (.blank c [] hc .nil))
  · by_cases h10 : c = 10
    · subst h10
      have e : g1 ++ 47 :: 47 :: m ++ [10] = g1 ++ 47 :: 47 :: (m ++ 10 :: []) := by simp
      rw [e]
      exact .inl (gap_append h1 (.line m [] hm .nil))
    · refine .inr ⟨g1, m ++ [c], by simp, h1, ?_⟩
      intro x hx
      simp only [List.mem_append, List.mem_cons, List.not_mem_nil, or_false] at hx
      rcases hx with hx | rfl
      · exact hm x hx
      · exact h10

def AlikeR (R R' : List PTok × Nat × Nat) : Prop := R'.2 = R.2 ∧ R'.1.map (·.1) = R.1.map (·.1)

theorem lexL_blank {c : UInt8} (hc : blankB c = true) (l : Bs) : ∀ (f f' a : Nat) (ts ts' : List PTok), a ≤ l.length → l.length - a < f → l.length + 1 - a < f' → ts'.map (·.1) = ts.map (·.1) →
    AlikeR (lexL f l a ts) (lexL f' (l ++ [c]) a ts') := by
  intro f
  induction f with
  | zero => intro f' a ts ts' _ h; omega
  | succ f ih =>
    intro f' a ts ts' ha hf hf' hm
    obtain ⟨f', rfl⟩ : ∃ g, f' = g + 1 := ⟨f' - 1, by omega⟩
    have hml : ts'.length = ts.length := by simpa using congrArg List.length hm
    have hl' : (l ++ [c]).length = l.length + 1 := by simp
    have hd : (l ++ [c]).drop a = l.drop a ++ [c] := List.drop_append_of_le_length ha
    obtain ⟨e1, e2, e3⟩ := skipAt_P l a ha
    obtain ⟨d1, d2, d3⟩ := skipAt_P (l ++ [c]) a (by omega)
    rw [hd] at d1 d2 d3
    rcases skip_cases _ (l.drop a) (Nat.le_refl _) with ⟨g, r', hr, hg, hs⟩ | hg
    · have hlen : (l.drop a).length = g.length + r'.length := by rw [hr]; simp
      rw [List.length_drop] at hlen
      have hass : l.drop a ++ [c] = g ++ (r' ++ [c]) := by rw [hr]; simp
      rcases hs with hs | ho
      · have hF : skipF (l.drop a) = (r', 0) := by rw [hr, gap_skip hg, hs.skip]
        have hF' : skipF (l.drop a ++ [c]) = (r' ++ [c], 0) := by rw [hass, gap_skip hg, (stops_snoc hs hc).skip]
        rw [hF] at e1 e2 e3
        rw [hF'] at d1 d2 d3
        simp only [List.length_append, List.length_cons, List.length_nil] at e1 e2 e3 d1 d2 d3
        have hr0 : 0 < r'.length := List.length_pos_iff.2 hs.ne
        obtain ⟨b, hb⟩ : ∃ b, (skipAt l a).1 = b := ⟨_, rfl⟩
        rw [hb] at e1 e3
        have hb' : (skipAt (l ++ [c]) a).1 = b := by omega
        rw [hb'] at d3
        have hsk : skipAt l a = (b, 0) := by ext; exact hb; exact e2
        have hsk' : skipAt (l ++ [c]) a = (b, 0) := by ext; exact hb'; exact d2
        have hrd : readL ((l ++ [c]).drop b) = readL (l.drop b) := by rw [d3, e3, readL_blank hr0 hc]
        by_cases he : (readL (l.drop b)).2.2 = 0
        · by_cases hmn : ts.length = 3999
          · rw [lex_many hsk (by omega) he hmn, lex_many hsk' (by omega) (by rw [hrd]; exact he) (by omega)]
            exact ⟨rfl, rfl⟩
          · rw [lex_on hsk (by omega) he hmn, lex_on hsk' (by omega) (by rw [hrd]; exact he) (by omega), hrd]
            have hl := readL_len (l := l.drop b) (by rw [e3]; exact hr0) he
            rw [List.length_drop] at hl
            exact ih f' _ _ _ (by omega) (by omega) (by omega) (by simp [hm])
        · rw [lex_err hsk (by omega) he, lex_err hsk' (by omega) (by rw [hrd]; exact he), hrd]
          exact ⟨rfl, rfl⟩
      · have hF : skipF (l.drop a) = (r', 13) := by rw [hr, gap_skip hg, ho.skip]
        have hF' : skipF (l.drop a ++ [c]) = (r' ++ [c], 13) := by rw [hass, gap_skip hg, (opens_snoc ho hc).skip]
        rw [hF] at e1 e2
        rw [hF'] at d1 d2
        simp only [List.length_append, List.length_cons, List.length_nil] at e1 e2 d1 d2
        have hsk : skipAt l a = ((skipAt l a).1, 13) := by ext; rfl; exact e2
        have hsk' : skipAt (l ++ [c]) a = ((skipAt l a).1, 13) := by ext; omega; exact d2
        rw [lex_skipErr hsk, lex_skipErr hsk']
        exact ⟨rfl, rfl⟩
    · rw [lex_end (skip_fin ha hg), lex_end (skip_fin (by omega) (by rw [hd]; exact gapE_snoc hg hc))]
      exact ⟨rfl, by simp [hm]⟩
theorem lexAll_blank {c : UInt8} (hc : blankB c = true) (l : Bs) (h : l.length < 20000) : AlikeR (lexAll l) (lexAll (l ++ [c])) := by
  unfold lexAll
  rw [if_neg (by omega), if_neg (by simp; omega)]
  have hl' : (l ++ [c]).length = l.length + 1 := by simp
  exact lexL_blank hc l _ _ 0 [] [] (Nat.zero_le _) (by omega) (by omega) rfl
end Go.Proofs.YtmpahpnacpfhoaaDoor
