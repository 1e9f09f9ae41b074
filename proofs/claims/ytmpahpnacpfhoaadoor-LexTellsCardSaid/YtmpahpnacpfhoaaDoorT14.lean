/- One step of the document's own answer at a time: plain facts. -/
import Derived.Test.YtmpahpnacpfhoaaDoorT4
namespace Go.Proofs.YtmpahpnacpfhoaaDoor
open Go.RowKit
theorem pre_len2 {l : Bs} {x y : UInt8} (h : Lib.hasPrefix l [x, y] = true) : 2 ≤ l.length := by
  unfold Lib.hasPrefix at h
  simpa using (List.isPrefixOf_iff_prefix.1 h).length_le
theorem skipL_fuel : ∀ (f g : Nat) (l : Bs) (a : Nat), l.length - a < f → l.length - a < g → skipL f l a = skipL g l a := by
  intro f
  induction f with
  | zero => intro g l a h; omega
  | succ f ih =>
    intro g l a hf hg
    obtain ⟨g, rfl⟩ : ∃ g', g = g' + 1 := ⟨g - 1, by omega⟩
    by_cases hlt : a < l.length
    · cases hb : blankB (l.getD a 0) with
      | true => rw [skip_blank hlt hb, skip_blank hlt hb]; exact ih g l (a + 1) (by omega) (by omega)
      | false =>
        cases h1 : Lib.hasPrefix (l.drop a) [47, 47] with
        | true =>
          have := lineLen_pos h1
          rw [skip_line hlt hb h1, skip_line hlt hb h1]; exact ih g l _ (by omega) (by omega)
        | false =>
          cases h2 : Lib.hasPrefix (l.drop a) [47, 42] with
          | true =>
            by_cases h3 : Lib.index ((l.drop a).drop 2) [42, 47] < 0
            · rw [skip_open hlt hb h1 h2 h3, skip_open hlt hb h1 h2 h3]
            · rw [skip_shut hlt hb h1 h2 h3, skip_shut hlt hb h1 h2 h3]; exact ih g l _ (by omega) (by omega)
          | false => rw [skip_stop hlt hb h1 h2, skip_stop hlt hb h1 h2]
    · rw [skip_end hlt, skip_end hlt]
theorem skipAt_blank {l : Bs} {a : Nat} (h : a < l.length) (hb : blankB (l.getD a 0) = true) : skipAt l a = skipAt l (a + 1) := by
  unfold skipAt
  rw [skip_blank h hb]; exact skipL_fuel _ _ _ _ (by omega) (by omega)
theorem cmt_facts {l : Bs} {a : Nat} (h : a < l.length) (hb : blankB (l.getD a 0) = false) :
    (cmt l a = -2 ∧ skipAt l a = (a, 13)) ∨ (cmt l a = -1 ∧ skipAt l a = (a, 0)) ∨ ∃ e : Nat, cmt l a = e ∧ a < e ∧ e ≤ l.length ∧ skipAt l a = skipAt l e := by
  have hd : (l.drop a).length = l.length - a := List.length_drop
  cases h1 : Lib.hasPrefix (l.drop a) [47, 47] with
  | true =>
    right; right
    have hp := lineLen_pos h1
    have hl := lineLen_le (l.drop a)
    refine ⟨a + lineLen (l.drop a), by unfold cmt; rw [if_pos h1]; omega, by omega, by omega, ?_⟩
    unfold skipAt
    rw [skip_line h hb h1]; exact skipL_fuel _ _ _ _ (by omega) (by omega)
  | false =>
    cases h2 : Lib.hasPrefix (l.drop a) [47, 42] with
    | true =>
      have h22 := pre_len2 h2
      have hr := index_room [42, 47] (by simp) ((l.drop a).drop 2)
      rw [List.length_drop, hd] at hr
      simp only [List.length_cons, List.length_nil, Nat.zero_add, Nat.reduceAdd] at hr
      by_cases h3 : Lib.index ((l.drop a).drop 2) [42, 47] < 0
      · left
        exact ⟨by unfold cmt; rw [if_neg (by rw [h1]; simp), if_pos h2, if_pos h3], by unfold skipAt; rw [skip_open h hb h1 h2 h3]⟩
      · right; right
        have hr' := hr (by omega)
        refine ⟨a + (2 + (Lib.index ((l.drop a).drop 2) [42, 47]).toNat + 2), by unfold cmt; rw [if_neg (by rw [h1]; simp), if_pos h2, if_neg h3]; omega, by omega, by omega, ?_⟩
        unfold skipAt
        rw [skip_shut h hb h1 h2 h3]; exact skipL_fuel _ _ _ _ (by omega) (by omega)
    | false =>
      right; left
      exact ⟨by unfold cmt; rw [if_neg (by rw [h1]; simp), if_neg (by rw [h2]; simp)], by unfold skipAt; rw [skip_stop h hb h1 h2]⟩
theorem lexL_same {f : Nat} {l : Bs} {a b : Nat} {ts : List PTok} (h : skipAt l a = skipAt l b) : lexL (f + 1) l a ts = lexL (f + 1) l b ts := by
  rw [lexL, lexL, h]
end Go.Proofs.YtmpahpnacpfhoaaDoor
