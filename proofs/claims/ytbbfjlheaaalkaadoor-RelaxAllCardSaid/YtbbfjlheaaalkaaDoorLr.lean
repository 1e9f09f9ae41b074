/- Lines in rows of one's own: their cells, one behind the other. No condition. -/
import Derived.Test.YtbbfjlheaaalkaaDoorRx0
import Derived.Test.YtbbfjlheaaalkaaDoorOp
namespace Go.Proofs.YtbbfjlheaaalkaaDoor.Relax
open Go.RowKit Go.Proofs.YtbbfjlheaaalkaaDoor.Enc Go.Proofs.YtbbfjlheaaalkaaDoor.Graph

def lineCs (p : PL × Value) : List Value := [iv p.1.op, iv p.1.a, iv p.1.b, iv p.1.imm, .int .u32 p.1.n, iv p.1.label, p.2]
def flatL (ps : List (PL × Value)) : List Value := ps.flatMap lineCs
theorem flat_cons (p : PL × Value) (ps : List (PL × Value)) : flatL (p :: ps) = lineCs p ++ flatL ps := by simp [flatL]
theorem flat_app (ps qs : List (PL × Value)) : flatL (ps ++ qs) = flatL ps ++ flatL qs := by simp [flatL]
theorem flat_len : ∀ ps : List (PL × Value), (flatL ps).length = ps.length * 7
  | [] => rfl
  | p :: ps => by rw [flat_cons, List.length_append, flat_len ps]; show 7 + _ = (ps.length + 1) * 7; omega
theorem flat_get : ∀ (ps : List (PL × Value)) (i j : Nat) (p : PL × Value), ps[i]? = some p → j < 7 → (flatL ps)[i * 7 + j]? = (lineCs p)[j]?
  | [], i, j, p, h, _ => by simp at h
  | q :: ps, 0, j, p, h, hj => by
    simp at h
    subst h
    rw [flat_cons, Nat.zero_mul, Nat.zero_add, List.getElem?_append_left (by exact hj)]
  | q :: ps, i + 1, j, p, h, hj => by
    have e : (i + 1) * 7 + j = (lineCs q).length + (i * 7 + j) := by show _ = 7 + _; omega
    rw [flat_cons, e, List.getElem?_append_right (Nat.le_add_right _ _), Nat.add_sub_cancel_left]
    exact flat_get ps i j p (by simpa using h) hj
theorem flat_at {ps : List (PL × Value)} {k : Nat} {u : Value} (h : (flatL ps)[k]? = some u) : ∃ i j p, k = i * 7 + j ∧ j < 7 ∧ ps[i]? = some p ∧ (lineCs p)[j]? = some u := by
  have hk : k < ps.length * 7 := by rw [← flat_len]; exact (List.getElem?_eq_some_iff.1 h).1
  have e : k = k / 7 * 7 + k % 7 := by omega
  have h2 : k / 7 < ps.length := by omega
  refine ⟨k / 7, k % 7, ps[k / 7], e, by omega, List.getElem?_eq_getElem h2, ?_⟩
  rw [← flat_get ps (k / 7) (k % 7) _ (List.getElem?_eq_getElem h2) (by omega), ← e]
  exact h
theorem flat_take (ps : List (PL × Value)) (i : Nat) (j : Nat) (u : Value) (h : (flatL (ps.take i))[j]? = some u) : (flatL ps)[j]? = some u := by
  have e : flatL ps = flatL (ps.take i) ++ flatL (ps.drop i) := by rw [← flat_app, List.take_append_drop]
  have hj := (List.getElem?_eq_some_iff.1 h).1
  rw [e, List.getElem?_append_left hj]; exact h
theorem flat_drop (ps : List (PL × Value)) (i : Nat) (hi : i ≤ ps.length) (j : Nat) (u : Value) (h : (flatL (ps.drop i))[j]? = some u) : (flatL ps)[i * 7 + j]? = some u := by
  have e : flatL ps = flatL (ps.take i) ++ flatL (ps.drop i) := by rw [← flat_app, List.take_append_drop]
  have e2 : i * 7 = (flatL (ps.take i)).length := by rw [flat_len, List.length_take, Nat.min_eq_left hi]
  rw [e, e2, List.getElem?_append_right (Nat.le_add_right _ _), Nat.add_sub_cancel_left]; exact h
/-- Each list of a row of lines lies somewhere. -/
def ListsAt (w : World) (ps : List (PL × Value)) : Prop := ∀ q ∈ ps, IntsR w q.2 q.1.list
theorem ListsAt.below {w w' : World} {ps : List (PL × Value)} (h : ListsAt w ps) (hb : Below w.heap.size w w') : ListsAt w' ps := fun q hq => (h q hq).below hb
theorem ListsAt.app {w : World} {ps qs : List (PL × Value)} (h : ListsAt w ps) (k : ListsAt w qs) : ListsAt w (ps ++ qs) := fun q hq => by
  rcases List.mem_append.1 hq with h1 | h1
  · exact h q h1
  · exact k q h1
theorem ListsAt.take {w : World} {ps : List (PL × Value)} (h : ListsAt w ps) (i : Nat) : ListsAt w (ps.take i) := fun q hq => h q (List.mem_of_mem_take hq)
theorem ListsAt.drop {w : World} {ps : List (PL × Value)} (h : ListsAt w ps) (i : Nat) : ListsAt w (ps.drop i) := fun q hq => h q (List.mem_of_mem_drop hq)
theorem ListsAt.one {w : World} {ps : List (PL × Value)} (h : ListsAt w ps) : ∀ u ∈ flatL ps, u.oneCell' = true := by
  intro u hu
  unfold flatL at hu
  obtain ⟨q, hq, hu⟩ := List.mem_flatMap.1 hu
  obtain ⟨p, c, e⟩ := (h q hq).form
  unfold lineCs iv at hu
  simp only [List.mem_cons, List.not_mem_nil, or_false] at hu
  rcases hu with rfl | rfl | rfl | rfl | rfl | rfl | rfl
  all_goals first | rfl | (rw [e]; rfl)
theorem lines_open {w : World} {p : Option Addr} {n c : Nat} {l : List PL} (h : LinesR w (.slice p n c) l) : ∃ ps : List (PL × Value), ps.map (·.1) = l ∧ ListsAt w ps ∧ n = l.length ∧
    (0 < n → ∃ g o, p = some ⟨g, o, none⟩ ∧ g < w.heap.size ∧ (∀ j u, (flatL ps)[j]? = some u → w.cell? ⟨g, o + j, none⟩ = some u) ∧ n ≤ c ∧ c ≤ 9223372036854775807) := by
  rcases h with ⟨hz, p', c', h1⟩ | ⟨g, o, c', h1, hn, hc, hg, hat⟩
  · injection h1 with h1 h2 h3
    refine ⟨[], by rw [List.length_eq_zero_iff.1 hz]; rfl, fun q hq => (by cases hq), by omega, fun h => by omega⟩
  · injection h1 with h1 h2 h3
    subst h1 h2 h3
    obtain ⟨vs, hv, hr⟩ := choose_list (R := fun i (vl : Value) => ∃ x, l[i]? = some x ∧ LineR w g (o + i * 7) x vl) (n := l.length) (fun i hi => by
      obtain ⟨vl, hvl⟩ := hat i hi _ (List.getElem?_eq_getElem hi)
      exact ⟨vl, _, List.getElem?_eq_getElem hi, hvl⟩)
    have hz : ∀ {i : Nat} {q : PL × Value}, (l.zip vs)[i]? = some q → LineR w g (o + i * 7) q.1 q.2 := by
      intro i q hq
      rw [List.getElem?_zip_eq_some] at hq
      obtain ⟨x, h3, h4⟩ := hr i q.2 hq.2
      rw [hq.1] at h3
      injection h3 with h3
      rw [h3]; exact h4
    refine ⟨l.zip vs, List.map_fst_zip (by omega), fun q hq => ?_, rfl, fun _ => ⟨g, o, rfl, hg, fun j u hu => ?_, hc.1, hc.2⟩⟩
    · obtain ⟨i, hi⟩ := List.mem_iff_getElem?.1 hq
      exact (hz hi).list
    · obtain ⟨i, k, q, rfl, hk, hq, hu⟩ := flat_at hu
      have hL := hz hq
      rw [show o + (i * 7 + k) = o + i * 7 + k by omega]
      match k, hk with
      | 0, _ => injection hu with hu; subst hu; exact hL.op
      | 1, _ => injection hu with hu; subst hu; exact hL.fa
      | 2, _ => injection hu with hu; subst hu; exact hL.fb
      | 3, _ => injection hu with hu; subst hu; exact hL.imm
      | 4, _ => injection hu with hu; subst hu; exact hL.n
      | 5, _ => injection hu with hu; subst hu; exact hL.label
      | 6, _ => injection hu with hu; subst hu; exact hL.cl
theorem row_at {w : World} {B : Nat} {t : TypeId} {sz : Nat} {v : Value} {n : Nat} {xs : List Value} (h : w.ownsRow B t sz v n xs) (hn : 0 < n) :
    ∃ g cap, v = .slice (some ⟨g, 0, none⟩) n cap ∧ B ≤ g ∧ n ≤ cap ∧ cap ≤ 9223372036854775807 ∧ g < w.heap.size ∧ ∀ (o : Nat) (y : Value), xs[o]? = some y → w.cell? ⟨g, o, none⟩ = some y := by
  obtain ⟨h1, ⟨_, h0⟩ | ⟨g, cap, cur, rfl, h3, h4, h5, h6, h7, h8⟩⟩ := h
  · omega
  · refine ⟨g, cap, rfl, h3, h5, h6, lt_of_block h4, fun o y hy => ?_⟩
    refine cell_of_block h4 ?_
    rw [← h8, List.getElem?_take] at hy
    split at hy
    · rw [← Array.getElem?_toList]; exact hy
    · cases hy
theorem lines_of_own {w : World} {B : Nat} {t : TypeId} {v : Value} {n : Nat} {ps : List (PL × Value)} (h : w.ownsRow B t 7 v n (flatL ps)) (hn : n = ps.length) (hl : ListsAt w ps) : LinesR w v (ps.map (·.1)) := by
  subst hn
  rcases Nat.eq_zero_or_pos ps.length with h0 | h0
  · obtain ⟨_, ⟨rfl, _⟩ | ⟨g, cap, cur, rfl, _⟩⟩ := h
    · exact .inl ⟨by simpa using h0, _, _, rfl⟩
    · exact .inl ⟨by simpa using h0, _, _, by rw [h0]⟩
  · obtain ⟨g, cap, rfl, _, h3, h4, h5, h6⟩ := row_at h h0
    refine .inr ⟨g, 0, cap, by simp, by simpa using h0, by simpa using ⟨h3, h4⟩, h5, fun i hi x hx => ?_⟩
    rw [List.getElem?_map] at hx
    obtain ⟨q, hq, rfl⟩ := Option.map_eq_some_iff.1 hx
    have hj : ∀ j u, j < 7 → (lineCs q)[j]? = some u → w.cell? ⟨g, 0 + i * 7 + j, none⟩ = some u := fun j u hj hu => by
      rw [Nat.zero_add]
      exact h6 _ _ (by rw [flat_get ps i j q hq hj]; exact hu)
    exact ⟨q.2, hj 0 _ (by omega) rfl, hj 1 _ (by omega) rfl, hj 2 _ (by omega) rfl, hj 3 _ (by omega) rfl, hj 4 _ (by omega) rfl, hj 5 _ (by omega) rfl, hj 6 _ (by omega) rfl, hl q (List.mem_of_getElem? hq)⟩
end Go.Proofs.YtbbfjlheaaalkaaDoor.Relax
