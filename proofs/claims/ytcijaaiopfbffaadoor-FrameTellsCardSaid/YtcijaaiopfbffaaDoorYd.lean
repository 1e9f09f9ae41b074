/- Sorting by picking: plainly. -/
import Derived.Test.YtcijaaiopfbffaaDoorYc
namespace Go.Proofs.YtcijaaiopfbffaaDoor.Graph
open Go.RowKit

def okLo (lo : Option Int) (x : Int) : Bool := match lo with | none => true | some a => decide (a < x)
def okHi (acc : Option Int) (x : Int) : Bool := match acc with | none => true | some m => decide (x < m)
def pick (lo acc : Option Int) (x : Int) : Option Int := if okLo lo x && okHi acc x then some x else acc
def least (lo : Option Int) (l : List Int) : Option Int := l.foldl (pick lo) none
theorem least_take {lo : Option Int} {l : List Int} {k : Nat} {x : Int} (hx : l[k]? = some x) : least lo (l.take (k + 1)) = pick lo (least lo (l.take k)) x := by
  unfold least
  rw [List.take_add_one, hx, Option.toList_some, List.foldl_append]
  rfl
theorem foldl_spec (lo : Option Int) : ∀ (l : List Int) (acc : Option Int), (l.foldl (pick lo) acc = none → acc = none ∧ ∀ x ∈ l, okLo lo x = false) ∧
    ∀ m, l.foldl (pick lo) acc = some m → (acc = some m ∨ (m ∈ l ∧ okLo lo m = true)) ∧ (∀ a, acc = some a → m ≤ a) ∧ ∀ x ∈ l, okLo lo x = true → m ≤ x
  | [], acc => ⟨fun h => ⟨h, fun _ h => by cases h⟩, fun m h => ⟨.inl h, fun a ha => by rw [List.foldl_nil] at h; rw [h] at ha; injection ha with ha; omega, fun _ h => by cases h⟩⟩
  | y :: l, acc => by
    obtain ⟨h1, h2⟩ := foldl_spec lo l (pick lo acc y)
    rw [List.foldl_cons]
    refine ⟨fun h => ?_, fun m h => ?_⟩
    · obtain ⟨h3, h4⟩ := h1 h
      unfold pick at h3
      split at h3
      · cases h3
      · rename_i hc
        subst h3
        refine ⟨rfl, fun x hx => ?_⟩
        rcases List.mem_cons.1 hx with rfl | hx
        · simpa [okHi] using hc
        · exact h4 x hx
    · obtain ⟨h3, h4, h5⟩ := h2 m h
      unfold pick at h3 h4
      by_cases hc : (okLo lo y && okHi acc y) = true
      · rw [if_pos hc] at h3 h4
        obtain ⟨hc1, hc2⟩ := Bool.and_eq_true_iff.1 hc
        have hmy := h4 y rfl
        refine ⟨.inr ?_, fun a ha => ?_, fun x hx hok => ?_⟩
        · rcases h3 with h3 | ⟨h3, h3'⟩
          · injection h3 with h3; subst h3; exact ⟨List.mem_cons_self, hc1⟩
          · exact ⟨List.mem_cons_of_mem _ h3, h3'⟩
        · subst ha
          have : y < a := by simpa [okHi] using hc2
          omega
        · rcases List.mem_cons.1 hx with rfl | hx
          · exact hmy
          · exact h5 x hx hok
      · rw [if_neg hc] at h3 h4
        refine ⟨?_, h4, fun x hx hok => ?_⟩
        · rcases h3 with h3 | ⟨h3, h3'⟩
          · exact .inl h3
          · exact .inr ⟨List.mem_cons_of_mem _ h3, h3'⟩
        · rcases List.mem_cons.1 hx with rfl | hx
          · cases acc with
            | none => exact absurd (by rw [hok]; rfl) hc
            | some a =>
              have h6 := h4 a rfl
              have : ¬ x < a := fun hlt => hc (by rw [hok]; simpa [okHi] using hlt)
              omega
          · exact h5 x hx hok
/-- What a sorted list that names each thing once is. -/
structure Strict (l S : List Int) : Prop where
  mono : S.Pairwise (· < ·)
  mem : ∀ x, x ∈ S ↔ x ∈ l
def loAt (S : List Int) (k : Nat) : Option Int := if k = 0 then none else S[k - 1]?
theorem strict_get {S : List Int} (h : S.Pairwise (· < ·)) {i j : Nat} {x y : Int} (hij : i < j) (hx : S[i]? = some x) (hy : S[j]? = some y) : x < y := by
  obtain ⟨hi, rfl⟩ := List.getElem?_eq_some_iff.1 hx
  obtain ⟨hj, rfl⟩ := List.getElem?_eq_some_iff.1 hy
  exact List.pairwise_iff_getElem.1 h i j hi hj hij
theorem least_is {l S : List Int} (h : Strict l S) {k : Nat} (hk : k ≤ S.length) : least (loAt S k) l = S[k]? := by
  obtain ⟨h1, h2⟩ := foldl_spec (loAt S k) l none
  have hlo : ∀ (j : Nat) x, S[j]? = some x → (okLo (loAt S k) x = true ↔ k ≤ j) := fun j x hx => by
    unfold loAt
    by_cases h0 : k = 0
    · rw [if_pos h0]; simp [okLo, h0]
    · rw [if_neg h0]
      have hk1 : k - 1 < S.length := by omega
      have hy : S[k - 1]? = some S[k - 1] := List.getElem?_eq_getElem hk1
      rw [hy]
      simp only [okLo, decide_eq_true_eq]
      rcases Nat.lt_trichotomy (k - 1) j with hlt | heq | hgt
      · exact ⟨fun _ => by omega, fun _ => strict_get h.mono hlt hy hx⟩
      · subst heq
        rw [hy] at hx
        injection hx with hx
        constructor
        · intro hh; omega
        · intro hh; omega
      · have := strict_get h.mono hgt hx hy
        constructor
        · intro hh; omega
        · intro hh; omega
  cases hr : least (loAt S k) l with
  | none =>
    obtain ⟨_, h3⟩ := h1 hr
    cases hs : S[k]? with
    | none => rfl
    | some m =>
      have hm := (h.mem m).1 (List.mem_of_getElem? hs)
      have := (hlo k m hs).2 (Nat.le_refl _)
      rw [h3 m hm] at this
      cases this
  | some m =>
    obtain ⟨h3, _, h5⟩ := h2 m hr
    rcases h3 with h3 | ⟨h3, h3'⟩
    · cases h3
    · obtain ⟨j, hj⟩ := List.mem_iff_getElem?.1 ((h.mem m).2 h3)
      have hkj := (hlo j m hj).1 h3'
      have hjl : j < S.length := by
        rcases Nat.lt_or_ge j S.length with h | h
        · exact h
        · rw [List.getElem?_eq_none h] at hj; cases hj
      have hs : S[k]? = some S[k] := List.getElem?_eq_getElem (by omega)
      have h6 := h5 S[k] ((h.mem _).1 (List.getElem_mem _)) ((hlo k _ hs).2 (Nat.le_refl _))
      rw [hs]
      rcases Nat.lt_or_ge k j with hlt | hge
      · have := strict_get h.mono hlt hs hj
        omega
      · obtain rfl : j = k := by omega
        rw [hs] at hj
        exact hj.symm
theorem compact_strict {d : Array Int} (hd : ∀ i j, i < j → j < d.size → d[i]! ≤ d[j]!) : ∀ m, m ≤ d.size →
    (Lib.compactUpTo d m).Pairwise (· < ·) ∧ ∀ x, x ∈ Lib.compactUpTo d m ↔ ∃ j, j < m ∧ d[j]! = x
  | 0, _ => by simp [Lib.compactUpTo]
  | m + 1, hm => by
    obtain ⟨h1, h2⟩ := compact_strict hd m (by omega)
    rw [Lib.compactUpTo_succ]
    by_cases hk : Lib.keeps d m = true
    · rw [if_pos hk]
      refine ⟨List.pairwise_append.2 ⟨h1, List.pairwise_singleton _ _, fun a ha b hb => ?_⟩, fun x => ?_⟩
      · obtain ⟨j, hj, rfl⟩ := (h2 a).1 ha
        obtain rfl := List.mem_singleton.1 hb
        have hm0 : m ≠ 0 := by omega
        have hne : d[m]! ≠ d[m - 1]! := by simpa [Lib.keeps, hm0] using hk
        have h3 : d[m - 1]! ≤ d[m]! := hd _ _ (by omega) (by omega)
        have h4 : d[j]! ≤ d[m - 1]! := by
          rcases Nat.lt_or_ge j (m - 1) with h | h
          · exact hd _ _ h (by omega)
          · obtain rfl : j = m - 1 := by omega
            exact Int.le_refl _
        omega
      · rw [List.mem_append, List.mem_singleton, h2]
        constructor
        · rintro (⟨j, hj, rfl⟩ | rfl)
          · exact ⟨j, by omega, rfl⟩
          · exact ⟨m, by omega, rfl⟩
        · rintro ⟨j, hj, rfl⟩
          rcases Nat.lt_or_ge j m with h | h
          · exact .inl ⟨j, h, rfl⟩
          · obtain rfl : j = m := by omega
            exact .inr rfl
    · rw [if_neg hk, List.append_nil]
      refine ⟨h1, fun x => ?_⟩
      have hk' : ¬ (m = 0 ∨ d[m]! ≠ d[m - 1]!) := by simpa [Lib.keeps] using hk
      have hm0 : m ≠ 0 := fun h => hk' (.inl h)
      have he : d[m]! = d[m - 1]! := Classical.byContradiction fun h => hk' (.inr h)
      rw [h2]
      constructor
      · rintro ⟨j, hj, rfl⟩; exact ⟨j, by omega, rfl⟩
      · rintro ⟨j, hj, rfl⟩
        rcases Nat.lt_or_ge j m with h | h
        · exact ⟨j, h, rfl⟩
        · obtain rfl : j = m := by omega
          exact ⟨j - 1, by omega, he.symm⟩
theorem sorted_strict (l : List Int) : Strict l (Lib.compact (sortL l)) := by
  have hp : (sortL l).Pairwise (· ≤ ·) := by
    have h := List.pairwise_mergeSort (le := fun x y : Int => decide (x ≤ y)) (fun a b c h1 h2 => by simp at *; omega) (fun a b => by simp; omega) l
    exact h.imp (fun h => by simpa using h)
  have hd : ∀ i j, i < j → j < (sortL l).toArray.size → (sortL l).toArray[i]! ≤ (sortL l).toArray[j]! := fun i j hij hj => by
    have hj' : j < (sortL l).length := by simpa using hj
    have h := List.pairwise_iff_getElem.1 hp i j (by omega) hj' hij
    rw [getElem!_pos _ i (by simp; omega), getElem!_pos _ j hj]
    simpa using h
  obtain ⟨h1, h2⟩ := compact_strict hd (sortL l).length (by simp)
  refine ⟨h1, fun x => ?_⟩
  rw [show x ∈ l ↔ x ∈ sortL l from (List.mem_mergeSort).symm]
  unfold Lib.compact
  rw [h2, List.mem_iff_getElem]
  constructor
  · rintro ⟨j, hj, rfl⟩
    exact ⟨j, hj, by rw [getElem!_pos _ j (by simpa using hj)]; simp⟩
  · rintro ⟨j, hj, rfl⟩
    exact ⟨j, hj, by rw [getElem!_pos _ j (by simpa using hj)]; simp⟩
end Go.Proofs.YtcijaaiopfbffaaDoor.Graph
