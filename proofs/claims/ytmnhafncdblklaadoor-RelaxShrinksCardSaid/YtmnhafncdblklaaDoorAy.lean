/- What the program writes is what the document asks, plainly. No condition. -/
import Derived.Test.YtmnhafncdblklaaDoorAx
namespace Go.Proofs.YtmnhafncdblklaaDoor.Relax
open Go.RowKit Go.Proofs.YtmnhafncdblklaaDoor.Enc Go.Proofs.YtmnhafncdblklaaDoor.Graph

theorem fine_all {l : List PL} (h : firstErr (lineErr l) 0 l.length = none) : ∀ x ∈ l, Fine x := fun x hx => by
  obtain ⟨i, hi⟩ := List.mem_iff_getElem?.1 hx
  have hlt : i < l.length := (List.getElem?_eq_some_iff.1 hi).1
  have h1 := firstErr_none h i (Nat.zero_le _) (by omega)
  rw [lineErr_wrong hi] at h1
  unfold Fine
  by_cases h2 : wrongL x = 0
  · exact h2
  · rw [if_neg h2] at h1; exact absurd h1 h2
/-- Where the program stands behind all rounds. -/
structure Fin (l : List PL) (S : List Nat) (r : Nat → Int) (t : Nat) : Prop where
  tk : Taken l
  sz : l.length ≤ 60000
  rt : RT l S [] r t
theorem Fin.long {l : List PL} {S : List Nat} {r : Nat → Int} {t : Nat} (h : Fin l S r t) : longP l = (flagS l S, t + 1) := h.rt.done h.tk h.sz
theorem Fin.wd {l : List PL} {S : List Nat} {r : Nat → Int} {t : Nat} (h : Fin l S r t) {k : Nat} (hk : k < (partsP l).length) : wdR (partAt (partsP l) k) (r k) = wdS (partsP l) S k := by
  have hm := h.rt.rs.mem k
  rw [List.append_nil] at hm
  unfold wdR wdS
  cases hn : nearB (r k) with
  | true =>
    have : k ∉ S := fun hS => by rw [(hm.1 hS).2.2] at hn; cases hn
    rw [if_pos rfl, if_neg this]; omega
  | false =>
    rw [if_neg (by simp)]
    by_cases h0 : (partAt (partsP l) k).more = 0
    · rw [h0]; split <;> rfl
    · rw [if_pos (hm.2 ⟨hk, h0, hn⟩)]
theorem Fin.st {l : List PL} {S : List Nat} {r : Nat → Int} {t : Nat} (h : Fin l S r t) : ∀ k, k ≤ (partsP l).length → stR (partsP l) r k = stS (partsP l) S k
  | 0, _ => rfl
  | k + 1, hk => by
    show stR (partsP l) r k + _ = stS (partsP l) S k + _
    rw [h.st k (by omega), h.wd (by omega)]
theorem Fin.place {l : List PL} {S : List Nat} {r : Nat → Int} {t : Nat} (h : Fin l S r t) {i : Nat} (hi : i ≤ l.length) : (placeP l (longP l).1 i : Int) = stR (partsP l) r (partN l i) := by
  rw [h.long]
  have h2 : partN l i ≤ (partsP l).length := by
    unfold partsP; rw [parts_len]
    obtain ⟨d, hd⟩ := Nat.exists_eq_add_of_le hi
    rw [hd]; exact partN_mono l i d
  rw [h.st _ h2]
  exact place_part l S i hi
theorem Fin.total {l : List PL} {S : List Nat} {r : Nat → Int} {t : Nat} (h : Fin l S r t) : (placeP l (longP l).1 l.length : Int) = stR (partsP l) r (partsP l).length := by
  rw [h.place (Nat.le_refl _)]
  unfold partsP
  rw [parts_len]
theorem Fin.at_ {l : List PL} {S : List Nat} {r : Nat → Int} {t : Nat} (h : Fin l S r t) {lab : Int} (hs : (standsAt l lab l.length).isSome = true) : placeL l (stR (partsP l) r) lab = atP l (longP l).1 lab := by
  have hb := toP_bd l lab
  rw [h.long]
  show stR (partsP l) r (toP l lab).toNat = atP l (flagS l S) lab
  rw [at_part S hs, h.st _ (by omega)]
theorem Fin.mono {l : List PL} {S : List Nat} {r : Nat → Int} {t : Nat} (h : Fin l S r t) {k : Nat} (hk : k ≤ (partsP l).length) : 0 ≤ stR (partsP l) r k ∧ stR (partsP l) r k ≤ stR (partsP l) r (partsP l).length := by
  have hw := parts_wf h.tk h.sz
  have h1 := stR_bd hw r k hk
  refine ⟨h1.1, ?_⟩
  rw [h.st k hk, h.st _ (Nat.le_refl _)]
  obtain ⟨d, hd⟩ := Nat.exists_eq_add_of_le hk
  have := stS_ge hw S k d (by omega)
  rw [← hd] at this
  omega
theorem putP_congr {x : PL} {reach : Int} {a1 a2 : Int → Int} (h : ∀ k ∈ goalsP x, a1 k = a2 k) : putP x reach a1 = putP x reach a2 := by
  have hlead : brB x.op = true ∨ x.op = 41 ∨ x.op = 43 → a1 x.label = a2 x.label := fun hl => h x.label (by
    unfold goalsP
    rw [if_pos (by unfold leadB; rcases hl with h1 | h1 | h1 <;> simp [h1])]; simp)
  have hlist : x.op = 42 → x.list.map (fun k => (a1 k, (3 : Int))) = x.list.map (fun k => (a2 k, 3)) := fun ho => by
    apply List.map_congr_left
    intro k hk
    rw [h k (by unfold goalsP; rw [if_neg (by rw [ho]; decide)]; exact hk)]
  unfold putP
  by_cases hb : brB x.op = true
  · rw [if_pos hb, if_pos hb, hlead (.inl hb)]
  · rw [if_neg hb, if_neg hb]
    by_cases h4 : x.op = 41 ∨ x.op = 43
    · rw [if_pos h4, if_pos h4, hlead (.inr h4)]
    · rw [if_neg h4, if_neg h4]
      by_cases h42 : x.op = 42
      · rw [if_pos h42, if_pos h42, hlist h42]
      · rw [if_neg h42, if_neg h42]
/-- The words of the first so many parts, as the program writes them. -/
def partW (l : List PL) (f : Nat → Int) (r : Nat → Int) : Nat → List (Int × Int)
  | 0 => []
  | k + 1 => partW l f r k ++ putP (lineAt l (partAt (partsP l) k).line.toNat) (r k) (placeL l f)
theorem part_lineno (l : List PL) (i : Nat) : (partP l i).line = i := by unfold partP; (repeat' split) <;> rfl
theorem goals_stand {l : List PL} (h : Taken l) {i : Nat} (hi : i < l.length) : ∀ k ∈ goalsP (lineAt l i), (standsAt l k l.length).isSome = true := fun k hk => by
  unfold goalsP at hk
  split at hk
  · rename_i hl
    have : k = (lineAt l i).label := by simpa using hk
    subst this
    exact h.goes hi (by rw [lead_goes]; exact hl)
  · exact h.list hi hk
theorem Fin.words {l : List PL} {S : List Nat} {r : Nat → Int} {t : Nat} (h : Fin l S r t) : ∀ i, i ≤ l.length → partW l (stR (partsP l) r) r (partN l i) = wordsN l (longP l).1 i
  | 0, _ => rfl
  | i + 1, hi => by
    have ih := h.words i (by omega)
    show _ = wordsN l (longP l).1 i ++ madeP (lineAt l i) (longAt (longP l).1 i) (placeP l (longP l).1 i) (atP l (longP l).1)
    by_cases ho : (lineAt l i).op = 0
    · rw [partN_same ho, ih]
      unfold madeP
      rw [if_pos ho, List.append_nil]
    · rw [partN_one ho]
      have hp := part_of l (by omega : i < l.length) ho
      show partW l _ r (partN l i) ++ putP (lineAt l (partAt (partsP l) (partN l i)).line.toNat) (r (partN l i)) _ = _
      rw [ih, hp.1, part_lineno, Int.toNat_natCast]
      congr 1
      rw [putP_congr (a2 := atP l (longP l).1) (fun k hk => h.at_ (goals_stand h.tk (by omega) k hk))]
      refine (made_put (h.tk.may (by omega)) ho (fun hb => ?_)).symm
      have hm : (partAt (partsP l) (partN l i)).more ≠ 0 := by rw [hp.1]; exact (more_br l ho).2 hb
      have hmem := h.rt.rs.mem (partN l i)
      rw [List.append_nil] at hmem
      have hlong : longAt (longP l).1 i = decide (partN l i ∈ S) := by
        rw [h.long, flag_at, Bool.eq_iff_iff]
        simp only [decide_eq_true_eq]
        exact ⟨fun h => h.2.2, fun h => ⟨by omega, ho, h⟩⟩
      rw [hlong]
      by_cases hS : partN l i ∈ S
      · rw [(hmem.1 hS).2.2]; simp [hS]
      · have hnear : nearB (r (partN l i)) = true := by
          cases hq : nearB (r (partN l i)) with
          | true => rfl
          | false => exact absurd (hmem.2 ⟨hp.2, hm, hq⟩) hS
        refine ⟨by rw [hnear]; simp [hS], fun _ => ?_⟩
        rw [near_val h.rt.rs.ri hp.2 hm hnear, ← disp_part h.tk S (by omega) hb hS]
        show dispP l (flagS l S) i = _
        rw [h.long]; rfl
theorem Fin.len {l : List PL} {S : List Nat} {r : Nat → Int} {t : Nat} (h : Fin l S r t) {k : Nat} (hk : k ≤ (partsP l).length) : ((partW l (stR (partsP l) r) r k).length : Int) = stR (partsP l) r k := by
  have h2 : k ≤ partN l l.length := by unfold partsP at hk; rwa [parts_len] at hk
  rcases Nat.eq_or_lt_of_le h2 with h3 | h3
  · rw [h3, h.words _ (Nat.le_refl _), words_len, h.place (Nat.le_refl _)]
  · obtain ⟨i, h4, h5, h6⟩ := part_line l l.length k h3
    rw [← h6, h.words i (by omega), words_len, h.place (by omega)]
/-- What is answered where all is well. -/
theorem Fin.asm {l : List PL} {S : List Nat} {r : Nat → Int} {t : Nat} (h : Fin l S r t) (hr : (refusedP l).2 = 0) (hs : stR (partsP l) r (partsP l).length ≤ 65536) :
    asmP l = (⟨(partW l (stR (partsP l) r) r (partsP l).length).map (·.1), (partW l (stR (partsP l) r) r (partsP l).length).map (·.2), (List.range l.length).map fun i => stR (partsP l) r (partN l i), t + 1⟩, 0, 0) := by
  have ht := h.total
  have hw := h.words l.length (Nat.le_refl _)
  have hpn : (partsP l).length = partN l l.length := by unfold partsP; rw [parts_len]
  unfold asmP
  rw [if_pos hr, if_neg (by omega)]
  rw [← hw, ← hpn]
  refine Prod.ext ?_ rfl
  simp only [Asm.mk.injEq, true_and]
  refine ⟨List.map_congr_left fun i hi => h.place (by have := List.mem_range.1 hi; omega), ?_⟩
  rw [h.long]; simp
theorem Fin.big {l : List PL} {S : List Nat} {r : Nat → Int} {t : Nat} (h : Fin l S r t) (hr : (refusedP l).2 = 0) (hs : ¬ stR (partsP l) r (partsP l).length ≤ 65536) : asmP l = (noAsm, 0, 174) := by
  have ht := h.total
  unfold asmP
  rw [if_pos hr, if_pos (by omega)]
end Go.Proofs.YtmnhafncdblklaaDoor.Relax
