/- To which side a branch is led: the program's own answer; plain facts on those that become far. No condition. -/
import Derived.Test.YtmnhafncdblklaaDoorAo
namespace Go.Proofs.YtmnhafncdblklaaDoor.Relax
open Go.RowKit Go.Proofs.YtmnhafncdblklaaDoor.Enc Go.Proofs.YtmnhafncdblklaaDoor.Graph

def pushV (more tt i l : Int) : Int := if more = 0 then 0 else if i < l ∧ l < tt then 1 else if tt ≤ l ∧ l ≤ i then -1 else 0
theorem pushV_is (ps : List PP) (i l : Nat) : pushP ps i l = pushV (partAt ps i).more (partAt ps i).to i l := by
  unfold pushP pushV
  by_cases h : (partAt ps i).more = 0
  · rw [if_pos h, if_pos h]
  · rw [if_neg h, if_neg h]
    (repeat' split) <;> omega
set_option maxHeartbeats 4000000 in
theorem pushed_prog (g o : Nat) (more tt i l : Int) (w : World) (_hl : g < w.heap.size) (c2 : w.cell? ⟨g, o + 2, none⟩ = some (.int .i64 more)) (c3 : w.cell? ⟨g, o + 3, none⟩ = some (.int .i64 tt)) :
    Calls Tryd.prog 64 #[.pointer (some ⟨g, o, none⟩), .int .i64 i, .int .i64 l] w fun e w' => e = .returned (.int .i64 (pushV more tt i l)) ∧ w' = w := by
  by_cases hm : more = 0
  · have HE := Lib.hid (show pushV more tt i l = 0 by unfold pushV; rw [if_pos hm])
    have g1 : (more == 0) = true := by simpa using hm
    clear hm
    go_enter Tryd.func64, Tryd.ntmps64
    go_wp2
    go_ret
    exact ⟨Relax.ret_int HE.out.symm, rfl⟩
  have g1 : (more == 0) = false := by simpa using hm
  by_cases h1 : i < l ∧ l < tt
  · have HE := Lib.hid (show pushV more tt i l = 1 by unfold pushV; rw [if_neg hm, if_pos h1])
    obtain ⟨a1, a2⟩ := h1
    have d1 : decide (i < l) = true := by simpa using a1
    have d2 : decide (l < tt) = true := by simpa using a2
    clear hm a1 a2
    go_enter Tryd.func64, Tryd.ntmps64
    go_wp2
    go_ret
    exact ⟨Relax.ret_int HE.out.symm, rfl⟩
  by_cases h2 : tt ≤ l ∧ l ≤ i
  · have HE := Lib.hid (show pushV more tt i l = -1 by unfold pushV; rw [if_neg hm, if_neg h1, if_pos h2])
    obtain ⟨a1, a2⟩ := h2
    have d1 : decide (i < l) = false := by simp; omega
    have d2 : decide (tt ≤ l) = true := by simpa using a1
    have d3 : decide (l ≤ i) = true := by simpa using a2
    clear hm a1 a2 h1
    go_enter Tryd.func64, Tryd.ntmps64
    go_wp2
    go_ret
    exact ⟨Relax.ret_int HE.out.symm, rfl⟩
  have HE := Lib.hid (show pushV more tt i l = 0 by unfold pushV; rw [if_neg hm, if_neg h1, if_neg h2])
  clear hm
  by_cases a1 : i < l
  · have a2 : ¬ l < tt := fun h => h1 ⟨a1, h⟩
    have d1 : decide (i < l) = true := by simpa using a1
    have d2 : decide (l < tt) = false := by simpa using a2
    by_cases a3 : tt ≤ l
    · have d3 : decide (tt ≤ l) = true := by simpa using a3
      have d4 : decide (l ≤ i) = false := by simp; omega
      clear a1 a2 a3 h1 h2
      go_enter Tryd.func64, Tryd.ntmps64
      go_wp2
      go_ret
      exact ⟨Relax.ret_int HE.out.symm, rfl⟩
    · omega
  · have d1 : decide (i < l) = false := by simpa using a1
    have d2 : decide (tt ≤ l) = false := by
      simp only [decide_eq_false_iff_not]
      exact fun h => h2 ⟨h, by omega⟩
    clear a1 h1 h2
    go_enter Tryd.func64, Tryd.ntmps64
    go_wp2
    go_ret
    exact ⟨Relax.ret_int HE.out.symm, rfl⟩
theorem nodup_lt : ∀ (n : Nat) (F : List Nat), F.Nodup → (∀ i ∈ F, i < n) → F.length ≤ n
  | 0, F, _, h => by
    cases F with
    | nil => simp
    | cons a F => have := h a (by simp); omega
  | n + 1, F, hd, h => by
    by_cases hn : n ∈ F
    · have h1 := nodup_lt n (F.erase n) (hd.erase n) (fun i hi => by
        have h2 := h i (List.mem_of_mem_erase hi)
        have h3 : i ≠ n := fun e => by subst e; exact (hd.not_mem_erase) hi
        omega)
      rw [List.length_erase_of_mem hn] at h1
      omega
    · have := nodup_lt n F hd (fun i hi => by
        have h2 := h i hi
        have h3 : i ≠ n := fun e => by subst e; exact hn hi
        omega)
      omega
/-- Those that have become far since. -/
structure FarOf (n : Nat) (r r' : Nat → Int) (F : List Nat) : Prop where
  mem : ∀ i, i ∈ F ↔ i < n ∧ nearB (r i) = true ∧ nearB (r' i) = false
  nd : F.Nodup
  stay : ∀ i, i < n → nearB (r i) = false → nearB (r' i) = false
theorem FarOf.len {n : Nat} {r r' : Nat → Int} {F : List Nat} (h : FarOf n r r' F) : F.length ≤ n := nodup_lt n F h.nd (fun i hi => ((h.mem i).1 hi).1)
theorem FarOf.refl (n : Nat) (r : Nat → Int) : FarOf n r r [] := ⟨fun i => by simp, List.nodup_nil, fun _ _ h => h⟩
theorem FarOf.same {n : Nat} {r r' : Nat → Int} {F : List Nat} (h : FarOf n r r' F) {j : Nat} {v : Int} (he : nearB v = nearB (r' j)) : FarOf n r (turnR r' j v) F := by
  have e : ∀ i, nearB (turnR r' j v i) = nearB (r' i) := fun i => by
    unfold turnR
    by_cases h1 : i = j
    · subst h1; rw [if_pos rfl, he]
    · rw [if_neg h1]
  exact ⟨fun i => by rw [e]; exact h.mem i, h.nd, fun i hi hr => by rw [e]; exact h.stay i hi hr⟩
theorem FarOf.more {n : Nat} {r r' : Nat → Int} {F : List Nat} (h : FarOf n r r' F) {j : Nat} {v : Int} (hj : j < n) (h1 : nearB (r' j) = true) (h2 : nearB v = false) : FarOf n r (turnR r' j v) (F ++ [j]) := by
  have hr : nearB (r j) = true := by
    cases hq : nearB (r j) with
    | true => rfl
    | false => rw [h.stay j hj hq] at h1; cases h1
  have hjF : j ∉ F := fun hm => by rw [((h.mem j).1 hm).2.2] at h1; cases h1
  refine ⟨fun i => ?_, ?_, fun i hi hri => ?_⟩
  · rw [List.mem_append]
    by_cases e : i = j
    · subst e
      rw [turnR_same]
      exact ⟨fun _ => ⟨hj, hr, h2⟩, fun _ => .inr (by simp)⟩
    · rw [turnR_other _ _ e, ← h.mem i]
      exact ⟨fun hh => hh.elim id (fun hh => absurd (by simpa using hh) e), .inl⟩
  · rw [List.nodup_append]
    exact ⟨h.nd, by simp, fun a ha b hb => by
      have : b = j := by simpa using hb
      subst this
      intro e; subst e; exact hjF ha⟩
  · by_cases e : i = j
    · subst e; rw [turnR_same]; exact h2
    · rw [turnR_other _ _ e]; exact h.stay i hi hri
/-- A round's end. -/
theorem spread_rs {ps : List PP} {S L F : List Nat} {r r' : Nat → Int} (h : RS ps S L r) (h1 : RI ps (S ++ L) r') (h2 : FarOf ps.length r r' F) : RS ps (S ++ L) F r' := by
  refine ⟨h1, ?_, fun i => ?_⟩
  · rw [List.nodup_append]
    refine ⟨h.nd, h2.nd, fun a ha b hb e => ?_⟩
    subst e
    have h3 := (h.mem a).1 ha
    have h4 := (h2.mem a).1 hb
    rw [h4.2.1] at h3; cases h3.2.2
  · rw [List.mem_append, h.mem i, h2.mem i]
    constructor
    · rintro (⟨a1, a2, a3⟩ | ⟨a1, a2, a3⟩)
      · exact ⟨a1, a2, h2.stay i a1 a3⟩
      · refine ⟨a1, fun hm => ?_, a3⟩
        rw [h1.nb i a1 hm] at a3; cases a3
    · rintro ⟨a1, a2, a3⟩
      cases hq : nearB (r i) with
      | false => exact .inl ⟨a1, a2, rfl⟩
      | true => exact .inr ⟨a1, rfl, a3⟩
theorem NatsR.keepZ {w w' : World} {Z Y : Nat} {v : Value} {F : List Nat} (h : NatsR w Z v F) (hy : ∀ q, v.ownBlock = some q → q < Y) (hb : Below Y w w') : NatsR w' Z v F := by
  obtain ⟨h1, ⟨h2, h3⟩ | ⟨g', cap, cur, h2, h3, h4, h5⟩⟩ := h
  · exact ⟨h1, .inl ⟨h2, h3⟩⟩
  · exact ⟨h1, .inr ⟨g', cap, cur, h2, h3, (hb.block g' (hy g' (by rw [h2]; rfl))).trans h4, h5⟩⟩
end Go.Proofs.YtmnhafncdblklaaDoor.Relax
