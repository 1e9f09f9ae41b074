/- list[int] and list[Case] of what lies: the same list, in a block of its own. -/
import Derived.Test.YtacbfjinellonaaKa
import Derived.Test.YtacbfjinellonaaHf
import Derived.Test.YtacbfjinellonaaIf
namespace Go.Proofs.Ytacbfjinellonaa.Graph
open Go.RowKit

/-- A block of cells none of which is frozen. -/
def Unf (w : World) (b : Nat) : Prop := ∃ cs t, w.heap[b]? = some (.cells cs t (0, 0))
/-- A block from B on, not frozen. -/
def New (B : Nat) (w : World) (b : Nat) : Prop := B ≤ b ∧ Unf w b
def CopiedI (l : List Int) (w : World) (e : Ending) (w' : World) : Prop := ∃ q d, e = .returned (.slice q l.length d) ∧ IntsR (cutW (New w.heap.size w') w') (.slice q l.length d) l ∧ Below w.heap.size w w'
theorem cut_new {w' : World} {B b : Nat} {cs : Array Value} {t : TypeId} (hB : B ≤ b) (h : w'.heap[b]? = some (.cells cs t (0, 0))) {k : Nat} {v : Value} (hk : cs[k]? = some v) : (cutW (New B w') w').cell? ⟨b, k, none⟩ = some v :=
  cutW_cell.2 ⟨⟨hB, _, _, h⟩, (cell_of_block h hk).1⟩
theorem copyI_any (l : List Int) (p : Option Addr) (c : Nat) (w : World) (h : IntsR w (.slice p l.length c) l) (hb : l.length * 8 ≤ reachBytes) :
    Calls Try.prog 41 #[.slice p l.length c] w (CopiedI l w) := by
  unfold reachBytes at hb
  have h0 : p = none → l.length = 0 := fun hp => by
    rcases h with ⟨h0, _⟩ | ⟨b, o, c', hv, _⟩
    · exact h0
    · injection hv with hv; rw [hp] at hv; cases hv
  refine (listI_any p l.length c (l.map iv) w h0 (by simp) (fun a ha j v hj => ?_) mem_iv (by omega) (by omega)).mono fun e w' hp => ?_
  · rw [List.getElem?_map] at hj
    obtain ⟨x, hx, rfl⟩ := Option.map_eq_some_iff.1 hj
    have hjl : j < l.length := by
      rcases Nat.lt_or_ge j l.length with h | h
      · exact h
      · rw [List.getElem?_eq_none h] at hx; cases hx
    obtain ⟨b, o, c', hv, _, _, hc⟩ := SlR.form2 h (by omega)
    injection hv with hv
    rw [ha] at hv
    injection hv with hv
    subst hv
    rw [add_none]
    have := hc j hjl x hx
    rwa [Nat.mul_one] at this
  · rcases hp with ⟨hp, rfl, rfl⟩ | ⟨_, rfl, rfl⟩
    · have hl := h0 hp
      exact ⟨none, 0, by rw [hl], .inl ⟨hl, _, _, by rw [hl]⟩, Below.refl _ _⟩
    · refine ⟨_, _, rfl, ?_, below_alloc w _⟩
      rcases Nat.eq_zero_or_pos l.length with hl | hl
      · exact .inl ⟨hl, _, _, by rw [hl]⟩
      · refine .inr ⟨w.heap.size, 0, l.length, rfl, hl, ⟨Nat.le_refl _, by omega⟩, by rw [cutW_size, World.size_alloc]; omega, fun i hi x hx => ?_⟩
        refine cut_new (Nat.le_refl _) (heap_new w _) ?_
        simp [hx, iv]
def caseCs (l : List PCase) : List Value := l.flatMap fun x => [.int .u32 x.n, .int .i64 x.to]
theorem caseCs_len (l : List PCase) : (caseCs l).length = l.length * 2 := by
  induction l with
  | nil => rfl
  | cons x l ih => simp only [caseCs, List.flatMap_cons, List.length_append, List.length_cons, List.length_nil] at ih ⊢; omega
theorem caseCs_at {l : List PCase} {i : Nat} {x : PCase} (h : l[i]? = some x) : (caseCs l)[i * 2]? = some (.int .u32 x.n) ∧ (caseCs l)[i * 2 + 1]? = some (.int .i64 x.to) := by
  induction l generalizing i with
  | nil => simp at h
  | cons y l ih =>
    cases i with
    | zero => injection h with h; subst h; exact ⟨rfl, rfl⟩
    | succ i =>
      have h2 := ih (i := i) (by simpa using h)
      have e1 : (i + 1) * 2 = i * 2 + 1 + 1 := by omega
      rw [e1]
      exact h2
theorem caseCs_get {l : List PCase} {j : Nat} {v : Value} (h : (caseCs l)[j]? = some v) : ∃ i x, l[i]? = some x ∧ ((j = i * 2 ∧ v = .int .u32 x.n) ∨ (j = i * 2 + 1 ∧ v = .int .i64 x.to)) := by
  have hj : j < (caseCs l).length := by
    rcases Nat.lt_or_ge j (caseCs l).length with h2 | h2
    · exact h2
    · rw [List.getElem?_eq_none h2] at h; cases h
  rw [caseCs_len] at hj
  have hi : j / 2 < l.length := by omega
  refine ⟨j / 2, l[j / 2], List.getElem?_eq_getElem hi, ?_⟩
  obtain ⟨h1, h2⟩ := caseCs_at (List.getElem?_eq_getElem hi)
  rcases Nat.mod_two_eq_zero_or_one j with hm | hm
  · have e : j = j / 2 * 2 := by omega
    left; refine ⟨e, ?_⟩
    rw [← e, h] at h1; injection h1
  · have e : j = j / 2 * 2 + 1 := by omega
    right; refine ⟨e, ?_⟩
    rw [← e, h] at h2; injection h2
def CopiedC (l : List PCase) (w : World) (e : Ending) (w' : World) : Prop := ∃ q d, e = .returned (.slice q l.length d) ∧ CasesR (cutW (New w.heap.size w') w') (.slice q l.length d) l ∧ Below w.heap.size w w'
theorem copyC_any (l : List PCase) (p : Option Addr) (c : Nat) (w : World) (h : CasesR w (.slice p l.length c) l) (hb : l.length * 16 ≤ reachBytes) :
    Calls Try.prog 98 #[.slice p l.length c] w (CopiedC l w) := by
  unfold reachBytes at hb
  have h0 : p = none → l.length = 0 := fun hp => by
    rcases h with ⟨h0, _⟩ | ⟨b, o, c', hv, _⟩
    · exact h0
    · injection hv with hv; rw [hp] at hv; cases hv
  refine (listC_any p l.length c (caseCs l) w h0 (caseCs_len l) (fun a ha j v hj => ?_) (fun v hv => ?_) (by omega) (by omega)).mono fun e w' hp => ?_
  · obtain ⟨i, x, hx, hor⟩ := caseCs_get hj
    have hil : i < l.length := by
      rcases Nat.lt_or_ge i l.length with h | h
      · exact h
      · rw [List.getElem?_eq_none h] at hx; cases hx
    obtain ⟨b, o, c', hv, _, _, hc⟩ := SlR.form2 h (by omega)
    injection hv with hv
    rw [ha] at hv
    injection hv with hv
    subst hv
    rw [add_none]
    obtain ⟨h1, h2⟩ := hc i hil x hx
    rcases hor with ⟨rfl, rfl⟩ | ⟨rfl, rfl⟩
    · exact h1
    · rw [← Nat.add_assoc]; exact h2
  · obtain ⟨j, hj⟩ := List.mem_iff_getElem?.1 hv
    obtain ⟨i, x, _, ⟨_, rfl⟩ | ⟨_, rfl⟩⟩ := caseCs_get hj <;> rfl
  · rcases hp with ⟨hp, rfl, rfl⟩ | ⟨_, rfl, rfl⟩
    · have hl := h0 hp
      exact ⟨none, 0, by rw [hl], .inl ⟨hl, _, _, by rw [hl]⟩, Below.refl _ _⟩
    · refine ⟨_, _, rfl, ?_, below_alloc w _⟩
      rcases Nat.eq_zero_or_pos l.length with hl | hl
      · exact .inl ⟨hl, _, _, by rw [hl]⟩
      · refine .inr ⟨w.heap.size, 0, l.length, rfl, hl, ⟨Nat.le_refl _, by omega⟩, by rw [cutW_size, World.size_alloc]; omega, fun i hi x hx => ?_⟩
        obtain ⟨h1, h2⟩ := caseCs_at hx
        refine ⟨cut_new (Nat.le_refl _) (heap_new w _) ?_, cut_new (Nat.le_refl _) (heap_new w _) ?_⟩
        · rw [Nat.zero_add]; simpa using h1
        · rw [Nat.zero_add]; simpa using h2
end Go.Proofs.Ytacbfjinellonaa.Graph
