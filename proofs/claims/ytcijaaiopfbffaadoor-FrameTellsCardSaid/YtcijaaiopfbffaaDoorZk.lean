/- A block that fits: blockFits. No condition. -/
import Derived.Test.YtcijaaiopfbffaaDoorZj
import Derived.BigQuiet
import Derived.Deep.QuietTactic
namespace Go.Proofs.YtcijaaiopfbffaaDoor.Live
open Go.RowKit Go.Proofs.YtcijaaiopfbffaaDoor.Graph Go.Shelf

attribute [local go_sem] Oper.semAt_some
section
variable {l bx n₀ b o ga oa n : Nat} {x : PBlk} {vk vc vt : Value} {w : World}
/-- How a list of instructions lies, at a place. -/
theorem ins_at {w : World} {v : Value} {l : List PIns} (h : CodeR w v l) {k : Nat} (hk : k < l.length) : ∃ b o c x va vr, v = .slice (some ⟨b, o, none⟩) l.length c ∧ l[k]? = some x ∧ InsR w b (o + k * 8) x va vr ∧ b < w.heap.size ∧ l.length ≤ c ∧ c ≤ 9223372036854775807 := by
  obtain ⟨b, o, c, h1, h2, h3, h4⟩ := SlR.form2 h (by omega)
  obtain ⟨x, hx⟩ : ∃ x, l[k]? = some x := ⟨_, List.getElem?_eq_getElem hk⟩
  obtain ⟨va, vr, h5⟩ := h4 k hk x hx
  exact ⟨b, o, c, x, va, vr, h1, hx, h5, h3, h2.1, h2.2⟩
/-- How an instruction's arguments lie. -/
theorem args_at {w : World} {va : Value} {l : List Int} (h : IntsR w va l) : ∃ p c ga oa, va = .slice p l.length c ∧ (0 < l.length → p = some ⟨ga, oa, none⟩ ∧ l.length ≤ c) ∧ l.length ≤ 9223372036854775807 ∧ ∀ k, k < l.length → w.cell? ⟨ga, oa + k, none⟩ = some (.int .i64 (l.getD k 0)) ∧ ga < w.heap.size := by
  rcases h with ⟨h0, p, c, rfl⟩ | ⟨b, o, c, h1, h2, h3, h4, h5⟩
  · exact ⟨p, c, 0, 0, by rw [h0], by omega, by omega, fun k hk => by omega⟩
  · refine ⟨some ⟨b, o, none⟩, c, b, o, h1, fun _ => ⟨rfl, h3.1⟩, by omega, fun k hk => ⟨?_, h4⟩⟩
    have := h5 k hk (l.getD k 0) (by rw [List.getD_eq_getElem?_getD, List.getElem?_eq_getElem hk]; rfl)
    rwa [Nat.mul_one] at this
/-- What the addresses hold. -/
theorem used_cells {b o ga oa : Nat} {x : PIns} {va vr : Value} {w : World} (hR : InsR w b o x va vr) (hb : b < w.heap.size) (ha : ∀ k, k < x.args.length → w.cell? ⟨ga, oa + k, none⟩ = some (.int .i64 (x.args.getD k 0)) ∧ ga < w.heap.size) :
    ∀ y ∈ usedAt b o ga oa x, w.cell? y.1 = some (.int .i64 y.2) ∧ y.1.block < w.heap.size := by
  intro y hy
  unfold usedAt at hy
  split at hy
  · unfold argAt at hy
    obtain ⟨k, hk, rfl⟩ := List.mem_map.1 hy
    exact ha k (List.mem_range.1 hk)
  · split at hy
    · rcases List.mem_cons.1 hy with rfl | hy
      · exact ⟨hR.fa, hb⟩
      · split at hy
        · rw [List.mem_singleton] at hy; subst hy; exact ⟨hR.fb, hb⟩
        · cases hy
    · cases hy
theorem usedE_cells {b o : Nat} {x : PEnd} {vc vt : Value} {w : World} (hR : EndR w b o x vc vt) (hb : b < w.heap.size) : ∀ y ∈ usedEAt b o x, w.cell? y.1 = some (.int .i64 y.2) ∧ y.1.block < w.heap.size := by
  intro y hy
  unfold usedEAt at hy
  rcases List.mem_append.1 hy with hy | hy
  · split at hy
    · rw [List.mem_singleton] at hy; subst hy; exact ⟨hR.fa, hb⟩
    · cases hy
  · split at hy
    · rw [List.mem_singleton] at hy; subst hy; exact ⟨hR.fb, hb⟩
    · cases hy
end
end Go.Proofs.YtcijaaiopfbffaaDoor.Live
