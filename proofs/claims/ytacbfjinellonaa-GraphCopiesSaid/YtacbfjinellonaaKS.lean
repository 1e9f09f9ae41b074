/- The document's ints: a list copied by append. -/
import Derived.Test.YtacbfjinellonaaKj
namespace Go.Proofs.Ytacbfjinellonaa.Graph
open Go.RowKit

theorem run_append_nil0 {P : Program} (w : World) (t e ty : TypeId) (size : Nat) (hu : P.underlying t = some (.slice e)) (hs : (P.info? e).map (·.size) = some size) (c : Nat) (p : Option Addr) :
    (Builtin.append_ #[t, t] ty #[.slice none 0 0, .slice p 0 c]).run P w = .ok (.slice none 0 0) w := by
  cases hq : P.info? e with
  | none => simp [hq] at hs
  | some i =>
    have hl : ∀ (x : Addr), (loadCells x 0).run P w = .ok #[] w := fun x => by simpa using run_loadCells_list (P := P) w x [] (by simp)
    cases p <;> simp [Builtin.append_, run_underlying hu, Builtin.lenOf, Builtin.firstCells, sizeOf, typeInfo, hq, hl]
theorem wpList_append_nil0 {P : Program} {w : World} {ops : Array Oper} {rest : List Oper} {o : Oper} {a : Act} {Q : Exit → Act → World → Prop} (hgd : o.guard = none) (d s : Operand) (t : TypeId)
    (ho : o.op = .call { callee := .builtin .append, args := #[d, s], argTypes := #[t, t] }) (e : TypeId) (size : Nat) (hu : P.underlying t = some (.slice e)) (hs : (P.info? e).map (·.size) = some size)
    (c : Nat) (p : Option Addr) (hd : a.eval d = .slice none 0 0) (hx : a.eval s = .slice p 0 c)
    (h : wpList P ops Q rest (a.put o.dst (.slice none 0 0)) w) : wpList P ops Q (o :: rest) a w := by
  refine wpList_plain hgd fun K hK => ?_
  have hrun := run_append_nil0 (P := P) w t e o.type size hu hs c p
  unfold Oper.wp
  simp [execOp, ho, resolve, invoke, builtin, hd, hx, hrun, Result.andThen]
  exact hK _ _ h
/-- A row of its own, the world cut down to what is new. -/
theorem ints_of_own_cut {w : World} {B : Nat} {v : Value} {l : List Int} (h : w.ownsRow B 3 1 v l.length (l.map iv)) : IntsR (cutW (New B w) w) v l := by
  have h2 := ints_of_own h
  rcases h.2 with ⟨rfl, h0⟩ | ⟨g, cap, cur, rfl, hB, hg, _⟩
  · exact .inl ⟨h0, none, 0, rfl⟩
  · rcases h2 with h2 | ⟨b, o, c, h3, h4, h5, h6, h7⟩
    · exact .inl h2
    · have hv := h3
      injection hv with e1 e2 e3
      injection e1 with e1
      injection e1 with e1 _ _
      subst e1
      exact .inr ⟨g, o, c, h3, h4, h5, by rw [cutW_size]; exact h6, fun i hi x hx => cutW_cell.2 ⟨⟨hB, _, _, hg⟩, h7 i hi x hx⟩⟩
set_option maxHeartbeats 4000000 in
set_option maxRecDepth 100000 in
theorem refInts_any (l : List Int) (p : Option Addr) (c : Nat) (w : World) (h : IntsR w (.slice p l.length c) l) (hb : l.length * 8 ≤ 140737488355328) :
    Calls Try.prog 21 #[.slice p l.length c] w (CopiedI l w) := by
  rcases Nat.eq_zero_or_pos l.length with h0 | h0
  · unfold CopiedI
    have hE : ∀ w' : World, IntsR (cutW (New w.heap.size w') w') (.slice none 0 0) l := fun w' => .inl ⟨h0, _, _, rfl⟩
    rw [h0]
    clear h hb h0
    go_enter Try.func21, Try.ntmps21
    go_wp2_with (
      at_builtin
      refine wpList_append_nil0 (by rfl) _ _ 23 (by rfl) 3 1 Try.underlying23 (by kernel_rfl) c p (by rfl) (by rfl) ?_)
    go_ret
    exact ⟨_, _, rfl, hE _, Below.refl _ _⟩
  · obtain ⟨g, o, c', hv, hcap, hgl, _⟩ := SlR.form2 h h0
    injection hv with hv
    subst hv
    unfold CopiedI
    have HR0 : Hid (w.ownsRow w.heap.size 3 1 (.slice none 0 0) 0 []) := Lib.hid (World.ownsRow_nil _ _ _ _)
    have HNW := Lib.hid (news_many h (Below.refl _ w))
    obtain ⟨i0, hi, hz0, hz1, hz2⟩ := info_parts info_int
    have HI := Lib.hid hi
    obtain ⟨n, hn⟩ : ∃ n, n = l.length := ⟨_, rfl⟩
    have HN := Lib.hid hn
    rw [← hn] at hb h0
    rw [← hn]
    clear h hi hn
    go_enter Try.func21, Try.ntmps21
    go_wp2_with (
      at_builtin
      go_loud (refine wpList_append_lies _ (by rfl) _ _ 23 (by rfl) w.heap.size 3 i0 _ 1 8 Try.underlying23 HI.out hz0 hz1 hz2 rfl (by omega) _ 0 _ (by rfl) HR0.out ⟨g, o, none⟩ n c (l.map iv) (by rfl) (by rw [List.length_map, HN.out, Nat.mul_one]) HNW.out mem_iv h0 (by unfold maxLen; omega) (by omega) (Nat.le_refl _) _ rfl ?_)
      intro g5 c5 w5 h5 h6 h7 h8
      have H5 := Lib.hid h5
      have H6 : Hid (Below w.heap.size w w5) := Lib.hid (Below.grown (Below.refl _ w) h6 (Nat.le_refl _) (fun q hq => by cases hq))
      clear h5 h6 h7 h8)
    go_ret
    have hnn := HN.out
    subst hnn
    have h5 := H5.out
    rw [Nat.zero_add, List.nil_append] at h5
    exact ⟨_, _, rfl, IntsR.holds (new_more _ (Nat.le_refl _)) (ints_of_own_cut h5), H6.out⟩
end Go.Proofs.Ytacbfjinellonaa.Graph
namespace Go.Proofs.Ytacbfjinellonaa.Graph
open Go.RowKit

/-- Only numbers in the blocks of S may be other; what is new is new. -/
structure Soft (S : Nat → Prop) (w wr : World) : Prop where
  os : wr.os = w.os
  tape : wr.tape = w.tape
  output : wr.output = w.output
  size : w.heap.size ≤ wr.heap.size
  out : ∀ b, b < w.heap.size → ¬ S b → wr.heap[b]? = w.heap[b]?
  unf : ∀ b, b < w.heap.size → Unf w b → Unf wr b
  sl : ∀ (b o : Nat) (p : Option Addr) (n c : Nat), w.cell? ⟨b, o, none⟩ = some (.slice p n c) → wr.cell? ⟨b, o, none⟩ = some (.slice p n c)
  int : ∀ (b o : Nat) (k : IntKind) (n : Int), w.cell? ⟨b, o, none⟩ = some (.int k n) → ∃ m, wr.cell? ⟨b, o, none⟩ = some (.int k m)
theorem Soft.refl (S : Nat → Prop) (w : World) : Soft S w w := ⟨rfl, rfl, rfl, Nat.le_refl _, fun _ _ _ => rfl, fun _ _ h => h, fun _ _ _ _ _ h => h, fun _ _ _ n h => ⟨n, h⟩⟩
theorem Soft.trans {S : Nat → Prop} {w w2 w3 : World} (h : Soft S w w2) (h2 : Soft S w2 w3) : Soft S w w3 :=
  ⟨h2.os.trans h.os, h2.tape.trans h.tape, h2.output.trans h.output, Nat.le_trans h.size h2.size, fun b hb hn => (h2.out b (Nat.lt_of_lt_of_le hb h.size) hn).trans (h.out b hb hn), fun b hb hu => h2.unf b (Nat.lt_of_lt_of_le hb h.size) (h.unf b hb hu),
   fun _b _o _p _n _c hc => h2.sl _ _ _ _ _ (h.sl _ _ _ _ _ hc), fun _b _o _k _n hc => let ⟨_m, hm⟩ := h.int _ _ _ _ hc; h2.int _ _ _ _ hm⟩
theorem Soft.grow {S : Nat → Prop} {w wr : World} (h : Below w.heap.size w wr) : Soft S w wr :=
  ⟨h.os, h.tape, h.output, h.size, fun b hb _ => h.block b hb, fun b hb hu => unf_keep hu (h.block b hb), fun b o _p _n _c hc => (h.cell (p := ⟨b, o, none⟩) (World.block_lt_of_cell? w _ hc)).trans hc, fun b o _k n hc => ⟨n, (h.cell (p := ⟨b, o, none⟩) (World.block_lt_of_cell? w _ hc)).trans hc⟩⟩
theorem Soft.set {S : Nat → Prop} {w : World} {b o : Nat} {k : IntKind} {n : Int} (m : Int) (hS : S b) (hc : w.cell? ⟨b, o, none⟩ = some (.int k n)) : Soft S w (w.setCell ⟨b, o, none⟩ (.int k m)) := by
  refine ⟨rfl, rfl, rfl, by simp, fun b' _ hn => heap_setCell_other w ⟨b, o, none⟩ b' _ (fun e => hn (e ▸ hS)), fun b' _ hu => ?_, fun b' o' p n' c h => ?_, fun b' o' k' n' h => ?_⟩
  · by_cases e : b' = b
    · subst e; exact unf_set hu
    · exact unf_keep hu (heap_setCell_other w ⟨b, o, none⟩ b' _ (fun e2 => e e2))
  · by_cases e : b' = b ∧ o' = o
    · obtain ⟨rfl, rfl⟩ := e; rw [hc] at h; cases h
    · rw [cell_set_ne w _ e]; exact h
  · by_cases e : b' = b ∧ o' = o
    · obtain ⟨rfl, rfl⟩ := e
      rw [hc] at h
      injection h with h
      injection h with h1 h2
      subst h1
      exact ⟨m, cell_set_same _ hc⟩
    · exact ⟨n', by rw [cell_set_ne w _ e]; exact h⟩
theorem unf_frozen {w : World} {b o : Nat} (h : Unf w b) : w.frozen? ⟨b, o, none⟩ = false := by
  obtain ⟨cs, t, h⟩ := h
  simp [World.frozen?, h]
/-- What a walk wants at a number that is to be written: it is there, it may be written. -/
theorem Soft.spot {S : Nat → Prop} {w wr : World} (h : Soft S w wr) (hu : ∀ b, S b → Unf w b) {b o : Nat} {k : IntKind} {n : Int} (hc : (cutW S w).cell? ⟨b, o, none⟩ = some (.int k n)) : S b ∧ (∃ m, wr.cell? ⟨b, o, none⟩ = some (.int k m)) ∧ wr.frozen? ⟨b, o, none⟩ = false ∧ b < wr.heap.size := by
  obtain ⟨hS, h2⟩ := cutW_cell.1 hc
  have hl := World.block_lt_of_cell? w _ h2
  exact ⟨hS, h.int _ _ _ _ h2, unf_frozen (h.unf b hl (hu b hS)), Nat.lt_of_lt_of_le hl h.size⟩
theorem Soft.slice {S : Nat → Prop} {w wr : World} (h : Soft S w wr) {b o : Nat} {p : Option Addr} {n c : Nat} (hc : (cutW S w).cell? ⟨b, o, none⟩ = some (.slice p n c)) : wr.cell? ⟨b, o, none⟩ = some (.slice p n c) ∧ b < wr.heap.size := by
  obtain ⟨_, h2⟩ := cutW_cell.1 hc
  exact ⟨h.sl _ _ _ _ _ h2, Nat.lt_of_lt_of_le (World.block_lt_of_cell? w _ h2) h.size⟩
end Go.Proofs.Ytacbfjinellonaa.Graph
