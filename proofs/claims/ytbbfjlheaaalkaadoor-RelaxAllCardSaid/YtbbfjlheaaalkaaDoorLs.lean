/- Lines appended to a row of one's own; nothing appended to nil. No condition. -/
import Derived.Test.YtbbfjlheaaalkaaDoorLr
import Derived.Deep.DeepAppendWide
namespace Go.Proofs.YtbbfjlheaaalkaaDoor.Relax
open Go.RowKit Go.Proofs.YtbbfjlheaaalkaaDoor.Enc Go.Proofs.YtbbfjlheaaalkaaDoor.Graph

theorem run_append_nil0 {P : Program} (w : World) (t e ty : TypeId) (size : Nat) (hu : P.underlying t = some (.slice e)) (hs : (P.info? e).map (·.size) = some size) (c : Nat) (p : Option Addr) :
    (Builtin.append_ #[t, t] ty #[.slice none 0 0, .slice p 0 c]).run P w = .ok (.slice none 0 0) w := by
  cases hq : P.info? e with
  | none => simp [hq] at hs
  | some i =>
    have hl : ∀ (x : Addr), (loadCells x 0).run P w = .ok #[] w := fun x => by simpa using run_loadCells_list (P := P) w x [] (by simp)
    cases p <;> simp [Builtin.append_, run_underlying hu, Builtin.lenOf, Builtin.firstCells, sizeOf, typeInfo, hq, hl]
theorem wpList_append_nil0 {P : Program} {w : World} {ops : Array Oper} {rest : List Oper} {o : Oper} {a : Act} {Q : Exit → Act → World → Prop} (hgd : o.guard = none) (d s : Operand) (t : TypeId)
    (ho : o.op = .call { callee := .builtin .append, args := #[d, s], argTypes := #[t, t] }) (e : TypeId) (size : Nat) (hu : P.underlying t = some (.slice e)) (hs : (P.info? e).map (·.size) = some size)
    (c : Nat) (p : Option Addr) (hd : a.eval d = .slice none 0 0) (hx : a.eval s = .slice p 0 c)
    (h : wpList P ops Q rest (a.put o.dst (.slice none 0 0)) w) : wpList P ops Q (o :: rest) a w := by
  refine wpList_plain hgd fun K hK => ?_
  have hrun := run_append_nil0 (P := P) w t e o.type size hu hs c p
  unfold Oper.wp
  simp [execOp, ho, resolve, invoke, builtin, hd, hx, hrun, Result.andThen]
  exact hK _ _ h
theorem info_lineS : (Tryd.prog.info? 39).map (fun i => (i.zero, i.size, i.bytes)) = some (some (.agg #[.int .i64 0, .int .i64 0, .int .i64 0, .int .i64 0, .int .u32 0, .int .i64 0, .slice none 0 0]), 7, 72) := by kernel_rfl
theorem zline_size : (Value.agg #[.int .i64 0, .int .i64 0, .int .i64 0, .int .i64 0, .int .u32 0, .int .i64 0, .slice none 0 0]).cells.size = 7 := by kernel_rfl
/-- Lines appended to a row of one's own. -/
theorem wpList_append_lines {w : World} {ops : Array Oper} {rest : List Oper} {o : Oper} {a : Act} {Q : Exit → Act → World → Prop} (hgd : o.guard = none) (s x : Operand)
    (ho : o.op = .call { callee := .builtin .append, args := #[s, x], argTypes := #[22, 22] }) (B : Nat) (v : Value) (n : Nat) (ps qs : List (PL × Value)) (hs : a.eval s = v)
    (hown : w.ownsRow B 39 7 v n (flatL ps)) (ad : Addr) (m c : Nat) (hx : a.eval x = .slice (some ad) m c) (hm : m = qs.length)
    (hnews : ∀ j u, (flatL qs)[j]? = some u → w.cell? (ad.add j) = some u) (h1 : ∀ u ∈ flatL qs, u.oneCell' = true) (h64 : n + m ≤ 1000000) (hB : B ≤ w.heap.size)
    (h : ∀ v' w', w'.ownsRow B 39 7 v' (n + m) (flatL (ps ++ qs)) → Below B w w' → w.grownBy w' v.ownBlock → wpList Tryd.prog ops Q rest (a.put o.dst v') w') : wpList Tryd.prog ops Q (o :: rest) a w := by
  obtain ⟨i0, HI, hz0, hz1, hz2⟩ := info_parts info_lineS
  refine wpList_append_own_wide w hgd s x 22 ho B 39 i0 _ 7 72 Tryd.underlying22 HI hz0 hz1 hz2 zline_size (by omega) v n (flatL ps) hs hown ad m c (flatL qs) hx (by rw [flat_len, hm]) hnews h1 (by unfold maxLen; omega) (by omega) hB ?_
  intro v' w' h2 h3 _
  exact h v' w' (by rw [flat_app]; exact h2) (Below.grown (Below.refl _ _) h3 hB (fun k hk => (hown.lt k hk).1)) h3
theorem info_intS : (Tryd.prog.info? 3).map (fun i => (i.zero, i.size, i.bytes)) = some (some (.int .i64 0), 1, 8) := by kernel_rfl
/-- A list of numbers copied by append, to nil. -/
theorem wpList_copy_ints {w : World} {ops : Array Oper} {rest : List Oper} {o : Oper} {a : Act} {Q : Exit → Act → World → Prop} (hgd : o.guard = none) (s x : Operand)
    (ho : o.op = .call { callee := .builtin .append, args := #[s, x], argTypes := #[25, 25] }) (l : List Int) (p : Option Addr) (c : Nat) (hs : a.eval s = .slice none 0 0) (hx : a.eval x = .slice p l.length c)
    (hl : IntsR w (.slice p l.length c) l) (h64 : l.length ≤ 100000000000)
    (h : ∀ v' w', IntsR w' v' l → Below w.heap.size w w' → (∀ b o s n c, v' = .slice (some ⟨b, o, s⟩) n c → w.heap.size ≤ b) → wpList Tryd.prog ops Q rest (a.put o.dst v') w') : wpList Tryd.prog ops Q (o :: rest) a w := by
  rcases Nat.eq_zero_or_pos l.length with h0 | h0
  · refine wpList_append_nil0 hgd s x 25 ho 3 1 Tryd.underlying25 (by kernel_rfl) c p hs (by rw [hx, h0]) ?_
    exact h _ _ (.inl ⟨h0, none, 0, rfl⟩) (Below.refl _ _) (fun b o s n c e => by injection e with e; cases e)
  · obtain ⟨i0, HI, hz0, hz1, hz2⟩ := info_parts info_intS
    obtain ⟨g, o1, c', h1, h2, h3, h4⟩ := SlR.form2 hl h0
    injection h1 with h1 _ h5
    subst h1 h5
    refine wpList_append_own_wide w hgd s x 25 ho w.heap.size 3 i0 _ 1 8 Tryd.underlying25 HI hz0 hz1 hz2 rfl (by omega) _ 0 [] hs (World.ownsRow_nil _ _ _ _) ⟨g, o1, none⟩ l.length c (l.map iv) hx (by simp) (fun j u hu => ?_) (fun u hu => ?_) (by unfold maxLen; omega) (by omega) (Nat.le_refl _) ?_
    · rw [Go.WideShapes.add_plain]
      rw [List.getElem?_map] at hu
      obtain ⟨y, hy, rfl⟩ := Option.map_eq_some_iff.1 hu
      have hj : j < l.length := (List.getElem?_eq_some_iff.1 hy).1
      have := h4 j hj y hy
      rw [Nat.mul_one] at this
      exact this
    · obtain ⟨y, _, rfl⟩ := List.mem_map.1 hu
      rfl
    · intro v' w' h2 h3 _
      rw [Nat.zero_add, List.nil_append] at h2
      refine h v' w' (ints_of_own h2) (Below.grown (Below.refl _ _) h3 (Nat.le_refl _) (fun k hk => by cases hk)) (fun b o s n c e => ?_)
      subst e
      obtain ⟨_, ⟨e, _⟩ | ⟨g2, cap, cur, e, h6, _⟩⟩ := h2
      · injection e with e; cases e
      · injection e with e _ _
        injection e with e
        injection e with e _ _
        subst e; exact h6
end Go.Proofs.YtbbfjlheaaalkaaDoor.Relax
