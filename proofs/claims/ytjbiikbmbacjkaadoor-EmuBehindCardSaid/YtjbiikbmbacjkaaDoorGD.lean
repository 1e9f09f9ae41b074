/- Rows appended to rows of one's own, whatever they hold, and where they lie then; noughts appended. No condition. -/
import Derived.Test.YtjbiikbmbacjkaaDoorDk
import Derived.Deep.AppendLies
import Derived.Lib.AppendZeros
namespace Go.Proofs.YtjbiikbmbacjkaaDoor.Emu
open Go.RowKit Go.Proofs.YtjbiikbmbacjkaaDoor.Enc Go.Proofs.YtjbiikbmbacjkaaDoor.Graph

theorem run_append_zero {P : Program} (w : World) (t e ty : TypeId) (size : Nat) (hu : P.underlying t = some (.slice e)) (hs : (P.info? e).map (·.size) = some size) (a : Addr) (n c c2 : Nat) (p : Option Addr) (hn : n ≤ c) :
    (Builtin.append_ #[t, t] ty #[.slice (some a) n c, .slice p 0 c2]).run P w = .ok (.slice (some a) n c) w := by
  cases hq : P.info? e with
  | none => simp [hq] at hs
  | some i =>
    have hl : ∀ (x : Addr), (loadCells x 0).run P w = .ok #[] w := fun x => by simpa using run_loadCells_list (P := P) w x [] (by simp)
    cases p <;> simp [Builtin.append_, run_underlying hu, Builtin.lenOf, Builtin.firstCells, sizeOf, typeInfo, hq, hl, hn, storeCells]
theorem wpList_append_zero {P : Program} {w : World} {ops : Array Oper} {rest : List Oper} {o : Oper} {a : Act} {Q : Exit → Act → World → Prop} (hgd : o.guard = none) (d s : Operand) (t : TypeId)
    (ho : o.op = .call { callee := .builtin .append, args := #[d, s], argTypes := #[t, t] }) (e : TypeId) (size : Nat) (hu : P.underlying t = some (.slice e)) (hs : (P.info? e).map (·.size) = some size)
    (b : Addr) (n c c2 : Nat) (p : Option Addr) (hd : a.eval d = .slice (some b) n c) (hx : a.eval s = .slice p 0 c2) (hn : n ≤ c)
    (h : wpList P ops Q rest (a.put o.dst (.slice (some b) n c)) w) : wpList P ops Q (o :: rest) a w := by
  refine wpList_plain hgd fun K hK => ?_
  have hrun := run_append_zero (P := P) w t e o.type size hu hs b n c c2 p hn
  unfold Oper.wp
  simp [execOp, ho, resolve, invoke, builtin, hd, hx, hrun, Result.andThen]
  exact hK _ _ h
/-- A row appended to a row of one's own; it lies where that lay, or is new. -/
theorem wpList_append_any {w : World} {ops : Array Oper} {rest : List Oper} {o : Oper} {a : Act} {Q : Exit → Act → World → Prop} (hgd : o.guard = none) (s x : Operand) (t e : TypeId) (z : Value) (by_ : Nat)
    (ho : o.op = .call { callee := .builtin .append, args := #[s, x], argTypes := #[t, t] }) (ht : Tryd.prog.underlying t = some (.slice e)) (hinfo : (Tryd.prog.info? e).map (fun i => (i.zero, i.size, i.bytes)) = some (some z, 1, by_)) (hz : z.cells.size = 1) (hby : 1 ≤ by_)
    (B : Nat) (v : Value) (n : Nat) (ys : List Value) (hs : a.eval s = v) (hown : w.ownsRow B e 1 v n ys) (hB : B ≤ w.heap.size)
    (xs : List Value) (vx : Value) (hx : a.eval x = vx) (hl : RowAt w vx xs) (h1 : ∀ u ∈ xs, u.oneCell' = true) (h64 : (n + xs.length) * by_ ≤ 140737488355328)
    (h : ∀ v' w', w'.ownsRow B e 1 v' (n + xs.length) (ys ++ xs) → w.grownBy w' v.ownBlock → (∀ b, v'.ownBlock = some b → v.ownBlock = some b ∨ b = w.heap.size) → wpList Tryd.prog ops Q rest (a.put o.dst v') w') : wpList Tryd.prog ops Q (o :: rest) a w := by
  obtain ⟨i0, HI, hz0, hz1, hz2⟩ := info_parts hinfo
  rcases Nat.eq_zero_or_pos xs.length with hz9 | hz9
  · have hxs : xs = [] := List.length_eq_zero_iff.1 hz9
    subst hxs
    have hvx : ∃ p c, vx = .slice p 0 c := by
      rcases hl with ⟨_, p, c, rfl⟩ | ⟨_, _, _, _, h2, _⟩
      · exact ⟨p, c, rfl⟩
      · exact absurd h2 (by simp)
    obtain ⟨p, c, rfl⟩ := hvx
    have hown2 := hown
    rcases hown2.2 with ⟨rfl, rfl⟩ | ⟨g, cap, cur, rfl, _, _, h5, _⟩
    · refine wpList_append_nil0 hgd s x t ho e 1 ht (by rw [HI]; simp [hz1]) c p hs hx ?_
      exact h _ _ (by simpa using hown) (World.grownBy.refl _ _) (fun b hb => .inl hb)
    · refine wpList_append_zero hgd s x t ho e 1 ht (by rw [HI]; simp [hz1]) ⟨g, 0, none⟩ n cap c p hs hx h5 ?_
      exact h _ _ (by simpa using hown) (World.grownBy.refl _ _) (fun b hb => .inl hb)
  · obtain ⟨b, o1, c, h2, _, _, h4⟩ := SlR.form2 hl hz9
    have hle : n + xs.length ≤ 140737488355328 := Nat.le_trans (Nat.le_mul_of_pos_right _ hby) h64
    refine wpList_append_lies w hgd s x t ho B e i0 z 1 by_ ht HI hz0 hz1 hz2 hz (by omega) v n ys hs hown ⟨b, o1, none⟩ xs.length c xs (by rw [hx, h2]) (by omega) (fun j u hu => ?_) h1 hz9 (by unfold maxLen; omega) h64 hB _ rfl ?_
    · rw [Go.WideShapes.add_plain]
      have := h4 j (List.getElem?_eq_some_iff.1 hu).1 u hu
      rwa [Nat.mul_one] at this
    · intro g cap w' h5 h6 h7 _
      refine h _ w' h5 h6 (fun b hb => ?_)
      injection hb with hb
      subst hb
      exact h7
theorem ImgOwn.words_grown {w w' : World} {B : Nat} {m : Image} {vw vk vd v' : Value} {xs : List Int} (h : ImgOwn w B m vw vk vd) (h1 : w'.ownsRow B 27 1 v' (m.words.length + xs.length) (m.words.map uv ++ xs.map uv)) (h2 : w.grownBy w' vw.ownBlock)
    (h3 : ∀ b, v'.ownBlock = some b → vw.ownBlock = some b ∨ b = w.heap.size) : ImgOwn w' B { m with words := m.words ++ xs } v' vk vd := by
  have keep : ∀ {e : TypeId} {v : Value} {n : Nat} {ys : List Value}, w.ownsRow B e 1 v n ys → (∀ b, vw.ownBlock = some b → v.ownBlock ≠ some b) → w'.ownsRow B e 1 v n ys := by
    intro e v n ys hv hne
    obtain ⟨k1, k2 | ⟨g, cap, cur, rfl, k3, k4, k5⟩⟩ := hv
    · exact ⟨k1, .inl k2⟩
    · refine ⟨k1, .inr ⟨g, cap, cur, rfl, k3, ?_, k5⟩⟩
      rw [h2.block g (lt_of_block k4) (fun e => hne g e.symm rfl)]
      exact k4
  refine ⟨?_, keep h.kinds h.wk, keep h.data h.wd, fun b hb e => ?_, fun b hb e => ?_, h.kd⟩
  · simp only [List.length_append, List.map_append]; exact h1
  · rcases h3 b hb with k | k
    · exact h.wk b k e
    · have := (h.kinds.lt b e).2; omega
  · rcases h3 b hb with k | k
    · exact h.wd b k e
    · have := (h.data.lt b e).2; omega
theorem ImgOwn.kinds_grown {w w' : World} {B : Nat} {m : Image} {vw vk vd v' : Value} {xs : List Int} (h : ImgOwn w B m vw vk vd) (h1 : w'.ownsRow B 3 1 v' (m.kinds.length + xs.length) (m.kinds.map iv ++ xs.map iv)) (h2 : w.grownBy w' vk.ownBlock)
    (h3 : ∀ b, v'.ownBlock = some b → vk.ownBlock = some b ∨ b = w.heap.size) : ImgOwn w' B { m with kinds := m.kinds ++ xs } vw v' vd := by
  have keep : ∀ {e : TypeId} {v : Value} {n : Nat} {ys : List Value}, w.ownsRow B e 1 v n ys → (∀ b, vk.ownBlock = some b → v.ownBlock ≠ some b) → w'.ownsRow B e 1 v n ys := by
    intro e v n ys hv hne
    obtain ⟨k1, k2 | ⟨g, cap, cur, rfl, k3, k4, k5⟩⟩ := hv
    · exact ⟨k1, .inl k2⟩
    · refine ⟨k1, .inr ⟨g, cap, cur, rfl, k3, ?_, k5⟩⟩
      rw [h2.block g (lt_of_block k4) (fun e => hne g e.symm rfl)]
      exact k4
  refine ⟨keep h.words (fun b hb e => h.wk b e hb), ?_, keep h.data h.kd, fun b hb e => ?_, h.wd, fun b hb e => ?_⟩
  · simp only [List.length_append, List.map_append]; exact h1
  · rcases h3 b e with k | k
    · exact h.wk b hb k
    · have := (h.words.lt b hb).2; omega
  · rcases h3 b hb with k | k
    · exact h.kd b k e
    · have := (h.data.lt b e).2; omega
theorem ImgOwn.data_grown {w w' : World} {B : Nat} {m : Image} {vw vk vd v' : Value} {xs : List Int} (h : ImgOwn w B m vw vk vd) (h1 : w'.ownsRow B 27 1 v' (m.data.length + xs.length) (m.data.map uv ++ xs.map uv)) (h2 : w.grownBy w' vd.ownBlock)
    (h3 : ∀ b, v'.ownBlock = some b → vd.ownBlock = some b ∨ b = w.heap.size) : ImgOwn w' B { m with data := m.data ++ xs } vw vk v' := by
  have keep : ∀ {e : TypeId} {v : Value} {n : Nat} {ys : List Value}, w.ownsRow B e 1 v n ys → (∀ b, vd.ownBlock = some b → v.ownBlock ≠ some b) → w'.ownsRow B e 1 v n ys := by
    intro e v n ys hv hne
    obtain ⟨k1, k2 | ⟨g, cap, cur, rfl, k3, k4, k5⟩⟩ := hv
    · exact ⟨k1, .inl k2⟩
    · refine ⟨k1, .inr ⟨g, cap, cur, rfl, k3, ?_, k5⟩⟩
      rw [h2.block g (lt_of_block k4) (fun e => hne g e.symm rfl)]
      exact k4
  refine ⟨keep h.words (fun b hb e => h.wd b e hb), keep h.kinds (fun b hb e => h.kd b e hb), ?_, h.wk, fun b hb e => ?_, fun b hb e => ?_⟩
  · simp only [List.length_append, List.map_append]; exact h1
  · rcases h3 b e with k | k
    · exact h.wd b hb k
    · have := (h.words.lt b hb).2; omega
  · rcases h3 b e with k | k
    · exact h.kd b hb k
    · have := (h.kinds.lt b hb).2; omega
end Go.Proofs.YtjbiikbmbacjkaaDoor.Emu
namespace Go.Proofs.YtjbiikbmbacjkaaDoor.Emu
open Go.RowKit Go.Proofs.YtjbiikbmbacjkaaDoor.Enc Go.Proofs.YtjbiikbmbacjkaaDoor.Graph

theorem zeroCells_one (z : Value) (m : Nat) : Builtin.zeroCells #[z] m = (List.replicate m z).toArray := by
  apply Array.ext
  · simp [Builtin.zeroCells]
  · intro i h1 h2
    simp [Builtin.zeroCells, Nat.mod_one]
theorem run_append_zeros_own {P : Program} (w : World) (B : Nat) (t tn ty e : TypeId) (kn k0 : IntKind) (i : TypeInfo) (z : Value) (ht : P.underlying t = some (.slice e)) (htn : P.underlying tn = some (.int kn)) (hi : P.info? e = some i) (hz : i.zero = some z)
    (hsize : i.size = 1) (hby : i.bytes ≤ 8) (hzc : z.cells = #[z]) (hone : z.oneCell' = true) (v : Value) (n : Nat) (xs : List Value) (hown : w.ownsRow B e 1 v n xs) (m : Nat) (hnm : n + m ≤ 1000000) (hB : B ≤ w.heap.size) :
    ∃ v' w', (Builtin.append_ #[t, tn] ty #[v, .int k0 m]).run P w = .ok v' w' ∧ w'.ownsRow B e 1 v' (n + m) (xs ++ List.replicate m z) ∧ w.grownBy w' v.ownBlock ∧ (∀ b, v'.ownBlock = some b → v.ownBlock = some b ∨ b = w.heap.size) := by
  have hw : IntKind.i64.wrap (m : Int) = m := by rw [IntKind.wrap_i64]; omega
  have hw0 : IntKind.i64.wrap 0 = 0 := by decide
  have hneg : ¬ ((m : Int) < 0) := by omega
  have hmb : m * i.bytes ≤ 1000000 * 8 := Nat.mul_le_mul (by omega) hby
  have h48i : ¬ (281474976710656 < (m : Int) * (i.bytes : Int)) := by
    rw [← Int.natCast_mul]; omega
  have hlen : (xs ++ List.replicate m z).length = (n + m) * 1 := by rw [List.length_append, hown.1, List.length_replicate, Nat.mul_one, Nat.mul_one]
  have grown : ∀ (old : Nat), old < n + m → ∀ (row : Option Nat),
      (w.drew.alloc (.cells (xs.toArray ++ (List.replicate m z).toArray ++ Builtin.zeroCells z.cells (grownCap w (n + m) old e - (n + m))) e)).ownsRow B e 1
        (.slice (some ⟨w.heap.size, 0, none⟩) (n + m) (grownCap w (n + m) old e)) (n + m) (xs ++ List.replicate m z) ∧
      w.grownBy (w.drew.alloc (.cells (xs.toArray ++ (List.replicate m z).toArray ++ Builtin.zeroCells z.cells (grownCap w (n + m) old e - (n + m))) e)) row := by
    intro old ho row
    have hge := grownCap_ge w (n + m) old e
    have hcm : grownCap w (n + m) old e ≤ maxLen := grownCap_le_maxLen w (n + m) old e (by unfold maxLen; omega)
    have hxl := hown.1
    refine ⟨⟨hlen, .inr ⟨w.heap.size, _, _, rfl, hB, heap_alloc_new w.drew _, hge, hcm, ?_, ?_⟩⟩, ⟨rfl, rfl, rfl, by simp, fun k hk _ => heap_alloc_old w.drew _ hk⟩⟩
    · simp only [Array.size_append, List.size_toArray, size_zeroCells, hzc, List.length_replicate]
      simp
      omega
    · simp only [Array.toList_append, List.append_assoc]
      rw [← List.append_assoc, ← hlen]
      exact List.take_left
  rcases hown.2 with ⟨rfl, rfl⟩ | ⟨g, cap, cur, rfl, hbg, hg, hnc, hcm, hcs, htake⟩
  · have hx : xs = [] := List.eq_nil_of_length_eq_zero (by simpa using hown.1)
    subst hx
    by_cases hm : m = 0
    · subst hm
      refine ⟨.slice none 0 0, w, ?_, World.ownsRow_nil w B e 1, World.grownBy.refl _ _, fun b hb => by cases hb⟩
      simp [Builtin.append_, run_underlying ht, run_underlying htn, sizeOf, typeInfo, hi, asInt, asIntOf, hw0]
    · have hr := Lib.run_append_nil_zeros (P := P) w t tn ty e i z k0 kn ht htn hi hz m (by omega) (by omega) (by omega) (by omega)
      have hgr := grown 0 (by omega) (Value.ownBlock (.slice none 0 0))
      simp only [Nat.zero_add, List.nil_append, Array.empty_append] at hgr ⊢
      rw [hzc, zeroCells_one] at hr
      rw [hzc] at hgr
      exact ⟨_, _, hr, hgr.1, hgr.2, fun b hb => .inr (by injection hb with hb; exact hb.symm)⟩
  · by_cases hroom : n + m ≤ cap
    · by_cases hm : m = 0
      · subst hm
        refine ⟨.slice (some ⟨g, 0, none⟩) n cap, w, ?_, by simpa using hown, World.grownBy.refl _ _, fun b hb => .inl hb⟩
        simp [Builtin.append_, run_underlying ht, run_underlying htn, sizeOf, typeInfo, zeroValue, hi, hz, asInt, asIntOf, hw0, storeCells, hnc]
      have hst := run_storeCells_at P g (n * 1) e (List.replicate m z) 0 cur w hg (by simp; omega) (fun u hu => by rw [List.eq_of_mem_replicate hu]; exact hone)
      refine ⟨.slice (some ⟨g, 0, none⟩) (n + m) cap, w.setRow g (cur.toList.take (n * 1) ++ List.replicate m z ++ cur.toList.drop (n * 1 + (List.replicate m z).length)).toArray, ?_, ⟨hlen, .inr ⟨g, cap, _, rfl, hbg, setRow_heap w g cur _ e _ hg, hroom, hcm, ?_, ?_⟩⟩, ⟨rfl, rfl, rfl, by simp [World.setRow], fun k _ hk => setRow_other w g k _ (fun e => hk (by simp [Value.ownBlock, e]))⟩, fun b hb => .inl hb⟩
      · simp only [Nat.add_zero, Nat.mul_one] at hst
        simp [Builtin.append_, run_underlying ht, run_underlying htn, sizeOf, typeInfo, zeroValue, hi, hz, asInt, asIntOf, hw, hneg, h48i, hsize, hm, hroom, Addr.add_lit, hzc, zeroCells_one, hst]
      · simp only [List.size_toArray, List.length_append, List.length_take, List.length_drop, Array.length_toList, List.length_replicate]
        omega
      · rw [htake, ← hlen]
        exact List.take_left
    · have hm : m ≠ 0 := by omega
      have hn : ¬ (n + m ≤ cap) := hroom
      have h63' : ¬ (9223372036854775807 < ((n : Int) + (m : Int))) := by omega
      have h48' : ¬ (281474976710656 < Builtin.nextslicecap (n + m) cap * i.bytes) := by
        have := growslice_fits_wide (need := n + m) (old := cap) (bytes := i.bytes) (by omega) (by
          calc ((n + m) + (n + m) / 4 + 192) * i.bytes ≤ ((n + m) + (n + m) / 4 + 192) * 8 := Nat.mul_le_mul_left _ hby
            _ ≤ 281474976710656 := by omega)
        omega
      have holds : ∀ j u, xs[j]? = some u → w.cell? ((⟨g, 0, none⟩ : Addr).add j) = some u := hown.cells (g := g) rfl
      have hfo := run_firstCells_some (P := P) w.drew i.size n ⟨g, 0, none⟩ n cap xs (by rw [hsize]; exact hown.1) (by simpa using holds)
      rw [hsize] at hfo
      have hgr := grown cap (by omega) (Value.ownBlock (.slice (some ⟨g, 0, none⟩) n cap))
      refine ⟨.slice (some ⟨w.heap.size, 0, none⟩) (n + m) (grownCap w (n + m) cap e), _, ?_, hgr.1, hgr.2, fun b hb => .inr (by injection hb with hb; exact hb.symm)⟩
      simp [Builtin.append_, run_underlying ht, run_underlying htn, sizeOf, typeInfo, zeroValue, hi, hz, asInt, asIntOf, hw, hneg, h48i, hm, hn, h63', h48', hsize, Question.forced, hfo, newRow, grownCap, hzc, zeroCells_one]
end Go.Proofs.YtjbiikbmbacjkaaDoor.Emu
