/- How things lie, carried over to a world that holds at least those cells; a world cut down to some of its blocks. -/
import Derived.Test.YtcijaaiopfbffaaDoorYb
import Derived.Test.YtcijaaiopfbffaaDoorYu
import Derived.Deep.AppendLies
import Derived.Deep.DeepCutAuto
import Derived.Deep.CutRange
import Derived.Deep.RegionWith
import Derived.Deep.RegionHeld3
import Derived.Deep.RegionLaw
namespace Go.Proofs.YtcijaaiopfbffaaDoor.Graph
open Go.RowKit

/-- The second world holds whatever the first one holds. -/
structure Holds2 (w w' : World) : Prop where
  size : w.heap.size ≤ w'.heap.size
  cell : ∀ (b o : Nat) (v : Value), w.cell? ⟨b, o, none⟩ = some v → w'.cell? ⟨b, o, none⟩ = some v
theorem SlR.holds {w w' : World} {sz : Nat} {v : Value} {n : Nat} {P P' : Nat → Nat → Nat → Prop} (h : SlR w sz v n P) (hb : Holds2 w w') (hP : ∀ i b o, b < w.heap.size → P i b o → P' i b o) : SlR w' sz v n P' := by
  rcases h with h | ⟨b, o, c, h1, h2, h3, h4, h5⟩
  · exact .inl h
  · exact .inr ⟨b, o, c, h1, h2, h3, Nat.lt_of_lt_of_le h4 hb.size, fun i hi => hP i b _ h4 (h5 i hi)⟩
section
variable {w w' : World} (hb : Holds2 w w')
include hb
theorem IntsR.holds {v : Value} {l : List Int} (h : IntsR w v l) : IntsR w' v l := SlR.holds h hb fun _ _ _ _ hP x hx => hb.cell _ _ _ (hP x hx)
theorem WordsR.holds {v : Value} {l : List Int} (h : WordsR w v l) : WordsR w' v l := SlR.holds h hb fun _ _ _ _ hP x hx => hb.cell _ _ _ (hP x hx)
theorem CasesR.holds {v : Value} {l : List PCase} (h : CasesR w v l) : CasesR w' v l := SlR.holds h hb fun _ _ _ _ hP x hx => ⟨hb.cell _ _ _ (hP x hx).1, hb.cell _ _ _ (hP x hx).2⟩
theorem ArrsR.holds {v : Value} {l : List PArr} (h : ArrsR w v l) : ArrsR w' v l := SlR.holds h hb fun _ _ _ _ hP x hx => ⟨hb.cell _ _ _ (hP x hx).1, hb.cell _ _ _ (hP x hx).2⟩
theorem InsL.holds {va vr : Value} {x : PIns} (h : InsL w va vr x) : InsL w' va vr x := ⟨IntsR.holds hb h.args, IntsR.holds hb h.arrs, h.wn⟩
theorem InsR.holds {b o : Nat} {x : PIns} {va vr : Value} (h : InsR w b o x va vr) : InsR w' b o x va vr :=
  ⟨hb.cell _ _ _ h.op, hb.cell _ _ _ h.d, hb.cell _ _ _ h.fa, hb.cell _ _ _ h.fb, hb.cell _ _ _ h.f, hb.cell _ _ _ h.n, hb.cell _ _ _ h.ca, hb.cell _ _ _ h.cr, InsL.holds hb h.l⟩
theorem CodeR.holds {v : Value} {l : List PIns} (h : CodeR w v l) : CodeR w' v l := SlR.holds h hb fun _ _ _ _ hP x hx => let ⟨va, vr, h⟩ := hP x hx; ⟨va, vr, InsR.holds hb h⟩
theorem EndL.holds {vc vt : Value} {x : PEnd} (h : EndL w vc vt x) : EndL w' vc vt x := ⟨CasesR.holds hb h.cases, IntsR.holds hb h.targets, h.wn⟩
theorem EndR.holds {b o : Nat} {x : PEnd} {vc vt : Value} (h : EndR w b o x vc vt) : EndR w' b o x vc vt :=
  ⟨hb.cell _ _ _ h.kind, hb.cell _ _ _ h.op, hb.cell _ _ _ h.fa, hb.cell _ _ _ h.fb, hb.cell _ _ _ h.n, hb.cell _ _ _ h.to, hb.cell _ _ _ h.els, hb.cell _ _ _ h.cc, hb.cell _ _ _ h.ct, EndL.holds hb h.l⟩
theorem BlkR.holds {b o : Nat} {x : PBlk} {vk vc vt : Value} (h : BlkR w b o x vk vc vt) : BlkR w' b o x vk vc vt := ⟨hb.cell _ _ _ h.ck, CodeR.holds hb h.code, EndR.holds hb h.fin⟩
theorem BlksR.holds {v : Value} {l : List PBlk} (h : BlksR w v l) : BlksR w' v l := SlR.holds h hb fun _ _ _ _ hP x hx => let ⟨vk, vc, vt, h⟩ := hP x hx; ⟨vk, vc, vt, BlkR.holds hb h⟩
theorem GrL.holds {vp va vb : Value} {x : PGr} (h : GrL w vp va vb x) : GrL w' vp va vb x := ⟨IntsR.holds hb h.params, ArrsR.holds hb h.arrays, BlksR.holds hb h.blocks⟩
theorem GrR.holds {b o : Nat} {x : PGr} {vp va vb : Value} (h : GrR w b o x vp va vb) : GrR w' b o x vp va vb := ⟨hb.cell _ _ _ h.cp, hb.cell _ _ _ h.temps, hb.cell _ _ _ h.ca, hb.cell _ _ _ h.cb, GrL.holds hb h.l⟩
theorem GrsR.holds {v : Value} {l : List PGr} (h : GrsR w v l) : GrsR w' v l := SlR.holds h hb fun _ _ _ _ hP x hx => let ⟨vp, va, vb, h⟩ := hP x hx; ⟨vp, va, vb, GrR.holds hb h⟩
theorem ModL.holds {vg va vf : Value} {x : PMod} (h : ModL w vg va vf x) : ModL w' vg va vf x := ⟨WordsR.holds hb h.globals, IntsR.holds hb h.arrays, GrsR.holds hb h.funcs⟩
end
open Classical in
/-- A world cut down: the blocks outside hold nothing. -/
noncomputable def cutW (S : Nat → Prop) (w : World) : World := { w with heap := w.heap.mapIdx fun b o => if S b then o else .cells #[] 0 (0, 0) }
theorem cutW_size (S : Nat → Prop) (w : World) : (cutW S w).heap.size = w.heap.size := by simp [cutW]
theorem cutW_cell {S : Nat → Prop} {w : World} {b o : Nat} {v : Value} : (cutW S w).cell? ⟨b, o, none⟩ = some v ↔ S b ∧ w.cell? ⟨b, o, none⟩ = some v := by
  classical
  unfold World.cell? cutW
  simp only [Array.getElem?_mapIdx]
  by_cases hS : S b
  · cases h : w.heap[b]? with
    | none => simp
    | some ob => simp [hS]
  · cases h : w.heap[b]? with
    | none => simp
    | some ob => simp [hS]
theorem cut_out (S : Nat → Prop) (w : World) : Holds2 (cutW S w) w := ⟨by rw [cutW_size]; exact Nat.le_refl _, fun _ _ _ h => (cutW_cell.1 h).2⟩
/-- What lies within S is as it was where S's blocks are as they were. -/
theorem cut_to {S S' : Nat → Prop} {w w' : World} (hs : w.heap.size ≤ w'.heap.size) (h : ∀ b, b < w.heap.size → S b → S' b ∧ w'.heap[b]? = w.heap[b]?) : Holds2 (cutW S w) (cutW S' w') :=
  ⟨by rw [cutW_size, cutW_size]; exact hs, fun b o v hc => by
    obtain ⟨h1, h2⟩ := cutW_cell.1 hc
    have hl := World.block_lt_of_cell? w _ h2
    obtain ⟨h3, h4⟩ := h b hl h1
    refine cutW_cell.2 ⟨h3, ?_⟩
    rw [← h2]
    unfold World.cell?
    rw [h4]⟩
theorem to_cut {S : Nat → Prop} {w w' : World} (h : Holds2 w w') (hS : ∀ (b o : Nat) (v : Value), w.cell? ⟨b, o, none⟩ = some v → S b) : Holds2 w (cutW S w') :=
  ⟨by rw [cutW_size]; exact h.size, fun b o v hc => cutW_cell.2 ⟨hS b o v hc, h.cell b o v hc⟩⟩
end Go.Proofs.YtcijaaiopfbffaaDoor.Graph
namespace Go.Proofs.YtcijaaiopfbffaaDoor.Graph
open Go.RowKit

theorem grown_step {w w3 w4 : World} {g k : Nat} {v : Value} (h : w.grownBy w3 (some g)) (hb : Below w3.heap.size w3 w4) : w.grownBy (w4.setCell ⟨g, k, none⟩ v) (some g) :=
  ⟨hb.1.trans h.1, hb.2.trans h.2, hb.3.trans h.3, by simpa using Nat.le_trans h.size hb.size, fun j hj hne => by
    rw [heap_setCell_other w4 ⟨g, k, none⟩ j v (fun e => hne (congrArg some e)), hb.block j (Nat.lt_of_lt_of_le hj h.size)]
    exact h.block j hj hne⟩
theorem grown_trans {w w2 w3 : World} {r : Option Nat} (h : w.grownBy w2 r) (h2 : w2.grownBy w3 r) : w.grownBy w3 r :=
  ⟨h2.1.trans h.1, h2.2.trans h.2, h2.3.trans h.3, Nat.le_trans h.size h2.size, fun k hk hne => (h2.block k (Nat.lt_of_lt_of_le hk h.size) hne).trans (h.block k hk hne)⟩
/-- A block of cells none of which is frozen. -/
def Unf (w : World) (b : Nat) : Prop := ∃ cs t, w.heap[b]? = some (.cells cs t (0, 0))
/-- A block from B on, not frozen. -/
def New (B : Nat) (w : World) (b : Nat) : Prop := B ≤ b ∧ Unf w b
def CopiedI (l : List Int) (w : World) (e : Ending) (w' : World) : Prop := ∃ q d, e = .returned (.slice q l.length d) ∧ IntsR (cutW (New w.heap.size w') w') (.slice q l.length d) l ∧ Below w.heap.size w w'
def caseCs (l : List PCase) : List Value := l.flatMap fun x => [.int .u32 x.n, .int .i64 x.to]
theorem caseCs_len (l : List PCase) : (caseCs l).length = l.length * 2 := by
  induction l with
  | nil => rfl
  | cons x l ih => simp only [caseCs, List.flatMap_cons, List.length_append, List.length_cons, List.length_nil] at ih ⊢; omega
theorem caseCs_at {l : List PCase} {i : Nat} {x : PCase} (h : l[i]? = some x) : (caseCs l)[i * 2]? = some (.int .u32 x.n) ∧ (caseCs l)[i * 2 + 1]? = some (.int .i64 x.to) := by
  induction l generalizing i with
  | nil => simp at h
  | cons y l ih =>
    cases i with
    | zero => injection h with h; subst h; exact ⟨rfl, rfl⟩
    | succ i =>
      have h2 := ih (i := i) (by simpa using h)
      have e1 : (i + 1) * 2 = i * 2 + 1 + 1 := by omega
      rw [e1]
      exact h2
theorem caseCs_get {l : List PCase} {j : Nat} {v : Value} (h : (caseCs l)[j]? = some v) : ∃ i x, l[i]? = some x ∧ ((j = i * 2 ∧ v = .int .u32 x.n) ∨ (j = i * 2 + 1 ∧ v = .int .i64 x.to)) := by
  have hj : j < (caseCs l).length := by
    rcases Nat.lt_or_ge j (caseCs l).length with h2 | h2
    · exact h2
    · rw [List.getElem?_eq_none h2] at h; cases h
  rw [caseCs_len] at hj
  have hi : j / 2 < l.length := by omega
  refine ⟨j / 2, l[j / 2], List.getElem?_eq_getElem hi, ?_⟩
  obtain ⟨h1, h2⟩ := caseCs_at (List.getElem?_eq_getElem hi)
  rcases Nat.mod_two_eq_zero_or_one j with hm | hm
  · have e : j = j / 2 * 2 := by omega
    left; refine ⟨e, ?_⟩
    rw [← e, h] at h1; injection h1
  · have e : j = j / 2 * 2 + 1 := by omega
    right; refine ⟨e, ?_⟩
    rw [← e, h] at h2; injection h2
theorem unf_keep {w w' : World} {b : Nat} (h : Unf w b) (he : w'.heap[b]? = w.heap[b]?) : Unf w' b := by
  obtain ⟨cs, t, h⟩ := h
  exact ⟨cs, t, he.trans h⟩
/-- A block's ten cells, its lists apart. -/
structure BlkV (cur : Array Value) (o : Nat) (x : PBlk) (vk vc vt : Value) : Prop where
  ck : cur[o]? = some vk
  kind : cur[o + 1]? = some (.int .i64 x.fin.kind)
  op : cur[o + 2]? = some (.int .i64 x.fin.op)
  fa : cur[o + 3]? = some (.int .i64 x.fin.a)
  fb : cur[o + 4]? = some (.int .i64 x.fin.b)
  n : cur[o + 5]? = some (.int .u32 x.fin.n)
  tt : cur[o + 6]? = some (.int .i64 x.fin.to)
  els : cur[o + 7]? = some (.int .i64 x.fin.els)
  cc : cur[o + 8]? = some vc
  ct : cur[o + 9]? = some vt
def arrCs (l : List PArr) : List Value := l.flatMap fun x => [.int .i64 x.kind, .int .i64 x.n]
theorem arrCs_len (l : List PArr) : (arrCs l).length = l.length * 2 := by
  induction l with
  | nil => rfl
  | cons x l ih => simp only [arrCs, List.flatMap_cons, List.length_append, List.length_cons, List.length_nil] at ih ⊢; omega
theorem arrCs_at {l : List PArr} {i : Nat} {x : PArr} (h : l[i]? = some x) : (arrCs l)[i * 2]? = some (.int .i64 x.kind) ∧ (arrCs l)[i * 2 + 1]? = some (.int .i64 x.n) := by
  induction l generalizing i with
  | nil => simp at h
  | cons y l ih =>
    cases i with
    | zero => injection h with h; subst h; exact ⟨rfl, rfl⟩
    | succ i =>
      have h2 := ih (i := i) (by simpa using h)
      have e1 : (i + 1) * 2 = i * 2 + 1 + 1 := by omega
      rw [e1]
      exact h2
theorem arrCs_get {l : List PArr} {j : Nat} {v : Value} (h : (arrCs l)[j]? = some v) : ∃ i x, l[i]? = some x ∧ ((j = i * 2 ∧ v = .int .i64 x.kind) ∨ (j = i * 2 + 1 ∧ v = .int .i64 x.n)) := by
  have hj : j < (arrCs l).length := by
    rcases Nat.lt_or_ge j (arrCs l).length with h2 | h2
    · exact h2
    · rw [List.getElem?_eq_none h2] at h; cases h
  rw [arrCs_len] at hj
  have hi : j / 2 < l.length := by omega
  refine ⟨j / 2, l[j / 2], List.getElem?_eq_getElem hi, ?_⟩
  obtain ⟨h1, h2⟩ := arrCs_at (List.getElem?_eq_getElem hi)
  rcases Nat.mod_two_eq_zero_or_one j with hm | hm
  · have e : j = j / 2 * 2 := by omega
    left; refine ⟨e, ?_⟩
    rw [← e, h] at h1; injection h1
  · have e : j = j / 2 * 2 + 1 := by omega
    right; refine ⟨e, ?_⟩
    rw [← e, h] at h2; injection h2
/-- A graph's four cells, its lists apart. -/
structure GrV (cur : Array Value) (o : Nat) (x : PGr) (vp va vb : Value) : Prop where
  cp : cur[o]? = some vp
  temps : cur[o + 1]? = some (.int .i64 x.temps)
  ca : cur[o + 2]? = some va
  cb : cur[o + 3]? = some vb
theorem new_more {N M : Nat} (w : World) (h : N ≤ M) : Holds2 (cutW (New M w) w) (cutW (New N w) w) := cut_to (Nat.le_refl _) fun _b _ hn => ⟨⟨Nat.le_trans h hn.1, hn.2⟩, rfl⟩
theorem set_row4 {r : Nat} {t : TypeId} {w : World} {z0 z1 z2 z3 : Value} (v0 v1 v2 v3 : Value) (h : w.heap[r]? = some (.cells #[z0, z1, z2, z3] t (0, 0))) :
    w.grownBy ((((w.setCell ⟨r, 0, none⟩ v0).setCell ⟨r, 1, none⟩ v1).setCell ⟨r, 2, none⟩ v2).setCell ⟨r, 3, none⟩ v3) (some r) ∧
    ((((w.setCell ⟨r, 0, none⟩ v0).setCell ⟨r, 1, none⟩ v1).setCell ⟨r, 2, none⟩ v2).setCell ⟨r, 3, none⟩ v3).heap[r]? = some (.cells #[v0, v1, v2, v3] t (0, 0)) := by
  refine ⟨grown_step (grown_step (grown_step (grown_step (World.grownBy.refl w (some r)) (Below.refl _ _)) (Below.refl _ _)) (Below.refl _ _)) (Below.refl _ _), ?_⟩
  exact heap_setCell_same _ r 3 _ t v3 (heap_setCell_same _ r 2 _ t v2 (heap_setCell_same _ r 1 _ t v1 (heap_setCell_same _ r 0 _ t v0 h)))
end Go.Proofs.YtcijaaiopfbffaaDoor.Graph
namespace Go.Proofs.YtcijaaiopfbffaaDoor.Graph
open Go.RowKit

theorem run_append_nil0 {P : Program} (w : World) (t e ty : TypeId) (size : Nat) (hu : P.underlying t = some (.slice e)) (hs : (P.info? e).map (·.size) = some size) (c : Nat) (p : Option Addr) :
    (Builtin.append_ #[t, t] ty #[.slice none 0 0, .slice p 0 c]).run P w = .ok (.slice none 0 0) w := by
  cases hq : P.info? e with
  | none => simp [hq] at hs
  | some i =>
    have hl : ∀ (x : Addr), (loadCells x 0).run P w = .ok #[] w := fun x => by simpa using run_loadCells_list (P := P) w x [] (by simp)
    cases p <;> simp [Builtin.append_, run_underlying hu, Builtin.lenOf, Builtin.firstCells, sizeOf, typeInfo, hq, hl]
theorem wpList_append_nil0 {P : Program} {w : World} {ops : Array Oper} {rest : List Oper} {o : Oper} {a : Act} {Q : Exit → Act → World → Prop} (hgd : o.guard = none) (d s : Operand) (t : TypeId)
    (ho : o.op = .call { callee := .builtin .append, args := #[d, s], argTypes := #[t, t] }) (e : TypeId) (size : Nat) (hu : P.underlying t = some (.slice e)) (hs : (P.info? e).map (·.size) = some size)
    (c : Nat) (p : Option Addr) (hd : a.eval d = .slice none 0 0) (hx : a.eval s = .slice p 0 c)
    (h : wpList P ops Q rest (a.put o.dst (.slice none 0 0)) w) : wpList P ops Q (o :: rest) a w := by
  refine wpList_plain hgd fun K hK => ?_
  have hrun := run_append_nil0 (P := P) w t e o.type size hu hs c p
  unfold Oper.wp
  simp [execOp, ho, resolve, invoke, builtin, hd, hx, hrun, Result.andThen]
  exact hK _ _ h
/-- A row of its own, the world cut down to what is new. -/
theorem ints_of_own_cut {w : World} {B : Nat} {v : Value} {l : List Int} (h : w.ownsRow B 3 1 v l.length (l.map iv)) : IntsR (cutW (New B w) w) v l := by
  have h2 := ints_of_own h
  rcases h.2 with ⟨rfl, h0⟩ | ⟨g, cap, cur, rfl, hB, hg, _⟩
  · exact .inl ⟨h0, none, 0, rfl⟩
  · rcases h2 with h2 | ⟨b, o, c, h3, h4, h5, h6, h7⟩
    · exact .inl h2
    · have hv := h3
      injection hv with e1 e2 e3
      injection e1 with e1
      injection e1 with e1 _ _
      subst e1
      exact .inr ⟨g, o, c, h3, h4, h5, by rw [cutW_size]; exact h6, fun i hi x hx => cutW_cell.2 ⟨⟨hB, _, _, hg⟩, h7 i hi x hx⟩⟩
set_option maxHeartbeats 4000000 in
set_option maxRecDepth 100000 in
theorem refInts_any (l : List Int) (p : Option Addr) (c : Nat) (w : World) (h : IntsR w (.slice p l.length c) l) (hb : l.length * 8 ≤ 140737488355328) :
    Calls Tryd.prog 50 #[.slice p l.length c] w (CopiedI l w) := by
  rcases Nat.eq_zero_or_pos l.length with h0 | h0
  · unfold CopiedI
    have hE : ∀ w' : World, IntsR (cutW (New w.heap.size w') w') (.slice none 0 0) l := fun w' => .inl ⟨h0, _, _, rfl⟩
    rw [h0]
    clear h hb h0
    go_enter Tryd.func50, Tryd.ntmps50
    go_wp2_with (
      at_builtin
      refine wpList_append_nil0 (by rfl) _ _ 22 (by rfl) 3 1 Tryd.underlying22 (by kernel_rfl) c p (by rfl) (by rfl) ?_)
    go_ret
    exact ⟨_, _, rfl, hE _, Below.refl _ _⟩
  · obtain ⟨g, o, c', hv, hcap, hgl, _⟩ := SlR.form2 h h0
    injection hv with hv
    subst hv
    unfold CopiedI
    have HR0 : Hid (w.ownsRow w.heap.size 3 1 (.slice none 0 0) 0 []) := Lib.hid (World.ownsRow_nil _ _ _ _)
    have HNW := Lib.hid (news_many h (Below.refl _ w))
    obtain ⟨i0, hi, hz0, hz1, hz2⟩ := info_parts info_int
    have HI := Lib.hid hi
    obtain ⟨n, hn⟩ : ∃ n, n = l.length := ⟨_, rfl⟩
    have HN := Lib.hid hn
    rw [← hn] at hb h0
    rw [← hn]
    clear h hi hn
    go_enter Tryd.func50, Tryd.ntmps50
    go_wp2_with (
      at_builtin
      go_loud (refine wpList_append_lies _ (by rfl) _ _ 22 (by rfl) w.heap.size 3 i0 _ 1 8 Tryd.underlying22 HI.out hz0 hz1 hz2 rfl (by omega) _ 0 _ (by rfl) HR0.out ⟨g, o, none⟩ n c (l.map iv) (by rfl) (by rw [List.length_map, HN.out, Nat.mul_one]) HNW.out mem_iv h0 (by unfold maxLen; omega) (by omega) (Nat.le_refl _) _ rfl ?_)
      intro g5 c5 w5 h5 h6 h7 h8
      have H5 := Lib.hid h5
      have H6 : Hid (Below w.heap.size w w5) := Lib.hid (Below.grown (Below.refl _ w) h6 (Nat.le_refl _) (fun q hq => by cases hq))
      clear h5 h6 h7 h8)
    go_ret
    have hnn := HN.out
    subst hnn
    have h5 := H5.out
    rw [Nat.zero_add, List.nil_append] at h5
    exact ⟨_, _, rfl, IntsR.holds (new_more _ (Nat.le_refl _)) (ints_of_own_cut h5), H6.out⟩
end Go.Proofs.YtcijaaiopfbffaaDoor.Graph
namespace Go.Proofs.YtcijaaiopfbffaaDoor.Graph
open Go.RowKit

/-- The first k elements of a list, in a row of its own from block B on; what their lists hold lies in the blocks of G, none of which is the row's. -/
structure RowIn {X L : Type} (t : TypeId) (sz : Nat) (E : Array Value → Nat → X → L → Prop) (C : World → L → X → Prop) (G : Nat → Prop) (D B : Nat) (l : List X) (k : Nat) (v : Value) (w : World) : Prop where
  row : ∃ xs, w.ownsRow B t sz v k xs ∧ ∀ i x, i < k → l[i]? = some x → ∃ u, E xs.toArray (i * sz) x u ∧ C (cutW G w) u x
  low : ∀ b, G b → D ≤ b
  lt : ∀ b, G b → b < w.heap.size
  unf : ∀ b, G b → Unf w b
  off : ∀ b, G b → v.ownBlock ≠ some b
theorem ownsRow_same {w w' : World} {B : Nat} {t : TypeId} {sz : Nat} {v : Value} {n : Nat} {xs : List Value} (h : w.ownsRow B t sz v n xs) (he : ∀ b, v.ownBlock = some b → w'.heap[b]? = w.heap[b]?) : w'.ownsRow B t sz v n xs := by
  obtain ⟨h1, h2 | ⟨g, cap, cur, rfl, h3, h4, h5⟩⟩ := h
  · exact ⟨h1, .inl h2⟩
  · exact ⟨h1, .inr ⟨g, cap, cur, rfl, h3, (he g rfl).trans h4, h5⟩⟩
theorem cut_same {G : Nat → Prop} {w w' : World} (hs : w.heap.size ≤ w'.heap.size) (he : ∀ b, G b → w'.heap[b]? = w.heap[b]?) : Holds2 (cutW G w) (cutW G w') := cut_to hs fun b _ hb => ⟨hb, he b hb⟩
theorem cut_more {G G' : Nat → Prop} (w : World) (h : ∀ b, G b → G' b) : Holds2 (cutW G w) (cutW G' w) := cut_to (Nat.le_refl _) fun b _ hb => ⟨h b hb, rfl⟩
section
variable {X L : Type} {t : TypeId} {sz : Nat} {E : Array Value → Nat → X → L → Prop} {C : World → L → X → Prop} {G : Nat → Prop} {D B : Nat} {l : List X} {k : Nat} {v : Value} {w : World}
theorem RowIn.step (hC : ∀ w w' u x, Holds2 w w' → C w u x → C w' u x) (h : RowIn t sz E C G D B l k v w) {w' : World} (hs : w.heap.size ≤ w'.heap.size) (he : ∀ b, G b ∨ v.ownBlock = some b → w'.heap[b]? = w.heap[b]?) : RowIn t sz E C G D B l k v w' := by
  obtain ⟨xs, h1, h2⟩ := h.row
  refine ⟨⟨xs, ownsRow_same h1 (fun b hb => he b (.inr hb)), fun i x hi hx => ?_⟩, h.low, fun b hb => Nat.lt_of_lt_of_le (h.lt b hb) hs, fun b hb => unf_keep (h.unf b hb) (he b (.inl hb)), h.off⟩
  obtain ⟨u, h3, h4⟩ := h2 i x hi hx
  exact ⟨u, h3, hC _ _ _ _ (cut_same hs (fun b hb => he b (.inl hb))) h4⟩
theorem RowIn.wide (hC : ∀ w w' u x, Holds2 w w' → C w u x → C w' u x) (h : RowIn t sz E C G D B l k v w) {G' : Nat → Prop} (hG : ∀ b, G' b → G b ∨ (D ≤ b ∧ b < w.heap.size ∧ Unf w b ∧ v.ownBlock ≠ some b)) (hG' : ∀ b, G b → G' b) : RowIn t sz E C G' D B l k v w := by
  obtain ⟨xs, h1, h2⟩ := h.row
  refine ⟨⟨xs, h1, fun i x hi hx => ?_⟩, fun b hb => ?_, fun b hb => ?_, fun b hb => ?_, fun b hb => ?_⟩
  · obtain ⟨u, h3, h4⟩ := h2 i x hi hx
    exact ⟨u, h3, hC _ _ _ _ (cut_more w hG') h4⟩
  · rcases hG b hb with h3 | h3
    · exact h.low b h3
    · exact h3.1
  · rcases hG b hb with h3 | h3
    · exact h.lt b h3
    · exact h3.2.1
  · rcases hG b hb with h3 | h3
    · exact h.unf b h3
    · exact h3.2.2.1
  · rcases hG b hb with h3 | h3
    · exact h.off b h3
    · exact h3.2.2.2
theorem RowIn.nil (G : Nat → Prop) (D B : Nat) (l : List X) (w : World) (h1 : ∀ b, G b → D ≤ b) (h2 : ∀ b, G b → b < w.heap.size) (h3 : ∀ b, G b → Unf w b) : RowIn t sz E C G D B l 0 (.slice none 0 0) w :=
  ⟨⟨[], World.ownsRow_nil _ _ _ _, fun i _ hi => by omega⟩, h1, h2, h3, fun _ _ h => by cases h⟩
theorem RowIn.push (hC : ∀ w w' u x, Holds2 w w' → C w u x → C w' u x) (hE : ∀ xs ys o x u, E (List.toArray xs) o x u → E (List.toArray (xs ++ ys)) o x u) (hE' : ∀ xs ys x u, E (List.toArray ys) 0 x u → E (List.toArray (xs ++ ys)) xs.length x u)
    (h : RowIn t sz E C G D B l k v w) {xs news : List Value} (h1 : w.ownsRow B t sz v k xs) (h2 : ∀ i x, i < k → l[i]? = some x → ∃ u, E xs.toArray (i * sz) x u ∧ C (cutW G w) u x)
    {x : X} {u : L} (hx : l[k]? = some x) (hu : E news.toArray 0 x u) (hc : C (cutW G w) u x) {w' : World} {g cap : Nat} (h3 : w'.ownsRow B t sz (.slice (some ⟨g, 0, none⟩) (k + 1) cap) (k + 1) (xs ++ news)) (h4 : w.grownBy w' v.ownBlock) (h5 : v.ownBlock = some g ∨ g = w.heap.size) :
    RowIn t sz E C G D B l (k + 1) (.slice (some ⟨g, 0, none⟩) (k + 1) cap) w' := by
  have he : ∀ b, G b → w'.heap[b]? = w.heap[b]? := fun b hb => h4.block b (h.lt b hb) (fun e => h.off b hb e.symm)
  have hh := cut_same h4.size he
  refine ⟨⟨_, h3, fun i y hi hy => ?_⟩, h.low, fun b hb => Nat.lt_of_lt_of_le (h.lt b hb) h4.size, fun b hb => unf_keep (h.unf b hb) (he b hb), fun b hb e => ?_⟩
  · by_cases hik : i = k
    · subst hik
      rw [hx] at hy
      injection hy with hy
      subst hy
      refine ⟨u, ?_, hC _ _ _ _ hh hc⟩
      have := hE' xs news x u hu
      rwa [h1.1] at this
    · obtain ⟨u', h6, h7⟩ := h2 i y (by omega) hy
      exact ⟨u', hE _ _ _ _ _ h6, hC _ _ _ _ hh h7⟩
  · injection e with e
    have e2 : g = b := e
    subst e2
    rcases h5 with h5 | h5
    · exact h.off _ hb h5
    · have := h.lt _ hb; omega
/-- Its blocks: those of what it holds, and its own. -/
theorem RowIn.blocks (h : RowIn t sz E C G D B l k v w) (b : Nat) (hb : G b ∨ v.ownBlock = some b) : (D ≤ b ∨ B ≤ b) ∧ b < w.heap.size ∧ Unf w b := by
  rcases hb with hb | hb
  · exact ⟨.inl (h.low b hb), h.lt b hb, h.unf b hb⟩
  · obtain ⟨xs, h1, _⟩ := h.row
    obtain ⟨_, ⟨rfl, _⟩ | ⟨g, cap, cur, rfl, h3, h4, _⟩⟩ := h1
    · cases hb
    · injection hb with hb
      subst hb
      exact ⟨.inr h3, lt_of_block h4, _, _, h4⟩
end
theorem at_more {xs ys : List Value} {o : Nat} {v : Value} (h : xs.toArray[o]? = some v) : (xs ++ ys).toArray[o]? = some v := by
  simp only [List.getElem?_toArray] at h ⊢
  have hl : o < xs.length := by
    rcases Nat.lt_or_ge o xs.length with h2 | h2
    · exact h2
    · rw [List.getElem?_eq_none h2] at h; cases h
  rw [List.getElem?_append_left hl]; exact h
theorem at_new {xs ys : List Value} {o : Nat} {v : Value} (h : ys.toArray[o]? = some v) : (xs ++ ys).toArray[xs.length + o]? = some v := by
  simp only [List.getElem?_toArray] at h ⊢
  rw [List.getElem?_append_right (Nat.le_add_right _ _), Nat.add_sub_cancel_left]; exact h
theorem at_new0 {xs ys : List Value} {o : Nat} {v : Value} (h : ys.toArray[0 + o]? = some v) : (xs ++ ys).toArray[xs.length + o]? = some v := at_new (by rwa [Nat.zero_add] at h)
/-- An instruction's eight cells. -/
structure InsV (cur : Array Value) (o : Nat) (x : PIns) (u : Value × Value) : Prop where
  op : cur[o]? = some (.int .i64 x.op)
  d : cur[o + 1]? = some (.int .i64 x.d)
  fa : cur[o + 2]? = some (.int .i64 x.a)
  fb : cur[o + 3]? = some (.int .i64 x.b)
  f : cur[o + 4]? = some (.int .i64 x.f)
  n : cur[o + 5]? = some (.int .u32 x.n)
  ca : cur[o + 6]? = some u.1
  cr : cur[o + 7]? = some u.2
def insC (w : World) (u : Value × Value) (x : PIns) : Prop := InsL w u.1 u.2 x
theorem insC_holds (w w' : World) (u : Value × Value) (x : PIns) (hb : Holds2 w w') (h : insC w u x) : insC w' u x := InsL.holds hb h
theorem insV_more (xs ys : List Value) (o : Nat) (x : PIns) (u : Value × Value) (h : InsV xs.toArray o x u) : InsV (xs ++ ys).toArray o x u :=
  ⟨at_more h.op, at_more h.d, at_more h.fa, at_more h.fb, at_more h.f, at_more h.n, at_more h.ca, at_more h.cr⟩
theorem insV_new (xs ys : List Value) (x : PIns) (u : Value × Value) (h : InsV ys.toArray 0 x u) : InsV (xs ++ ys).toArray xs.length x u :=
  ⟨at_new (o := 0) h.op, at_new0 h.d, at_new0 h.fa, at_new0 h.fb, at_new0 h.f, at_new0 h.n, at_new0 h.ca, at_new0 h.cr⟩
def BlkW (cur : Array Value) (o : Nat) (x : PBlk) (u : Value × Value × Value) : Prop := BlkV cur o x u.1 u.2.1 u.2.2
def blkC (w : World) (u : Value × Value × Value) (x : PBlk) : Prop := CodeR w u.1 x.code ∧ EndL w u.2.1 u.2.2 x.fin
theorem blkC_holds (w w' : World) (u : Value × Value × Value) (x : PBlk) (hb : Holds2 w w') (h : blkC w u x) : blkC w' u x := ⟨CodeR.holds hb h.1, EndL.holds hb h.2⟩
theorem blkW_more (xs ys : List Value) (o : Nat) (x : PBlk) (u : Value × Value × Value) (h : BlkW xs.toArray o x u) : BlkW (xs ++ ys).toArray o x u :=
  ⟨at_more h.ck, at_more h.kind, at_more h.op, at_more h.fa, at_more h.fb, at_more h.n, at_more h.tt, at_more h.els, at_more h.cc, at_more h.ct⟩
theorem blkW_new (xs ys : List Value) (x : PBlk) (u : Value × Value × Value) (h : BlkW ys.toArray 0 x u) : BlkW (xs ++ ys).toArray xs.length x u :=
  ⟨at_new (o := 0) h.ck, at_new0 h.kind, at_new0 h.op, at_new0 h.fa, at_new0 h.fb, at_new0 h.n, at_new0 h.tt, at_new0 h.els, at_new0 h.cc, at_new0 h.ct⟩
def GrW (cur : Array Value) (o : Nat) (x : PGr) (u : Value × Value × Value) : Prop := GrV cur o x u.1 u.2.1 u.2.2
def grC (w : World) (u : Value × Value × Value) (x : PGr) : Prop := GrL w u.1 u.2.1 u.2.2 x
theorem grC_holds (w w' : World) (u : Value × Value × Value) (x : PGr) (hb : Holds2 w w') (h : grC w u x) : grC w' u x := GrL.holds hb h
theorem grW_more (xs ys : List Value) (o : Nat) (x : PGr) (u : Value × Value × Value) (h : GrW xs.toArray o x u) : GrW (xs ++ ys).toArray o x u :=
  ⟨at_more h.cp, at_more h.temps, at_more h.ca, at_more h.cb⟩
theorem grW_new (xs ys : List Value) (x : PGr) (u : Value × Value × Value) (h : GrW ys.toArray 0 x u) : GrW (xs ++ ys).toArray xs.length x u :=
  ⟨at_new (o := 0) h.cp, at_new0 h.temps, at_new0 h.ca, at_new0 h.cb⟩
/-- A row that is whole: each element's cells lie there. -/
theorem row_cells {w : World} {B : Nat} {t : TypeId} {sz : Nat} {v : Value} {n : Nat} {xs : List Value} (h : w.ownsRow B t sz v n xs) (hn : 0 < n) : ∃ g cap, v = .slice (some ⟨g, 0, none⟩) n cap ∧ n ≤ cap ∧ cap ≤ 9223372036854775807 ∧ g < w.heap.size ∧ ∀ (o : Nat) (y : Value), xs.toArray[o]? = some y → w.cell? ⟨g, o, none⟩ = some y := by
  obtain ⟨h1, ⟨_, h0⟩ | ⟨g, cap, cur, rfl, h3, h4, h5, h6, h7, h8⟩⟩ := h
  · omega
  · refine ⟨g, cap, rfl, h5, h6, lt_of_block h4, fun o y hy => ?_⟩
    refine (cell_of_block h4 ?_).1
    simp only [List.getElem?_toArray] at hy
    rw [← h8, List.getElem?_take] at hy
    split at hy
    · rw [← Array.getElem?_toList]; exact hy
    · cases hy
theorem RowIn.code {G : Nat → Prop} {D B : Nat} {l : List PIns} {v : Value} {w : World} (h : RowIn 77 8 InsV insC G D B l l.length v w) : CodeR (cutW (fun b => G b ∨ v.ownBlock = some b) w) v l := by
  obtain ⟨xs, h1, h2⟩ := h.row
  rcases Nat.eq_zero_or_pos l.length with h0 | h0
  · obtain ⟨_, ⟨rfl, _⟩ | ⟨g, cap, cur, rfl, _⟩⟩ := h1
    · exact .inl ⟨h0, _, _, rfl⟩
    · rw [h0]; exact .inl ⟨h0, _, _, rfl⟩
  · obtain ⟨g, cap, rfl, h3, h4, h5, h6⟩ := row_cells h1 h0
    have hin : ∀ (o : Nat) (y : Value), xs.toArray[o]? = some y → (cutW (fun b => G b ∨ (Value.slice (some ⟨g, 0, none⟩) l.length cap).ownBlock = some b) w).cell? ⟨g, o, none⟩ = some y := fun o y hy => cutW_cell.2 ⟨.inr rfl, h6 o y hy⟩
    refine .inr ⟨g, 0, cap, rfl, h0, ⟨h3, h4⟩, by rw [cutW_size]; exact h5, fun i hi x hx => ?_⟩
    obtain ⟨u, h7, h8⟩ := h2 i x hi hx
    rw [Nat.zero_add]
    exact ⟨u.1, u.2, hin _ _ h7.op, hin _ _ h7.d, hin _ _ h7.fa, hin _ _ h7.fb, hin _ _ h7.f, hin _ _ h7.n, hin _ _ h7.ca, hin _ _ h7.cr, InsL.holds (cut_more w fun b hb => .inl hb) h8⟩
theorem RowIn.blks {G : Nat → Prop} {D B : Nat} {l : List PBlk} {v : Value} {w : World} (h : RowIn 42 10 BlkW blkC G D B l l.length v w) : BlksR (cutW (fun b => G b ∨ v.ownBlock = some b) w) v l := by
  obtain ⟨xs, h1, h2⟩ := h.row
  rcases Nat.eq_zero_or_pos l.length with h0 | h0
  · obtain ⟨_, ⟨rfl, _⟩ | ⟨g, cap, cur, rfl, _⟩⟩ := h1
    · exact .inl ⟨h0, _, _, rfl⟩
    · rw [h0]; exact .inl ⟨h0, _, _, rfl⟩
  · obtain ⟨g, cap, rfl, h3, h4, h5, h6⟩ := row_cells h1 h0
    have hin : ∀ (o : Nat) (y : Value), xs.toArray[o]? = some y → (cutW (fun b => G b ∨ (Value.slice (some ⟨g, 0, none⟩) l.length cap).ownBlock = some b) w).cell? ⟨g, o, none⟩ = some y := fun o y hy => cutW_cell.2 ⟨.inr rfl, h6 o y hy⟩
    refine .inr ⟨g, 0, cap, rfl, h0, ⟨h3, h4⟩, by rw [cutW_size]; exact h5, fun i hi x hx => ?_⟩
    obtain ⟨u, h7, h8⟩ := h2 i x hi hx
    have e1 : ∀ k, i * 10 + 1 + k = i * 10 + (k + 1) := fun k => by omega
    rw [Nat.zero_add]
    exact ⟨u.1, u.2.1, u.2.2, hin _ _ h7.ck, CodeR.holds (cut_more w fun b hb => .inl hb) h8.1, hin _ _ h7.kind, by rw [e1]; exact hin _ _ h7.op, by rw [e1]; exact hin _ _ h7.fa, by rw [e1]; exact hin _ _ h7.fb, by rw [e1]; exact hin _ _ h7.n, by rw [e1]; exact hin _ _ h7.tt, by rw [e1]; exact hin _ _ h7.els, by rw [e1]; exact hin _ _ h7.cc, by rw [e1]; exact hin _ _ h7.ct, EndL.holds (cut_more w fun b hb => .inl hb) h8.2⟩
theorem RowIn.grs {G : Nat → Prop} {D B : Nat} {l : List PGr} {v : Value} {w : World} (h : RowIn 26 4 GrW grC G D B l l.length v w) : GrsR (cutW (fun b => G b ∨ v.ownBlock = some b) w) v l := by
  obtain ⟨xs, h1, h2⟩ := h.row
  rcases Nat.eq_zero_or_pos l.length with h0 | h0
  · obtain ⟨_, ⟨rfl, _⟩ | ⟨g, cap, cur, rfl, _⟩⟩ := h1
    · exact .inl ⟨h0, _, _, rfl⟩
    · rw [h0]; exact .inl ⟨h0, _, _, rfl⟩
  · obtain ⟨g, cap, rfl, h3, h4, h5, h6⟩ := row_cells h1 h0
    have hin : ∀ (o : Nat) (y : Value), xs.toArray[o]? = some y → (cutW (fun b => G b ∨ (Value.slice (some ⟨g, 0, none⟩) l.length cap).ownBlock = some b) w).cell? ⟨g, o, none⟩ = some y := fun o y hy => cutW_cell.2 ⟨.inr rfl, h6 o y hy⟩
    refine .inr ⟨g, 0, cap, rfl, h0, ⟨h3, h4⟩, by rw [cutW_size]; exact h5, fun i hi x hx => ?_⟩
    obtain ⟨u, h7, h8⟩ := h2 i x hi hx
    rw [Nat.zero_add]
    exact ⟨u.1, u.2.1, u.2.2, hin _ _ h7.cp, hin _ _ h7.temps, hin _ _ h7.ca, hin _ _ h7.cb, GrL.holds (cut_more w fun b hb => .inl hb) h8⟩
end Go.Proofs.YtcijaaiopfbffaaDoor.Graph
namespace Go.Proofs.YtcijaaiopfbffaaDoor.Graph
open Go.RowKit

def CopiedG (x : PGr) (w : World) (e : Ending) (w' : World) : Prop := ∃ pq aq bq pc ac bc, e = .returned (grV x (.slice pq x.params.length pc) (.slice aq x.arrays.length ac) (.slice bq x.blocks.length bc)) ∧ GrL (cutW (New w.heap.size w') w') (.slice pq x.params.length pc) (.slice aq x.arrays.length ac) (.slice bq x.blocks.length bc) x ∧ Below w.heap.size w w'
/-- A block under construction at g5: its first i instructions. -/
structure InB (bk : PBlk) (wk : World) (g5 : Nat) (G : Nat → Prop) (kq cq tq : Option Addr) (kc cc tc : Nat) (i : Nat) (wr : World) : Prop where
  old : Below g5 wk wr
  row : RowIn 77 8 InsV insC G (g5 + 1) (g5 + 1) bk.code i (.slice kq i kc) wr
  fin : EndL (cutW G wr) (.slice cq bk.fin.cases.length cc) (.slice tq bk.fin.targets.length tc) bk.fin
  cell : wr.heap[g5]? = some (.cells #[.slice kq i kc, .int .i64 bk.fin.kind, .int .i64 bk.fin.op, .int .i64 bk.fin.a, .int .i64 bk.fin.b, .int .u32 bk.fin.n, .int .i64 bk.fin.to, .int .i64 bk.fin.els, .slice cq bk.fin.cases.length cc, .slice tq bk.fin.targets.length tc] 42 (0, 0))
theorem InB.step {bk : PBlk} {wk wr w' : World} {g5 : Nat} {G : Nat → Prop} {kq cq tq : Option Addr} {kc cc tc i : Nat} (h : InB bk wk g5 G kq cq tq kc cc tc i wr) (hb : Below wr.heap.size wr w') : InB bk wk g5 G kq cq tq kc cc tc i w' := by
  have hl := lt_of_block h.cell
  refine ⟨h.old.trans (hb.mono (Nat.le_of_lt hl)), h.row.step insC_holds hb.size fun b hb2 => hb.block b (h.row.blocks b hb2).2.1, EndL.holds (cut_same hb.size fun b hg => hb.block b (h.row.lt b hg)) h.fin, (hb.block g5 hl).trans h.cell⟩
theorem InB.wide {bk : PBlk} {wk wr : World} {g5 : Nat} {G G' : Nat → Prop} {kq cq tq : Option Addr} {kc cc tc i : Nat} (h : InB bk wk g5 G kq cq tq kc cc tc i wr) (hG : ∀ b, G' b → G b ∨ (g5 + 1 ≤ b ∧ b < wr.heap.size ∧ Unf wr b ∧ (Value.slice kq i kc).ownBlock ≠ some b)) (hG' : ∀ b, G b → G' b) : InB bk wk g5 G' kq cq tq kc cc tc i wr :=
  ⟨h.old, h.row.wide insC_holds hG hG', EndL.holds (cut_more wr hG') h.fin, h.cell⟩
/-- What an instruction with lists of its own takes: g7 is its cell. -/
theorem mk_two {x : PIns} {wr wa wb : World} {va vr v1 v2 : Value} {t : TypeId}
    (b1 : Below (wr.alloc (.cells #[.int .i64 x.op, .int .i64 x.d, .int .i64 x.a, .int .i64 x.b, .int .i64 x.f, .int .u32 x.n, va, vr] t)).heap.size (wr.alloc (.cells #[.int .i64 x.op, .int .i64 x.d, .int .i64 x.a, .int .i64 x.b, .int .i64 x.f, .int .u32 x.n, va, vr] t)) wa)
    (l1 : IntsR (cutW (New (wr.alloc (.cells #[.int .i64 x.op, .int .i64 x.d, .int .i64 x.a, .int .i64 x.b, .int .i64 x.f, .int .u32 x.n, va, vr] t)).heap.size wa) wa) v1 x.args)
    (b2 : Below (wa.setCell ⟨wr.heap.size, 6, none⟩ v1).heap.size (wa.setCell ⟨wr.heap.size, 6, none⟩ v1) wb)
    (l2 : IntsR (cutW (New (wa.setCell ⟨wr.heap.size, 6, none⟩ v1).heap.size wb) wb) v2 x.arrs) (hn : 0 ≤ x.n ∧ x.n ≤ 4294967295) :
    Below wr.heap.size wr (wb.setCell ⟨wr.heap.size, 7, none⟩ v2) ∧
    (wb.setCell ⟨wr.heap.size, 7, none⟩ v2).heap[wr.heap.size]? = some (.cells #[.int .i64 x.op, .int .i64 x.d, .int .i64 x.a, .int .i64 x.b, .int .i64 x.f, .int .u32 x.n, v1, v2] t (0, 0)) ∧
    InsL (cutW (New (wr.heap.size + 1) (wb.setCell ⟨wr.heap.size, 7, none⟩ v2)) (wb.setCell ⟨wr.heap.size, 7, none⟩ v2)) v1 v2 x := by
  have h0 := heap_new wr (.cells #[.int .i64 x.op, .int .i64 x.d, .int .i64 x.a, .int .i64 x.b, .int .i64 x.f, .int .u32 x.n, va, vr] t)
  have hb0 := below_alloc wr (.cells #[.int .i64 x.op, .int .i64 x.d, .int .i64 x.a, .int .i64 x.b, .int .i64 x.f, .int .u32 x.n, va, vr] t)
  have hs1 : (wr.alloc (.cells #[.int .i64 x.op, .int .i64 x.d, .int .i64 x.a, .int .i64 x.b, .int .i64 x.f, .int .u32 x.n, va, vr] t)).heap.size = wr.heap.size + 1 := World.size_alloc _ _
  generalize wr.alloc (.cells #[.int .i64 x.op, .int .i64 x.d, .int .i64 x.a, .int .i64 x.b, .int .i64 x.f, .int .u32 x.n, va, vr] t) = w1 at *
  generalize hg : wr.heap.size = g at *
  have g1 : w1.grownBy (wa.setCell ⟨g, 6, none⟩ v1) (some g) := grown_step (World.grownBy.refl _ _) b1
  have g2 : (wa.setCell ⟨g, 6, none⟩ v1).grownBy (wb.setCell ⟨g, 7, none⟩ v2) (some g) := grown_step (World.grownBy.refl _ _) b2
  have k1 := (b1.block g (by omega)).trans h0
  have k2 := heap_setCell_same wa g 6 _ t v1 k1
  have k3 := (b2.block g (lt_of_block k2)).trans k2
  have k4 := heap_setCell_same wb g 7 _ t v2 k3
  have hsa : (wa.setCell ⟨g, 6, none⟩ v1).heap.size = wa.heap.size := by simp
  have hsb : (wb.setCell ⟨g, 7, none⟩ v2).heap.size = wb.heap.size := by simp
  have sa := b1.size
  have sb := b2.size
  refine ⟨Below.grown hb0 (grown_trans g1 g2) (by omega) (fun k hk => by injection hk with hk; omega), k4, ?_, ?_, hn⟩
  · refine IntsR.holds (cut_to (by omega) fun b hb hn => ?_) l1
    have hne : b ≠ g := by have := hn.1; omega
    have e : (wb.setCell ⟨g, 7, none⟩ v2).heap[b]? = wa.heap[b]? := by
      rw [heap_setCell_other wb ⟨g, _, none⟩ b _ (fun e => hne e), b2.block b (by omega), heap_setCell_other wa ⟨g, _, none⟩ b _ (fun e => hne e)]
    exact ⟨⟨by have := hn.1; omega, unf_keep hn.2 e⟩, e⟩
  · refine IntsR.holds (cut_to (by omega) fun b hb hn => ?_) l2
    have hne : b ≠ g := by have := hn.1; omega
    have e : (wb.setCell ⟨g, 7, none⟩ v2).heap[b]? = wb.heap[b]? := heap_setCell_other wb ⟨g, _, none⟩ b _ (fun e => hne e)
    exact ⟨⟨by have := hn.1; omega, unf_keep hn.2 e⟩, e⟩
/-- One instruction more is ready at w3: it may be appended. -/
theorem InB.ready {bk : PBlk} {wk wr w3 : World} {g5 : Nat} {G : Nat → Prop} {kq cq tq : Option Addr} {kc cc tc i : Nat} (h : InB bk wk g5 G kq cq tq kc cc tc i wr) {x : PIns} {v1 v2 : Value} (hb : Below wr.heap.size wr w3) (hl : InsL (cutW (New (wr.heap.size + 1) w3) w3) v1 v2 x) (o : Obj) :
    ∃ G', InB bk wk g5 G' kq cq tq kc cc tc i (w3.alloc o) ∧ insC (cutW G' (w3.alloc o)) (v1, v2) x := by
  have hl5 := lt_of_block h.cell
  have h3 := h.step hb
  have hal := below_alloc w3 o
  have h4 : InB bk wk g5 (fun b => G b ∨ (wr.heap.size + 1 ≤ b ∧ b < w3.heap.size ∧ Unf w3 b)) kq cq tq kc cc tc i w3 := by
    refine h3.wide (fun b hb2 => ?_) (fun b hb2 => .inl hb2)
    rcases hb2 with hb2 | ⟨h5, h6, h7⟩
    · exact .inl hb2
    · refine .inr ⟨by omega, h6, h7, fun e => ?_⟩
      have := (h.row.blocks b (.inr e)).2.1
      omega
  refine ⟨_, h4.step hal, InsL.holds (cut_to hal.size fun b hb2 hn => ?_) hl⟩
  exact ⟨.inr ⟨hn.1, hb2, hn.2⟩, hal.block b hb2⟩
theorem InB.close {bk : PBlk} {wk w4 w5 : World} {g5 : Nat} {G : Nat → Prop} {kq cq tq : Option Addr} {kc cc tc i : Nat} (h : InB bk wk g5 G kq cq tq kc cc tc i w4) {x : PIns} {u : Value × Value} (hc : insC (cutW G w4) u x) (hx : bk.code[i]? = some x)
    {xs news : List Value} (h1 : w4.ownsRow (g5 + 1) 77 8 (.slice kq i kc) i xs) (h2 : ∀ j y, j < i → bk.code[j]? = some y → ∃ u, InsV xs.toArray (j * 8) y u ∧ insC (cutW G w4) u y) (hu : InsV news.toArray 0 x u)
    {g cap : Nat} (h3 : w5.ownsRow (g5 + 1) 77 8 (.slice (some ⟨g, 0, none⟩) (i + 1) cap) (i + 1) (xs ++ news)) (h4 : w4.grownBy w5 (Value.slice kq i kc).ownBlock) (h5 : (Value.slice kq i kc).ownBlock = some g ∨ g = w4.heap.size) :
    InB bk wk g5 G (some ⟨g, 0, none⟩) cq tq cap cc tc (i + 1) (w5.setCell ⟨g5, 0, none⟩ (.slice (some ⟨g, 0, none⟩) (i + 1) cap)) := by
  have hl5 := lt_of_block h.cell
  have hrow := h.row.push insC_holds insV_more insV_new h1 h2 hx hu hc h3 h4 h5
  have hown : ∀ b, (Value.slice kq i kc).ownBlock = some b → g5 + 1 ≤ b := fun b e => by rcases (h.row.blocks b (.inr e)).1 with h6 | h6 <;> exact h6
  have hle := h.old.size
  have e5 : w5.heap[g5]? = w4.heap[g5]? := h4.block g5 hl5 (fun e => by have := hown g5 e.symm; omega)
  have oth : ∀ b, b ≠ g5 → (w5.setCell ⟨g5, 0, none⟩ (.slice (some ⟨g, 0, none⟩) (i + 1) cap)).heap[b]? = w5.heap[b]? := fun b hne => heap_setCell_other w5 ⟨g5, 0, none⟩ b _ (fun e => hne e)
  have hs : (w5.setCell ⟨g5, 0, none⟩ (.slice (some ⟨g, 0, none⟩) (i + 1) cap)).heap.size = w5.heap.size := by simp
  refine ⟨?_, hrow.step insC_holds (by omega) (fun b hb => oth b ?_), EndL.holds (cut_same (by rw [hs]; exact h4.size) fun b hg => (oth b ?_).trans (h4.block b (h.row.lt b hg) (fun e => h.row.off b hg e.symm))) h.fin, ?_⟩
  · have hb4 : Below w4.heap.size w4 w4 := Below.refl _ _
    refine h.old.trans (Below.grown (Below.grown (Below.refl g5 w4) h4 (Nat.le_of_lt hl5) (fun k hk => by have := hown k hk; omega)) (grown_step (World.grownBy.refl w5 (some g5)) (Below.refl _ _)) (by have := h4.size; omega) (fun k hk => by injection hk with hk; omega))
  · rcases (hrow.blocks b hb).1 with h6 | h6 <;> omega
  · have := h.row.low b hg; omega
  · exact heap_setCell_same w5 g5 0 _ _ _ (e5.trans h.cell)
end Go.Proofs.YtcijaaiopfbffaaDoor.Graph
namespace Go.Proofs.YtcijaaiopfbffaaDoor.Graph
open Go.RowKit

/-- The graph under construction at g3: its parameters. -/
structure StG (x : PGr) (w0 : World) (box : Array Value) (g3 : Nat) (G : Nat → Prop) (pq : Option Addr) (pc : Nat) (wr : World) : Prop where
  old : Below w0.heap.size w0 wr
  box : wr.heap[w0.heap.size]? = some (.cells box 26 (0, 0))
  res : wr.heap[w0.heap.size + 1]? = some (.cells #[.slice none 0 0, .int .i64 0, .slice none 0 0, .slice none 0 0] 26 (0, 0))
  low : w0.heap.size + 1 < g3
  params : IntsR (cutW G wr) (.slice pq x.params.length pc) x.params
  cell : wr.heap[g3]? = some (.cells #[.slice pq x.params.length pc, .int .i64 x.temps, .slice none 0 0, .slice none 0 0] 26 (0, 0))
  glow : ∀ b, G b → w0.heap.size ≤ b
  glt : ∀ b, G b → b < wr.heap.size
  gunf : ∀ b, G b → Unf wr b
  off : ∀ b, G b → b ≠ w0.heap.size ∧ b ≠ w0.heap.size + 1 ∧ b ≠ g3
/-- The graph under construction at g3: its first k blocks. -/
structure OutG (x : PGr) (w0 : World) (box : Array Value) (g3 : Nat) (G : Nat → Prop) (pq aq bq : Option Addr) (pc ac bc : Nat) (k : Nat) (wr : World) : Prop where
  old : Below w0.heap.size w0 wr
  box : wr.heap[w0.heap.size]? = some (.cells box 26 (0, 0))
  res : wr.heap[w0.heap.size + 1]? = some (.cells #[.slice none 0 0, .int .i64 0, .slice none 0 0, .slice none 0 0] 26 (0, 0))
  low : w0.heap.size + 1 < g3
  row : RowIn 42 10 BlkW blkC G w0.heap.size (g3 + 1) x.blocks k (.slice bq k bc) wr
  params : IntsR (cutW G wr) (.slice pq x.params.length pc) x.params
  arrays : ArrsR (cutW G wr) (.slice aq x.arrays.length ac) x.arrays
  cell : wr.heap[g3]? = some (.cells #[.slice pq x.params.length pc, .int .i64 x.temps, .slice aq x.arrays.length ac, .slice bq k bc] 26 (0, 0))
  off : ∀ b, G b → b ≠ w0.heap.size ∧ b ≠ w0.heap.size + 1 ∧ b ≠ g3
theorem OutG.step {x : PGr} {w0 wr w' : World} {box : Array Value} {g3 : Nat} {G : Nat → Prop} {pq aq bq : Option Addr} {pc ac bc k : Nat} (h : OutG x w0 box g3 G pq aq bq pc ac bc k wr) (hb : Below wr.heap.size wr w') : OutG x w0 box g3 G pq aq bq pc ac bc k w' := by
  have hl := lt_of_block h.cell
  have hs := h.old.size
  have hk : ∀ b, G b → w'.heap[b]? = wr.heap[b]? := fun b hg => hb.block b (h.row.lt b hg)
  exact ⟨h.old.trans (hb.mono hs), (hb.block _ (by have := h.low; omega)).trans h.box, (hb.block _ (by have := h.low; omega)).trans h.res, h.low, h.row.step blkC_holds hb.size fun b hb2 => hb.block b (h.row.blocks b hb2).2.1,
    IntsR.holds (cut_same hb.size hk) h.params, ArrsR.holds (cut_same hb.size hk) h.arrays, (hb.block g3 hl).trans h.cell, h.off⟩
/-- One block more is ready: it may be appended. -/
theorem OutG.ready {x : PGr} {w0 wr w1 : World} {box : Array Value} {g3 : Nat} {G Gi : Nat → Prop} {pq aq bq kq cq tq : Option Addr} {pc ac bc kc cc tc k : Nat} {bk : PBlk} (h : OutG x w0 box g3 G pq aq bq pc ac bc k wr) (hi : InB bk wr wr.heap.size Gi kq cq tq kc cc tc bk.code.length w1) (o : Obj) :
    ∃ G', OutG x w0 box g3 G' pq aq bq pc ac bc k (w1.alloc o) ∧ blkC (cutW G' (w1.alloc o)) (.slice kq bk.code.length kc, .slice cq bk.fin.cases.length cc, .slice tq bk.fin.targets.length tc) bk := by
  have hl := lt_of_block h.cell
  have h1 := h.step hi.old
  have hs := h.old.size
  have hlow := h.low
  have hib : ∀ b, (Gi b ∨ (Value.slice kq bk.code.length kc).ownBlock = some b) → wr.heap.size + 1 ≤ b ∧ b < w1.heap.size ∧ Unf w1 b := fun b hb => by
    have := hi.row.blocks b hb
    exact ⟨by rcases this.1 with h2 | h2 <;> exact h2, this.2⟩
  have hg : ∀ b, (G b ∨ (Gi b ∨ (Value.slice kq bk.code.length kc).ownBlock = some b)) → G b ∨ (w0.heap.size ≤ b ∧ b < w1.heap.size ∧ Unf w1 b ∧ (Value.slice bq k bc).ownBlock ≠ some b) := fun b hb => by
    rcases hb with hb | hb
    · exact .inl hb
    · obtain ⟨h2, h3, h4⟩ := hib b hb
      refine .inr ⟨by omega, h3, h4, fun e => ?_⟩
      have := (h.row.blocks b (.inr e)).2.1
      omega
  have h2 : OutG x w0 box g3 (fun b => G b ∨ (Gi b ∨ (Value.slice kq bk.code.length kc).ownBlock = some b)) pq aq bq pc ac bc k w1 := by
    refine ⟨h1.old, h1.box, h1.res, h1.low, h1.row.wide blkC_holds hg (fun b hb => .inl hb), IntsR.holds (cut_more w1 fun b hb => .inl hb) h1.params, ArrsR.holds (cut_more w1 fun b hb => .inl hb) h1.arrays, h1.cell, fun b hb => ?_⟩
    rcases hb with hb | hb
    · exact h.off b hb
    · have := (hib b hb).1
      exact ⟨by omega, by omega, by omega⟩
  have hal := below_alloc w1 o
  refine ⟨_, h2.step hal, CodeR.holds (cut_to hal.size fun b hb hn => ⟨.inr hn, hal.block b hb⟩) hi.row.code, EndL.holds (cut_to hal.size fun b hb hn => ⟨.inr (.inl hn), hal.block b hb⟩) hi.fin⟩
theorem OutG.close {x : PGr} {w0 w4 w5 : World} {box : Array Value} {g3 : Nat} {G : Nat → Prop} {pq aq bq : Option Addr} {pc ac bc k : Nat} {bk : PBlk} (h : OutG x w0 box g3 G pq aq bq pc ac bc k w4) {u : Value × Value × Value} (hc : blkC (cutW G w4) u bk) (hx : x.blocks[k]? = some bk)
    {xs news : List Value} (h1 : w4.ownsRow (g3 + 1) 42 10 (.slice bq k bc) k xs) (h2 : ∀ j y, j < k → x.blocks[j]? = some y → ∃ u, BlkW xs.toArray (j * 10) y u ∧ blkC (cutW G w4) u y) (hu : BlkW news.toArray 0 bk u)
    {g cap : Nat} (h3 : w5.ownsRow (g3 + 1) 42 10 (.slice (some ⟨g, 0, none⟩) (k + 1) cap) (k + 1) (xs ++ news)) (h4 : w4.grownBy w5 (Value.slice bq k bc).ownBlock) (h5 : (Value.slice bq k bc).ownBlock = some g ∨ g = w4.heap.size) :
    OutG x w0 box g3 G pq aq (some ⟨g, 0, none⟩) pc ac cap (k + 1) (w5.setCell ⟨g3, 3, none⟩ (.slice (some ⟨g, 0, none⟩) (k + 1) cap)) := by
  have hl5 := lt_of_block h.cell
  have hrow := h.row.push blkC_holds blkW_more blkW_new h1 h2 hx hu hc h3 h4 h5
  have hown : ∀ b, (Value.slice bq k bc).ownBlock = some b → g3 + 1 ≤ b := fun b e => by
    obtain ⟨_, ⟨e2, _⟩ | ⟨g', cap', cur', e2, h6, _⟩⟩ := h1
    · rw [e2] at e; cases e
    · rw [e2] at e; injection e with e; have e3 : g' = b := e; omega
  have hown2 : g3 + 1 ≤ g := by
    obtain ⟨_, ⟨e2, _⟩ | ⟨g', cap', cur', e2, h6, _⟩⟩ := h3
    · cases e2
    · injection e2 with e2; injection e2 with e2; injection e2 with e2; omega
  have hlow := h.low
  have hs := h.old.size
  have oth : ∀ b, b ≠ g3 → (w5.setCell ⟨g3, 3, none⟩ (.slice (some ⟨g, 0, none⟩) (k + 1) cap)).heap[b]? = w5.heap[b]? := fun b hne => heap_setCell_other w5 ⟨g3, 3, none⟩ b _ (fun e => hne e)
  have keep : ∀ b, b ≠ g3 → b < w4.heap.size → (Value.slice bq k bc).ownBlock ≠ some b → (w5.setCell ⟨g3, 3, none⟩ (.slice (some ⟨g, 0, none⟩) (k + 1) cap)).heap[b]? = w4.heap[b]? := fun b h6 h7 h8 => (oth b h6).trans (h4.block b h7 (fun e => h8 e.symm))
  have hs5 : (w5.setCell ⟨g3, 3, none⟩ (.slice (some ⟨g, 0, none⟩) (k + 1) cap)).heap.size = w5.heap.size := by simp
  have hG : Holds2 (cutW G w4) (cutW G (w5.setCell ⟨g3, 3, none⟩ (.slice (some ⟨g, 0, none⟩) (k + 1) cap))) := cut_same (by rw [hs5]; exact h4.size) fun b hb => keep b (h.off b hb).2.2 (h.row.lt b hb) (h.row.off b hb)
  have e5 : w5.heap[g3]? = w4.heap[g3]? := h4.block g3 hl5 (fun e => by have := hown g3 e.symm; omega)
  refine ⟨h.old.trans (Below.grown (Below.grown (Below.refl w0.heap.size w4) h4 (by omega) (fun b hb => by have := hown b hb; omega)) (grown_step (World.grownBy.refl w5 (some g3)) (Below.refl _ _)) (by have := h4.size; omega) (fun b hb => by injection hb with hb; omega)), ?_, ?_, hlow, ?_, IntsR.holds hG h.params, ArrsR.holds hG h.arrays, ?_, h.off⟩
  · exact (keep _ (by omega) (by omega) (fun e => by have := hown _ e; omega)).trans h.box
  · exact (keep _ (by omega) (by omega) (fun e => by have := hown _ e; omega)).trans h.res
  · refine hrow.step blkC_holds (by omega) fun b hb => oth b ?_
    rcases hb with hb | hb
    · exact (h.off b hb).2.2
    · injection hb with hb; have : g = b := hb; omega
  · exact heap_setCell_same w5 g3 3 _ _ _ (e5.trans h.cell)
/-- A graph whose blocks are all there. -/
theorem OutG.done {x : PGr} {w0 wr we : World} {box : Array Value} {g3 : Nat} {G : Nat → Prop} {pq aq bq : Option Addr} {pc ac bc : Nat} (h : OutG x w0 box g3 G pq aq bq pc ac bc x.blocks.length wr) (hwe : wr.grownBy we (some (w0.heap.size + 1))) :
    GrL (cutW (New w0.heap.size we) we) (.slice pq x.params.length pc) (.slice aq x.arrays.length ac) (.slice bq x.blocks.length bc) x ∧ Below w0.heap.size w0 we := by
  have hlow := h.low
  have hs := h.old.size
  have hl := lt_of_block h.cell
  have hall : ∀ b, (G b ∨ (Value.slice bq x.blocks.length bc).ownBlock = some b) → w0.heap.size ≤ b ∧ b < wr.heap.size ∧ b ≠ w0.heap.size + 1 ∧ Unf wr b := fun b hb => by
    obtain ⟨h1, h2, h3⟩ := h.row.blocks b hb
    refine ⟨by omega, h2, ?_, h3⟩
    rcases hb with hb | hb
    · exact (h.off b hb).2.1
    · obtain ⟨xs, ⟨_, ⟨e2, _⟩ | ⟨g', cap', cur', e2, h6, _⟩⟩, _⟩ := h.row.row
      · rw [e2] at hb; cases hb
      · rw [e2] at hb; injection hb with hb; have : g' = b := hb; omega
  have hh : ∀ S : Nat → Prop, (∀ b, S b → (G b ∨ (Value.slice bq x.blocks.length bc).ownBlock = some b)) → Holds2 (cutW S wr) (cutW (New w0.heap.size we) we) := fun S hS => cut_to hwe.size fun b hb hn => by
    obtain ⟨h1, h2, h3, h4⟩ := hall b (hS b hn)
    have e : we.heap[b]? = wr.heap[b]? := hwe.block b hb (fun e => h3 (by injection e))
    exact ⟨⟨h1, unf_keep h4 e⟩, e⟩
  exact ⟨⟨IntsR.holds (hh G fun b hb => .inl hb) h.params, ArrsR.holds (hh G fun b hb => .inl hb) h.arrays, BlksR.holds (hh _ fun b hb => hb) h.row.blks⟩, Below.grown h.old hwe hs (fun b hb => by injection hb with hb; omega)⟩
/-- What the arrays' row is appended to lies elsewhere. -/
theorem StG.arrays {x : PGr} {w0 wr wa w' : World} {box : Array Value} {g3 : Nat} {G : Nat → Prop} {pq aq : Option Addr} {pc ac : Nat} (h : StG x w0 box g3 G pq pc wr) (hb : Below wr.heap.size wr wa) (hl : ArrsR (cutW (New wr.heap.size wa) wa) (.slice aq x.arrays.length ac) x.arrays) (hw : wa.setCell ⟨g3, 2, none⟩ (.slice aq x.arrays.length ac) = w') :
    ∃ G', OutG x w0 box g3 G' pq aq none pc ac 0 0 w' := by
  subst hw
  have hlow := h.low
  have hs := h.old.size
  have hl3 := lt_of_block h.cell
  have hsa := hb.size
  have oth : ∀ b, b ≠ g3 → (wa.setCell ⟨g3, 2, none⟩ (.slice aq x.arrays.length ac)).heap[b]? = wa.heap[b]? := fun b hne => heap_setCell_other wa ⟨g3, 2, none⟩ b _ (fun e => hne e)
  have hs5 : (wa.setCell ⟨g3, 2, none⟩ (.slice aq x.arrays.length ac)).heap.size = wa.heap.size := by simp
  have hg : ∀ b, (G b ∨ (wr.heap.size ≤ b ∧ b < wa.heap.size ∧ Unf wa b)) → w0.heap.size ≤ b ∧ b < wa.heap.size ∧ Unf wa b ∧ b ≠ w0.heap.size ∧ b ≠ w0.heap.size + 1 ∧ b ≠ g3 := fun b hb2 => by
    rcases hb2 with hb2 | ⟨h1, h2, h3⟩
    · exact ⟨h.glow b hb2, Nat.lt_of_lt_of_le (h.glt b hb2) hsa, unf_keep (h.gunf b hb2) (hb.block b (h.glt b hb2)), h.off b hb2⟩
    · exact ⟨by omega, h2, h3, by omega, by omega, by omega⟩
  refine ⟨fun b => G b ∨ (wr.heap.size ≤ b ∧ b < wa.heap.size ∧ Unf wa b), ?_, ?_, ?_, hlow, ?_, ?_, ?_, ?_, fun b hb2 => (hg b hb2).2.2.2⟩
  · exact h.old.trans (Below.grown (hb.mono hs) (grown_step (World.grownBy.refl wa (some g3)) (Below.refl _ _)) (by omega) (fun b hb => by injection hb with hb; omega))
  · rw [oth _ (by omega), hb.block _ (by omega)]; exact h.box
  · rw [oth _ (by omega), hb.block _ (by omega)]; exact h.res
  · refine RowIn.nil _ _ _ _ _ (fun b hb2 => (hg b hb2).1) (fun b hb2 => by rw [hs5]; exact (hg b hb2).2.1) (fun b hb2 => unf_keep (hg b hb2).2.2.1 (oth b (hg b hb2).2.2.2.2.2))
  · refine IntsR.holds (cut_to (by omega) fun b hb2 hn => ⟨.inl hn, ?_⟩) h.params
    rw [oth b (h.off b hn).2.2, hb.block b hb2]
  · refine ArrsR.holds (cut_to (by omega) fun b hb2 hn => ⟨.inr ⟨hn.1, hb2, hn.2⟩, oth b (by have := hn.1; omega)⟩) hl
  · exact heap_setCell_same wa g3 2 _ _ _ ((hb.block g3 hl3).trans h.cell)
/-- The two ways in which the graph's cells come to be: behind its parameters' row, or ahead of it. -/
theorem StG.first {x : PGr} {w0 w1 wa : World} {box : Array Value} {aq : Option Addr} {ac : Nat} (h1 : Below w0.heap.size w0 w1) (hs : w0.heap.size + 2 ≤ w1.heap.size) (hbox : w1.heap[w0.heap.size]? = some (.cells box 26 (0, 0)))
    (hres : w1.heap[w0.heap.size + 1]? = some (.cells #[.slice none 0 0, .int .i64 0, .slice none 0 0, .slice none 0 0] 26 (0, 0))) (hb : Below w1.heap.size w1 wa) (hl : IntsR (cutW (New w1.heap.size wa) wa) (.slice aq x.params.length ac) x.params) :
    ∃ G, StG x w0 box wa.heap.size G aq ac (wa.alloc (.cells #[.slice aq x.params.length ac, .int .i64 x.temps, .slice none 0 0, .slice none 0 0] 26)) := by
  have hal := below_alloc wa (.cells #[.slice aq x.params.length ac, .int .i64 x.temps, .slice none 0 0, .slice none 0 0] 26)
  have hnew := heap_new wa (.cells #[.slice aq x.params.length ac, .int .i64 x.temps, .slice none 0 0, .slice none 0 0] 26)
  generalize wa.alloc (.cells #[.slice aq x.params.length ac, .int .i64 x.temps, .slice none 0 0, .slice none 0 0] 26) = w3 at *
  have hsa := hb.size
  refine ⟨fun b => w1.heap.size ≤ b ∧ b < wa.heap.size ∧ Unf wa b, (h1.trans (hb.mono (by omega))).trans (hal.mono (by omega)), ?_, ?_, by omega, ?_, hnew, fun b hg => by have := hg.1; omega, fun b hg => Nat.lt_of_lt_of_le hg.2.1 hal.size, fun b hg => unf_keep hg.2.2 (hal.block b hg.2.1), fun b hg => ?_⟩
  · rw [hal.block _ (by omega), hb.block _ (by omega)]; exact hbox
  · rw [hal.block _ (by omega), hb.block _ (by omega)]; exact hres
  · exact IntsR.holds (cut_to hal.size fun b hb2 hn => ⟨⟨hn.1, hb2, hn.2⟩, hal.block b hb2⟩) hl
  · have := hg.1; have := hg.2.1; exact ⟨by omega, by omega, by omega⟩
theorem StG.second {x : PGr} {w0 w1 w2 wa w3 : World} {box : Array Value} {aq : Option Addr} {ac : Nat} (h1 : Below w0.heap.size w0 w1) (hs : w0.heap.size + 2 ≤ w1.heap.size) (hbox : w1.heap[w0.heap.size]? = some (.cells box 26 (0, 0)))
    (hres : w1.heap[w0.heap.size + 1]? = some (.cells #[.slice none 0 0, .int .i64 0, .slice none 0 0, .slice none 0 0] 26 (0, 0))) (h2 : Below w1.heap.size w1 w2) (h2s : w2.heap.size = w1.heap.size + 1) (hb : Below w2.heap.size w2 wa) (hl : IntsR (cutW (New w2.heap.size wa) wa) (.slice aq x.params.length ac) x.params)
    (h3 : wa.grownBy w3 (some w1.heap.size)) (hc : w3.heap[w1.heap.size]? = some (.cells #[.slice aq x.params.length ac, .int .i64 x.temps, .slice none 0 0, .slice none 0 0] 26 (0, 0))) :
    ∃ G, StG x w0 box w1.heap.size G aq ac w3 := by
  have hsa := hb.size
  have hs3 := h3.size
  have keep : ∀ b, b ≠ w1.heap.size → b < wa.heap.size → w3.heap[b]? = wa.heap[b]? := fun b hne hl => h3.block b hl (fun e => hne (by injection e))
  refine ⟨fun b => w2.heap.size ≤ b ∧ b < wa.heap.size ∧ Unf wa b, Below.grown ((h1.trans (h2.mono (by omega))).trans (hb.mono (by omega))) h3 (by omega) (fun b hb2 => by injection hb2 with hb2; omega), ?_, ?_, by omega, ?_, hc, fun b hg => by have := hg.1; omega, fun b hg => Nat.lt_of_lt_of_le hg.2.1 hs3, fun b hg => unf_keep hg.2.2 (keep b (by have := hg.1; omega) hg.2.1), fun b hg => ?_⟩
  · rw [keep _ (by omega) (by omega), hb.block _ (by omega), h2.block _ (by omega)]; exact hbox
  · rw [keep _ (by omega) (by omega), hb.block _ (by omega), h2.block _ (by omega)]; exact hres
  · exact IntsR.holds (cut_to hs3 fun b hb2 hn => ⟨⟨hn.1, hb2, hn.2⟩, keep b (by have := hn.1; omega) hb2⟩) hl
  · have := hg.1; have := hg.2.1; exact ⟨by omega, by omega, by omega⟩
theorem OutG.cell5 {x : PGr} {w0 w4 w5 : World} {box : Array Value} {g3 : Nat} {G : Nat → Prop} {pq aq bq : Option Addr} {pc ac bc k : Nat} (h : OutG x w0 box g3 G pq aq bq pc ac bc k w4) {xs : List Value} (h1 : w4.ownsRow (g3 + 1) 42 10 (.slice bq k bc) k xs) (h4 : w4.grownBy w5 (Value.slice bq k bc).ownBlock) :
    w5.heap[g3]? = some (.cells #[.slice pq x.params.length pc, .int .i64 x.temps, .slice aq x.arrays.length ac, .slice bq k bc] 26 (0, 0)) := by
  have hown : ∀ b, (Value.slice bq k bc).ownBlock = some b → g3 + 1 ≤ b := fun b e => by
    obtain ⟨_, ⟨e2, _⟩ | ⟨g', cap', cur', e2, h6, _⟩⟩ := h1
    · rw [e2] at e; cases e
    · rw [e2] at e; injection e with e; have e3 : g' = b := e; omega
  exact (h4.block g3 (lt_of_block h.cell) (fun e => by have := hown g3 e.symm; omega)).trans h.cell
end Go.Proofs.YtcijaaiopfbffaaDoor.Graph
namespace Go.Proofs.YtcijaaiopfbffaaDoor.Graph
open Go.RowKit

def CopiedR (x : PMod) (w : World) (e : Ending) (w' : World) : Prop := ∃ pq aq bq pc ac bc, e = .returned (modV x (.slice pq x.globals.length pc) (.slice aq x.arrays.length ac) (.slice bq x.funcs.length bc)) ∧ ModL (cutW (New w.heap.size w') w') (.slice pq x.globals.length pc) (.slice aq x.arrays.length ac) (.slice bq x.funcs.length bc) x ∧ Below w.heap.size w w'
/-- The module under construction at g3: its arrays. -/
structure StM (x : PMod) (w0 : World) (box : Array Value) (g3 : Nat) (G : Nat → Prop) (aq : Option Addr) (ac : Nat) (wr : World) : Prop where
  old : Below w0.heap.size w0 wr
  box : wr.heap[w0.heap.size]? = some (.cells box 63 (0, 0))
  res : wr.heap[w0.heap.size + 1]? = some (.cells #[.slice none 0 0, .slice none 0 0, .slice none 0 0, .int .i64 0] 63 (0, 0))
  low : w0.heap.size + 1 < g3
  arrays : IntsR (cutW G wr) (.slice aq x.arrays.length ac) x.arrays
  cell : wr.heap[g3]? = some (.cells #[.slice none 0 0, .slice aq x.arrays.length ac, .slice none 0 0, .int .i64 x.main] 63 (0, 0))
  glow : ∀ b, G b → w0.heap.size ≤ b
  glt : ∀ b, G b → b < wr.heap.size
  gunf : ∀ b, G b → Unf wr b
  off : ∀ b, G b → b ≠ w0.heap.size ∧ b ≠ w0.heap.size + 1 ∧ b ≠ g3
/-- The module under construction at g3: its first k functions. -/
structure OutM (x : PMod) (w0 : World) (box : Array Value) (g3 : Nat) (G : Nat → Prop) (pq aq bq : Option Addr) (pc ac bc : Nat) (k : Nat) (wr : World) : Prop where
  old : Below w0.heap.size w0 wr
  box : wr.heap[w0.heap.size]? = some (.cells box 63 (0, 0))
  res : wr.heap[w0.heap.size + 1]? = some (.cells #[.slice none 0 0, .slice none 0 0, .slice none 0 0, .int .i64 0] 63 (0, 0))
  low : w0.heap.size + 1 < g3
  row : RowIn 26 4 GrW grC G w0.heap.size (g3 + 1) x.funcs k (.slice bq k bc) wr
  globals : WordsR (cutW G wr) (.slice pq x.globals.length pc) x.globals
  arrays : IntsR (cutW G wr) (.slice aq x.arrays.length ac) x.arrays
  cell : wr.heap[g3]? = some (.cells #[.slice pq x.globals.length pc, .slice aq x.arrays.length ac, .slice bq k bc, .int .i64 x.main] 63 (0, 0))
  off : ∀ b, G b → b ≠ w0.heap.size ∧ b ≠ w0.heap.size + 1 ∧ b ≠ g3
theorem OutM.step {x : PMod} {w0 wr w' : World} {box : Array Value} {g3 : Nat} {G : Nat → Prop} {pq aq bq : Option Addr} {pc ac bc k : Nat} (h : OutM x w0 box g3 G pq aq bq pc ac bc k wr) (hb : Below wr.heap.size wr w') : OutM x w0 box g3 G pq aq bq pc ac bc k w' := by
  have hl := lt_of_block h.cell
  have hs := h.old.size
  have hk : ∀ b, G b → w'.heap[b]? = wr.heap[b]? := fun b hg => hb.block b (h.row.lt b hg)
  exact ⟨h.old.trans (hb.mono hs), (hb.block _ (by have := h.low; omega)).trans h.box, (hb.block _ (by have := h.low; omega)).trans h.res, h.low, h.row.step grC_holds hb.size fun b hb2 => hb.block b (h.row.blocks b hb2).2.1,
    WordsR.holds (cut_same hb.size hk) h.globals, IntsR.holds (cut_same hb.size hk) h.arrays, (hb.block g3 hl).trans h.cell, h.off⟩
/-- One function more is ready: it may be appended. -/
theorem OutM.ready {x : PMod} {w0 wr wa : World} {box : Array Value} {g3 : Nat} {G : Nat → Prop} {pq aq bq q1 q2 q3 : Option Addr} {pc ac bc d1 d2 d3 k : Nat} {y : PGr} (h : OutM x w0 box g3 G pq aq bq pc ac bc k wr) (hb : Below wr.heap.size wr wa)
    (hl : GrL (cutW (New wr.heap.size wa) wa) (.slice q1 y.params.length d1) (.slice q2 y.arrays.length d2) (.slice q3 y.blocks.length d3) y) (o1 o2 : Obj) :
    ∃ G', OutM x w0 box g3 G' pq aq bq pc ac bc k ((wa.alloc o1).alloc o2) ∧ grC (cutW G' ((wa.alloc o1).alloc o2)) (.slice q1 y.params.length d1, .slice q2 y.arrays.length d2, .slice q3 y.blocks.length d3) y := by
  have hl3 := lt_of_block h.cell
  have h1 := h.step hb
  have hs := h.old.size
  have hlow := h.low
  have hg : ∀ b, (G b ∨ (wr.heap.size ≤ b ∧ b < wa.heap.size ∧ Unf wa b)) → G b ∨ (w0.heap.size ≤ b ∧ b < wa.heap.size ∧ Unf wa b ∧ (Value.slice bq k bc).ownBlock ≠ some b) := fun b hb2 => by
    rcases hb2 with hb2 | ⟨h2, h3, h4⟩
    · exact .inl hb2
    · refine .inr ⟨by omega, h3, h4, fun e => ?_⟩
      have := (h.row.blocks b (.inr e)).2.1
      omega
  have h2 : OutM x w0 box g3 (fun b => G b ∨ (wr.heap.size ≤ b ∧ b < wa.heap.size ∧ Unf wa b)) pq aq bq pc ac bc k wa := by
    refine ⟨h1.old, h1.box, h1.res, h1.low, h1.row.wide grC_holds hg (fun b hb => .inl hb), WordsR.holds (cut_more wa fun b hb => .inl hb) h1.globals, IntsR.holds (cut_more wa fun b hb => .inl hb) h1.arrays, h1.cell, fun b hb2 => ?_⟩
    rcases hb2 with hb2 | hb2
    · exact h.off b hb2
    · have := hb2.1
      exact ⟨by omega, by omega, by omega⟩
  have hal := below_then (below_alloc wa o1) (below_alloc (wa.alloc o1) o2)
  exact ⟨_, h2.step hal, GrL.holds (cut_to hal.size fun b hb2 hn => ⟨.inr ⟨hn.1, hb2, hn.2⟩, hal.block b hb2⟩) hl⟩
theorem OutM.close {x : PMod} {w0 w4 w5 : World} {box : Array Value} {g3 : Nat} {G : Nat → Prop} {pq aq bq : Option Addr} {pc ac bc k : Nat} {y0 : PGr} (h : OutM x w0 box g3 G pq aq bq pc ac bc k w4) {u : Value × Value × Value} (hc : grC (cutW G w4) u y0) (hx : x.funcs[k]? = some y0)
    {xs news : List Value} (h1 : w4.ownsRow (g3 + 1) 26 4 (.slice bq k bc) k xs) (h2 : ∀ j y, j < k → x.funcs[j]? = some y → ∃ u, GrW xs.toArray (j * 4) y u ∧ grC (cutW G w4) u y) (hu : GrW news.toArray 0 y0 u)
    {g cap : Nat} (h3 : w5.ownsRow (g3 + 1) 26 4 (.slice (some ⟨g, 0, none⟩) (k + 1) cap) (k + 1) (xs ++ news)) (h4 : w4.grownBy w5 (Value.slice bq k bc).ownBlock) (h5 : (Value.slice bq k bc).ownBlock = some g ∨ g = w4.heap.size) :
    OutM x w0 box g3 G pq aq (some ⟨g, 0, none⟩) pc ac cap (k + 1) (w5.setCell ⟨g3, 2, none⟩ (.slice (some ⟨g, 0, none⟩) (k + 1) cap)) := by
  have hl5 := lt_of_block h.cell
  have hrow := h.row.push grC_holds grW_more grW_new h1 h2 hx hu hc h3 h4 h5
  have hown : ∀ b, (Value.slice bq k bc).ownBlock = some b → g3 + 1 ≤ b := fun b e => by
    obtain ⟨_, ⟨e2, _⟩ | ⟨g', cap', cur', e2, h6, _⟩⟩ := h1
    · rw [e2] at e; cases e
    · rw [e2] at e; injection e with e; have e3 : g' = b := e; omega
  have hown2 : g3 + 1 ≤ g := by
    obtain ⟨_, ⟨e2, _⟩ | ⟨g', cap', cur', e2, h6, _⟩⟩ := h3
    · cases e2
    · injection e2 with e2; injection e2 with e2; injection e2 with e2; omega
  have hlow := h.low
  have hs := h.old.size
  have oth : ∀ b, b ≠ g3 → (w5.setCell ⟨g3, 2, none⟩ (.slice (some ⟨g, 0, none⟩) (k + 1) cap)).heap[b]? = w5.heap[b]? := fun b hne => heap_setCell_other w5 ⟨g3, 2, none⟩ b _ (fun e => hne e)
  have keep : ∀ b, b ≠ g3 → b < w4.heap.size → (Value.slice bq k bc).ownBlock ≠ some b → (w5.setCell ⟨g3, 2, none⟩ (.slice (some ⟨g, 0, none⟩) (k + 1) cap)).heap[b]? = w4.heap[b]? := fun b h6 h7 h8 => (oth b h6).trans (h4.block b h7 (fun e => h8 e.symm))
  have hs5 : (w5.setCell ⟨g3, 2, none⟩ (.slice (some ⟨g, 0, none⟩) (k + 1) cap)).heap.size = w5.heap.size := by simp
  have hG : Holds2 (cutW G w4) (cutW G (w5.setCell ⟨g3, 2, none⟩ (.slice (some ⟨g, 0, none⟩) (k + 1) cap))) := cut_same (by rw [hs5]; exact h4.size) fun b hb => keep b (h.off b hb).2.2 (h.row.lt b hb) (h.row.off b hb)
  have e5 : w5.heap[g3]? = w4.heap[g3]? := h4.block g3 hl5 (fun e => by have := hown g3 e.symm; omega)
  refine ⟨h.old.trans (Below.grown (Below.grown (Below.refl w0.heap.size w4) h4 (by omega) (fun b hb => by have := hown b hb; omega)) (grown_step (World.grownBy.refl w5 (some g3)) (Below.refl _ _)) (by have := h4.size; omega) (fun b hb => by injection hb with hb; omega)), ?_, ?_, hlow, ?_, WordsR.holds hG h.globals, IntsR.holds hG h.arrays, ?_, h.off⟩
  · exact (keep _ (by omega) (by omega) (fun e => by have := hown _ e; omega)).trans h.box
  · exact (keep _ (by omega) (by omega) (fun e => by have := hown _ e; omega)).trans h.res
  · refine hrow.step grC_holds (by omega) fun b hb => oth b ?_
    rcases hb with hb | hb
    · exact (h.off b hb).2.2
    · injection hb with hb; have : g = b := hb; omega
  · exact heap_setCell_same w5 g3 2 _ _ _ (e5.trans h.cell)
/-- A graph whose blocks are all there. -/
theorem OutM.done {x : PMod} {w0 wr we : World} {box : Array Value} {g3 : Nat} {G : Nat → Prop} {pq aq bq : Option Addr} {pc ac bc : Nat} (h : OutM x w0 box g3 G pq aq bq pc ac bc x.funcs.length wr) (hwe : wr.grownBy we (some (w0.heap.size + 1))) :
    ModL (cutW (New w0.heap.size we) we) (.slice pq x.globals.length pc) (.slice aq x.arrays.length ac) (.slice bq x.funcs.length bc) x ∧ Below w0.heap.size w0 we := by
  have hlow := h.low
  have hs := h.old.size
  have hl := lt_of_block h.cell
  have hall : ∀ b, (G b ∨ (Value.slice bq x.funcs.length bc).ownBlock = some b) → w0.heap.size ≤ b ∧ b < wr.heap.size ∧ b ≠ w0.heap.size + 1 ∧ Unf wr b := fun b hb => by
    obtain ⟨h1, h2, h3⟩ := h.row.blocks b hb
    refine ⟨by omega, h2, ?_, h3⟩
    rcases hb with hb | hb
    · exact (h.off b hb).2.1
    · obtain ⟨xs, ⟨_, ⟨e2, _⟩ | ⟨g', cap', cur', e2, h6, _⟩⟩, _⟩ := h.row.row
      · rw [e2] at hb; cases hb
      · rw [e2] at hb; injection hb with hb; have : g' = b := hb; omega
  have hh : ∀ S : Nat → Prop, (∀ b, S b → (G b ∨ (Value.slice bq x.funcs.length bc).ownBlock = some b)) → Holds2 (cutW S wr) (cutW (New w0.heap.size we) we) := fun S hS => cut_to hwe.size fun b hb hn => by
    obtain ⟨h1, h2, h3, h4⟩ := hall b (hS b hn)
    have e : we.heap[b]? = wr.heap[b]? := hwe.block b hb (fun e => h3 (by injection e))
    exact ⟨⟨h1, unf_keep h4 e⟩, e⟩
  exact ⟨⟨WordsR.holds (hh G fun b hb => .inl hb) h.globals, IntsR.holds (hh G fun b hb => .inl hb) h.arrays, GrsR.holds (hh _ fun b hb => hb) h.row.grs⟩, Below.grown h.old hwe hs (fun b hb => by injection hb with hb; omega)⟩
/-- What the globals' row is appended to lies elsewhere. -/
theorem StM.globals {x : PMod} {w0 wr wa w' : World} {box : Array Value} {g3 : Nat} {G : Nat → Prop} {pq aq : Option Addr} {pc ac : Nat} (h : StM x w0 box g3 G aq ac wr) (hb : Below wr.heap.size wr wa) (hl : WordsR (cutW (New wr.heap.size wa) wa) (.slice pq x.globals.length pc) x.globals) (hw : wa.setCell ⟨g3, 0, none⟩ (.slice pq x.globals.length pc) = w') :
    ∃ G', OutM x w0 box g3 G' pq aq none pc ac 0 0 w' := by
  subst hw
  have hlow := h.low
  have hs := h.old.size
  have hl3 := lt_of_block h.cell
  have hsa := hb.size
  have oth : ∀ b, b ≠ g3 → (wa.setCell ⟨g3, 0, none⟩ (.slice pq x.globals.length pc)).heap[b]? = wa.heap[b]? := fun b hne => heap_setCell_other wa ⟨g3, 0, none⟩ b _ (fun e => hne e)
  have hs5 : (wa.setCell ⟨g3, 0, none⟩ (.slice pq x.globals.length pc)).heap.size = wa.heap.size := by simp
  have hg : ∀ b, (G b ∨ (wr.heap.size ≤ b ∧ b < wa.heap.size ∧ Unf wa b)) → w0.heap.size ≤ b ∧ b < wa.heap.size ∧ Unf wa b ∧ b ≠ w0.heap.size ∧ b ≠ w0.heap.size + 1 ∧ b ≠ g3 := fun b hb2 => by
    rcases hb2 with hb2 | ⟨h1, h2, h3⟩
    · exact ⟨h.glow b hb2, Nat.lt_of_lt_of_le (h.glt b hb2) hsa, unf_keep (h.gunf b hb2) (hb.block b (h.glt b hb2)), h.off b hb2⟩
    · exact ⟨by omega, h2, h3, by omega, by omega, by omega⟩
  refine ⟨fun b => G b ∨ (wr.heap.size ≤ b ∧ b < wa.heap.size ∧ Unf wa b), ?_, ?_, ?_, hlow, ?_, ?_, ?_, ?_, fun b hb2 => (hg b hb2).2.2.2⟩
  · exact h.old.trans (Below.grown (hb.mono hs) (grown_step (World.grownBy.refl wa (some g3)) (Below.refl _ _)) (by omega) (fun b hb => by injection hb with hb; omega))
  · rw [oth _ (by omega), hb.block _ (by omega)]; exact h.box
  · rw [oth _ (by omega), hb.block _ (by omega)]; exact h.res
  · refine RowIn.nil _ _ _ _ _ (fun b hb2 => (hg b hb2).1) (fun b hb2 => by rw [hs5]; exact (hg b hb2).2.1) (fun b hb2 => unf_keep (hg b hb2).2.2.1 (oth b (hg b hb2).2.2.2.2.2))
  · refine WordsR.holds (cut_to (by omega) fun b hb2 hn => ⟨.inr ⟨hn.1, hb2, hn.2⟩, oth b (by have := hn.1; omega)⟩) hl
  · refine IntsR.holds (cut_to (by omega) fun b hb2 hn => ⟨.inl hn, ?_⟩) h.arrays
    rw [oth b (h.off b hn).2.2, hb.block b hb2]
  · exact heap_setCell_same wa g3 0 _ _ _ ((hb.block g3 hl3).trans h.cell)
/-- The two ways in which the module's cells come to be: behind its arrays' row, or ahead of it. -/
theorem StM.first {x : PMod} {w0 w1 wa : World} {box : Array Value} {aq : Option Addr} {ac : Nat} (h1 : Below w0.heap.size w0 w1) (hs : w0.heap.size + 2 ≤ w1.heap.size) (hbox : w1.heap[w0.heap.size]? = some (.cells box 63 (0, 0)))
    (hres : w1.heap[w0.heap.size + 1]? = some (.cells #[.slice none 0 0, .slice none 0 0, .slice none 0 0, .int .i64 0] 63 (0, 0))) (hb : Below w1.heap.size w1 wa) (hl : IntsR (cutW (New w1.heap.size wa) wa) (.slice aq x.arrays.length ac) x.arrays) :
    ∃ G, StM x w0 box wa.heap.size G aq ac (wa.alloc (.cells #[.slice none 0 0, .slice aq x.arrays.length ac, .slice none 0 0, .int .i64 x.main] 63)) := by
  have hal := below_alloc wa (.cells #[.slice none 0 0, .slice aq x.arrays.length ac, .slice none 0 0, .int .i64 x.main] 63)
  have hnew := heap_new wa (.cells #[.slice none 0 0, .slice aq x.arrays.length ac, .slice none 0 0, .int .i64 x.main] 63)
  generalize wa.alloc (.cells #[.slice none 0 0, .slice aq x.arrays.length ac, .slice none 0 0, .int .i64 x.main] 63) = w3 at *
  have hsa := hb.size
  refine ⟨fun b => w1.heap.size ≤ b ∧ b < wa.heap.size ∧ Unf wa b, (h1.trans (hb.mono (by omega))).trans (hal.mono (by omega)), ?_, ?_, by omega, ?_, hnew, fun b hg => by have := hg.1; omega, fun b hg => Nat.lt_of_lt_of_le hg.2.1 hal.size, fun b hg => unf_keep hg.2.2 (hal.block b hg.2.1), fun b hg => ?_⟩
  · rw [hal.block _ (by omega), hb.block _ (by omega)]; exact hbox
  · rw [hal.block _ (by omega), hb.block _ (by omega)]; exact hres
  · exact IntsR.holds (cut_to hal.size fun b hb2 hn => ⟨⟨hn.1, hb2, hn.2⟩, hal.block b hb2⟩) hl
  · have := hg.1; have := hg.2.1; exact ⟨by omega, by omega, by omega⟩
theorem StM.second {x : PMod} {w0 w1 w2 wa w3 : World} {box : Array Value} {aq : Option Addr} {ac : Nat} (h1 : Below w0.heap.size w0 w1) (hs : w0.heap.size + 2 ≤ w1.heap.size) (hbox : w1.heap[w0.heap.size]? = some (.cells box 63 (0, 0)))
    (hres : w1.heap[w0.heap.size + 1]? = some (.cells #[.slice none 0 0, .slice none 0 0, .slice none 0 0, .int .i64 0] 63 (0, 0))) (h2 : Below w1.heap.size w1 w2) (h2s : w2.heap.size = w1.heap.size + 1) (hb : Below w2.heap.size w2 wa) (hl : IntsR (cutW (New w2.heap.size wa) wa) (.slice aq x.arrays.length ac) x.arrays)
    (h3 : wa.grownBy w3 (some w1.heap.size)) (hc : w3.heap[w1.heap.size]? = some (.cells #[.slice none 0 0, .slice aq x.arrays.length ac, .slice none 0 0, .int .i64 x.main] 63 (0, 0))) :
    ∃ G, StM x w0 box w1.heap.size G aq ac w3 := by
  have hsa := hb.size
  have hs3 := h3.size
  have keep : ∀ b, b ≠ w1.heap.size → b < wa.heap.size → w3.heap[b]? = wa.heap[b]? := fun b hne hl => h3.block b hl (fun e => hne (by injection e))
  refine ⟨fun b => w2.heap.size ≤ b ∧ b < wa.heap.size ∧ Unf wa b, Below.grown ((h1.trans (h2.mono (by omega))).trans (hb.mono (by omega))) h3 (by omega) (fun b hb2 => by injection hb2 with hb2; omega), ?_, ?_, by omega, ?_, hc, fun b hg => by have := hg.1; omega, fun b hg => Nat.lt_of_lt_of_le hg.2.1 hs3, fun b hg => unf_keep hg.2.2 (keep b (by have := hg.1; omega) hg.2.1), fun b hg => ?_⟩
  · rw [keep _ (by omega) (by omega), hb.block _ (by omega), h2.block _ (by omega)]; exact hbox
  · rw [keep _ (by omega) (by omega), hb.block _ (by omega), h2.block _ (by omega)]; exact hres
  · exact IntsR.holds (cut_to hs3 fun b hb2 hn => ⟨⟨hn.1, hb2, hn.2⟩, keep b (by have := hn.1; omega) hb2⟩) hl
  · have := hg.1; have := hg.2.1; exact ⟨by omega, by omega, by omega⟩
theorem OutM.cell5 {x : PMod} {w0 w4 w5 : World} {box : Array Value} {g3 : Nat} {G : Nat → Prop} {pq aq bq : Option Addr} {pc ac bc k : Nat} (h : OutM x w0 box g3 G pq aq bq pc ac bc k w4) {xs : List Value} (h1 : w4.ownsRow (g3 + 1) 26 4 (.slice bq k bc) k xs) (h4 : w4.grownBy w5 (Value.slice bq k bc).ownBlock) :
    w5.heap[g3]? = some (.cells #[.slice pq x.globals.length pc, .slice aq x.arrays.length ac, .slice bq k bc, .int .i64 x.main] 63 (0, 0)) := by
  have hown : ∀ b, (Value.slice bq k bc).ownBlock = some b → g3 + 1 ≤ b := fun b e => by
    obtain ⟨_, ⟨e2, _⟩ | ⟨g', cap', cur', e2, h6, _⟩⟩ := h1
    · rw [e2] at e; cases e
    · rw [e2] at e; injection e with e; have e3 : g' = b := e; omega
  exact (h4.block g3 (lt_of_block h.cell) (fun e => by have := hown g3 e.symm; omega)).trans h.cell
end Go.Proofs.YtcijaaiopfbffaaDoor.Graph
namespace Go.Proofs.YtcijaaiopfbffaaDoor.Graph
open Go.RowKit

theorem info_word : (Tryd.prog.info? 37).map (fun i => (i.zero, i.size, i.bytes)) = some (some (.int .u32 0), 1, 4) := by kernel_rfl
theorem info_gr : (Tryd.prog.info? 26).map (fun i => (i.zero, i.size, i.bytes)) = some (some (.agg #[.slice none 0 0, .int .i64 0, .slice none 0 0, .slice none 0 0]), 4, 80) := by kernel_rfl
def wv (x : Int) : Value := .int .u32 x
theorem mem_wv {l : List Int} : ∀ u ∈ l.map wv, u.oneCell' = true := by
  intro u hu
  obtain ⟨x, _, rfl⟩ := List.mem_map.1 hu
  rfl
theorem news_words {w : World} {g o : Nat} {l : List Int} {c : Nat} (h : WordsR w (.slice (some ⟨g, o, none⟩) l.length c) l) : ∀ j u, (l.map wv)[j]? = some u → w.cell? ((⟨g, o, none⟩ : Addr).add j) = some u := fun j u hj => by
  rw [List.getElem?_map] at hj
  obtain ⟨x, hx, rfl⟩ := Option.map_eq_some_iff.1 hj
  have hjl : j < l.length := by
    rcases Nat.lt_or_ge j l.length with h | h
    · exact h
    · rw [List.getElem?_eq_none h] at hx; cases hx
  have h3 := (SlR.at_ h hjl).1 x hx
  rw [Nat.mul_one] at h3
  rw [add_none]
  exact h3
theorem words_of_own {w : World} {B : Nat} {p : Option Addr} {c : Nat} {l : List Int} (h : w.ownsRow B 37 1 (.slice p l.length c) l.length (l.map wv)) (h0 : 0 < l.length) : WordsR (cutW (New B w) w) (.slice p l.length c) l := by
  obtain ⟨g, cap, hv, h1, h2, h3, h4⟩ := row_cells h h0
  obtain ⟨_, ⟨_, h5⟩ | ⟨g', cap', cur, hv', hB, hg, _⟩⟩ := h
  · omega
  · rw [hv] at hv' ⊢
    injection hv' with e1
    injection e1 with e1
    injection e1 with e1
    subst e1
    refine .inr ⟨g, 0, cap, rfl, h0, ⟨h1, h2⟩, by rw [cutW_size]; exact h3, fun i hi x hx => cutW_cell.2 ⟨⟨hB, _, _, hg⟩, h4 _ _ ?_⟩⟩
    rw [Nat.zero_add, Nat.mul_one]
    simp [hx, wv]
theorem news_at {w : World} {l : List Value} {t : TypeId} {H : Nat} (hH : w.heap.size = H) : ∀ j u, l[j]? = some u → (w.alloc (.cells l.toArray t)).cell? ((⟨H, 0, none⟩ : Addr).add j) = some u := fun j u hj => by
  subst hH
  rw [add_none, Nat.zero_add]
  exact (cell_of_block (heap_new w _) (k := j) (by simpa using hj)).1
set_option maxHeartbeats 8000000 in
set_option maxRecDepth 100000 in
theorem refCopy_any (hcg : ∀ (y : PGr) (vp va vb : Value) (w : World), GrL w vp va vb y → SmG y → Calls Tryd.prog 51 #[grV y vp va vb] w (CopiedG y w))
    (x : PMod) (vg va vf : Value) (w : World) (hL : ModL w vg va vf x) (hs : SmM x) :
    Calls Tryd.prog 29 #[modV x vg va vf] w (CopiedR x w) := by
  obtain ⟨s1, s2, s3, s4⟩ := hs
  have HL := Lib.hid hL
  have HCG := Lib.hid hcg
  obtain ⟨gp, gc, rfl⟩ := hL.globals.form
  obtain ⟨ap, ac, rfl⟩ := hL.arrays.form
  obtain ⟨fp, fc, rfl⟩ := hL.funcs.form
  have HS1 := Lib.hid s1
  have HS2 := Lib.hid s2
  have HS3 := Lib.hid s3
  have HS4 := Lib.hid s4
  clear hL s1 s2 s3 s4 hcg
  unfold CopiedR modV
  go_enter Tryd.func29, Tryd.ntmps29
  go_upto_region 1 with (fail)
  obtain ⟨cur, hcur⟩ : ∃ cur : Array Value, cur = #[.slice gp x.globals.length gc, .slice ap x.arrays.length ac, .slice fp x.funcs.length fc, .int .i64 x.main] := ⟨_, rfl⟩
  rw [← hcur]
  have c0 : cur[0]? = some (.slice gp x.globals.length gc) := by rw [hcur]; rfl
  have c1 : cur[1]? = some (.slice ap x.arrays.length ac) := by rw [hcur]; rfl
  have c2 : cur[2]? = some (.slice fp x.funcs.length fc) := by rw [hcur]; rfl
  have c3 : cur[3]? = some (.int .i64 x.main) := by rw [hcur]; rfl
  have hb1 := below_then (below_alloc w (.cells cur 63)) (below_alloc (w.alloc (.cells cur 63)) (.cells #[.slice none 0 0, .slice none 0 0, .slice none 0 0, .int .i64 0] 63))
  have hrow : ((w.alloc (.cells cur 63)).alloc (.cells #[.slice none 0 0, .slice none 0 0, .slice none 0 0, .int .i64 0] 63)).heap[w.heap.size]? = some (.cells cur 63 (0, 0)) := ((below_alloc (w.alloc (.cells cur 63)) _).block w.heap.size (by simp [World.size_alloc])).trans (heap_new w _)
  have hres : ((w.alloc (.cells cur 63)).alloc (.cells #[.slice none 0 0, .slice none 0 0, .slice none 0 0, .int .i64 0] 63)).heap[w.heap.size + 1]? = some (.cells #[.slice none 0 0, .slice none 0 0, .slice none 0 0, .int .i64 0] 63 (0, 0)) := by
    have h := heap_new (w.alloc (.cells cur 63)) (.cells #[.slice none 0 0, .slice none 0 0, .slice none 0 0, .int .i64 0] 63)
    rw [World.size_alloc] at h
    exact h
  have hsz : ((w.alloc (.cells cur 63)).alloc (.cells #[.slice none 0 0, .slice none 0 0, .slice none 0 0, .int .i64 0] 63)).heap.size = w.heap.size + 2 := by rw [World.size_alloc, World.size_alloc]
  generalize hw1 : (w.alloc (.cells cur 63)).alloc (.cells #[.slice none 0 0, .slice none 0 0, .slice none 0 0, .int .i64 0] 63) = w1
  rw [hw1] at hb1 hrow hres hsz
  have H1 := Lib.hid hb1
  have HSZ := Lib.hid hsz
  have HROW := Lib.hid hrow
  have HRES := Lib.hid hres
  have HC := Lib.hid (And.intro c0 (And.intro c1 (And.intro c2 c3)))
  have HI := Lib.hid (fun (wx : World) (hx : Below w.heap.size w wx) => refInts_any x.arrays ap ac wx (HL.out.arrays.below hx) (by have := HS2.out; unfold reachBytes at this; omega))
  obtain ⟨g, hg⟩ : ∃ g, g = w.heap.size := ⟨_, rfl⟩
  have HGE := Lib.hid hg
  rw [← hg] at hrow hres
  rw [← hg]
  have hl : g < w1.heap.size := lt_of_block hrow
  obtain ⟨b1, f1⟩ := cell_of_block hrow c1
  obtain ⟨b3, f3⟩ := cell_of_block hrow c3
  clear hw1 hg hrow hres hb1 hsz c0 c1 c2 c3 hcur
  go_cut [3] (fun v wc => ∃ c, v = .pointer (some ⟨c, 0, none⟩) ∧ Hid (∃ G aq ac, StM x w cur c G aq ac wc))
  case first =>
    have hn0 : w1.heap.size ≠ g := Nat.ne_of_gt hl
    go_region_held3 (fun w' => w'.cell? ⟨g, 1, none⟩ = some (.slice ap x.arrays.length ac) ∧ w'.cell? ⟨g, 3, none⟩ = some (.int .i64 x.main)) (go_keep)
      (first
        | (go_at_call 50; refine (HI.out _ H1.out.drew).mono ?_; rintro e wa ⟨q, d, rfl, l, hb⟩
           have hk : Below w1.heap.size w1 wa := (Below.refl _ w1).drew.trans hb
           have HST := Lib.hid (StM.first (x := x) H1.out (Nat.le_of_eq HSZ.out.symm) HROW.out HRES.out hk l)
           have x1 := (hk.cell (p := ⟨g, 1, none⟩) hl).trans b1
           have x3 := (hk.cell (p := ⟨g, 3, none⟩) hl).trans b3
           have hla : g < wa.heap.size := Nat.lt_of_lt_of_le hl hk.size)
        | (go_at_call 50; refine (HI.out _ (H1.out.alloc H1.out.size _).drew).mono ?_; rintro e wa ⟨q, d, rfl, l, hb⟩
           have hk2 := (Below.refl _ (w1.alloc (.cells #[.slice none 0 0, .slice none 0 0, .slice none 0 0, .int .i64 0] 63))).drew.trans hb
           have hk : Below w1.heap.size w1 wa := below_then (below_alloc w1 _) hk2
           have x1 := (hk.cell (p := ⟨g, 1, none⟩) hl).trans b1
           have x3 := (hk.cell (p := ⟨g, 3, none⟩) hl).trans b3
           have hla : g < wa.heap.size := Nat.lt_of_lt_of_le hl hk.size
           have hnew := (hb.block w1.heap.size (by simp [World.size_alloc])).trans (heap_new w1 _)
           have hst := set_row4 (.slice none 0 0) (.slice q x.arrays.length d) (.slice none 0 0) (.int .i64 x.main) hnew
           have HST := Lib.hid (StM.second (x := x) H1.out (Nat.le_of_eq HSZ.out.symm) HROW.out HRES.out (below_alloc w1 _) (World.size_alloc _ _) hk2 l hst.1 hst.2)
           obtain ⟨a0, e0⟩ := cell_of_block hnew (k := 0) rfl
           obtain ⟨a1, e1⟩ := cell_of_block hnew (k := 1) rfl
           obtain ⟨a2, e2⟩ := cell_of_block hnew (k := 2) rfl
           obtain ⟨a3, e3⟩ := cell_of_block hnew (k := 3) rfl
           have hla2 : w1.heap.size < wa.heap.size := lt_of_block hnew
           clear hnew hst))
    all_goals
      clear hb l hk
      go_wp2_with fail
      go_meet
      refine ⟨_, rfl, ?_⟩
      obtain ⟨G, hG⟩ := HST.out
      exact Lib.hid ⟨G, _, _, hG⟩
  case rest =>
  obtain ⟨c, rfl, HST⟩ := hcut
  obtain ⟨G0, aq, ac2, hst⟩ := HST.out
  have hbox := hst.box
  rw [← HGE.out] at hbox
  clear b1 b3 f1 f3
  obtain ⟨b0, _⟩ := cell_of_block hbox HC.out.1
  obtain ⟨z0, e0⟩ := cell_of_block hst.cell (k := 0) rfl
  have hlg : g < wc.heap.size := lt_of_block hbox
  have hlc : c < wc.heap.size := lt_of_block hst.cell
  have HCEL := Lib.hid hst.cell
  have HS0 := Lib.hid hst
  clear hst hbox
  go_upto_region 2 with (fail)
  go_cut [3] (fun v wd => v = .pointer (some ⟨c, 0, none⟩) ∧ Hid (∃ G pq aq pc ac, OutM x w cur c G pq aq none pc ac 0 0 wd))
  case first =>
    rcases Nat.eq_zero_or_pos x.globals.length with h0 | h0
    · have HM : Hid (∃ G pq aq pc ac, OutM x w cur c G pq aq none pc ac 0 0 (wc.setCell ⟨c, 0, none⟩ (.slice none 0 0))) := Lib.hid (by
        have h := StM.globals (pq := none) (pc := 0) HS0.out (Below.refl _ _) (.inl ⟨h0, _, _, by rw [h0]⟩) rfl
        rw [h0] at h
        obtain ⟨G, h⟩ := h
        exact ⟨G, _, _, _, _, h⟩)
      rw [h0] at b0
      go_wp2_with (
        at_builtin
        refine wpList_append_nil0 (by rfl) _ _ 60 (by rfl) 37 1 Tryd.underlying60 (by kernel_rfl) gc gp (by rfl) (by rfl) ?_)
      go_meet
      exact ⟨rfl, HM⟩
    · obtain ⟨gb, go, gc', hv, hcap, hgl, _⟩ := SlR.form2 HL.out.globals h0
      injection hv with hv hle hce
      subst hv hce
      clear hle
      have HW : Hid (WordsR wc (.slice (some ⟨gb, go, none⟩) x.globals.length gc) x.globals) := Lib.hid (HL.out.globals.below HS0.out.old)
      have HNW := Lib.hid (news_words HW.out)
      have HR0 : Hid (wc.ownsRow wc.heap.size 37 1 (.slice none 0 0) 0 []) := Lib.hid (World.ownsRow_nil _ _ _ _)
      obtain ⟨i0, hi, hz0, hz1, hz2⟩ := info_parts info_word
      have HI0 := Lib.hid hi
      obtain ⟨n, hn⟩ : ∃ n, n = x.globals.length := ⟨_, rfl⟩
      have HN := Lib.hid hn
      have hnb : n * 4 ≤ 140737488355328 := by have := HS1.out; unfold reachBytes at this; omega
      rw [← hn] at b0 h0
      clear hn hi hgl
      go_wp2_with (
        at_builtin
        go_loud (refine wpList_append_lies _ (by rfl) _ _ 60 (by rfl) wc.heap.size 37 i0 _ 1 4 Tryd.underlying60 HI0.out hz0 hz1 hz2 rfl (by omega) _ 0 _ (by rfl) HR0.out ⟨gb, go, none⟩ n gc (x.globals.map wv) (by rfl) (by rw [List.length_map, HN.out, Nat.mul_one]) HNW.out mem_wv h0 (by unfold maxLen; omega) (by omega) (Nat.le_refl _) _ rfl ?_)
        intro g5 c5 w5 h5 h6 h7 h8
        have H5 := Lib.hid h5
        have hb5 : Below wc.heap.size wc w5 := Below.grown (Below.refl _ wc) h6 (Nat.le_refl _) (fun q hq => by cases hq)
        have H6 := Lib.hid hb5
        have x0 := (hb5.cell (p := ⟨c, 0, none⟩) hlc).trans z0
        have y0 : w5.frozen? ⟨c, 0, none⟩ = false := by unfold World.frozen? at e0 ⊢; rw [hb5.block c hlc]; exact e0
        have hl5 : c < w5.heap.size := Nat.lt_of_lt_of_le hlc hb5.size
        clear h5 h6 h7 h8 hb5)
      go_meet
      refine ⟨rfl, Lib.hid ?_⟩
      have hnn := HN.out
      have h5 := H5.out
      rw [Nat.zero_add, List.nil_append] at h5
      subst hnn
      obtain ⟨G, h⟩ := StM.globals HS0.out H6.out (words_of_own h5 h0) rfl
      exact ⟨G, _, _, _, _, h⟩
  case rest =>
  obtain ⟨rfl, HM0⟩ := hcut
  obtain ⟨n, hn⟩ : ∃ n, n = x.funcs.length := ⟨_, rfl⟩
  have HN := Lib.hid hn
  have hnb : n * 80 ≤ 140737488355328 := by have := HS3.out; unfold reachBytes at this; omega
  have hnI : (n : Int) ≤ 9223372036854775807 := by omega
  clear hn b0 z0 e0 hlg hlc HCEL HS0 HST
  go_wp2
  go_loopw [4] (fun i wr => ∃ k : Nat, k ≤ n ∧ i = .int .i64 k ∧ Hid (∃ G pq aq bq pc ac bc, OutM x w cur c G pq aq bq pc ac bc k wr)) (fun i _ => n - (intOf i).toNat)
  case atStart =>
    obtain ⟨G, pq, aq, pc, ac, h⟩ := HM0.out
    exact ⟨0, Nat.zero_le _, rfl, Lib.hid ⟨G, _, _, _, _, _, _, h⟩⟩
  case round =>
    obtain ⟨k, hk, rfl, HK⟩ := hrel
    obtain ⟨G, pq, aq, bq, pc, ac, bc, hm⟩ := HK.out
    have hbox := hm.box
    rw [← HGE.out] at hbox
    obtain ⟨b2, _⟩ := cell_of_block hbox HC.out.2.2.1
    rw [← HN.out] at b2
    have hlg : g < wr.heap.size := lt_of_block hbox
    have HM := Lib.hid hm
    clear hm hbox
    by_cases hlt : k < n
    · obtain ⟨fb, fo, fc', hv, hcap, hfl, hcell⟩ := SlR.form2 HL.out.funcs (by have := HN.out; omega)
      injection hv with hv hle hce
      subst hv hce
      clear hle
      have hkl : k < x.funcs.length := by have := HN.out; omega
      obtain ⟨vp, va, vb, hgr⟩ := hcell k hkl _ (List.getElem?_eq_getElem hkl)
      obtain ⟨y, hy⟩ : ∃ y, x.funcs[k] = y := ⟨_, rfl⟩
      rw [hy] at hgr
      have HX : Hid (x.funcs[k]? = some y) := Lib.hid (by rw [← hy]; exact List.getElem?_eq_getElem hkl)
      have hgr2 := hgr.below hfl HM.out.old
      obtain ⟨yp, yc, rfl⟩ := hgr.l.params.form
      obtain ⟨za, zc, rfl⟩ := hgr.l.arrays.form
      obtain ⟨tb, tc, rfl⟩ := hgr.l.blocks.form
      have HCB := Lib.hid (HCG.out y _ _ _ wr hgr2.l (HS4.out y (by rw [← hy]; exact List.getElem_mem hkl)))
      unfold CopiedG grV at HCB
      have c0 := hgr2.cp
      have c1 := hgr2.temps
      have c2 := hgr2.ca
      have c3 := hgr2.cb
      have hfw : fb < wr.heap.size := Nat.lt_of_lt_of_le hfl HM.out.old.size
      have k0 : (0 : Int) ≤ k := by omega
      have k1 : (k : Int) < n := by omega
      have k2 : (n : Int) ≤ fc := by have := HN.out; omega
      obtain ⟨i0, hi, hz0, hz1, hz2⟩ := info_parts info_gr
      have HI0 := Lib.hid hi
      clear hcap hcell hgr hgr2 hy hi hkl
      go_upto_region 7 with (
           go_at_call 51
           go_loud (refine HCB.out.mono ?_)
           rintro e wa ⟨q1, q2, q3, d1, d2, d3, rfl, hl, hb⟩
           obtain ⟨G', hom, hgc⟩ := OutM.ready HM.out hb hl (.cells #[.slice q1 y.params.length d1, .int .i64 y.temps, .slice q2 y.arrays.length d2, .slice q3 y.blocks.length d3] 26) (.cells #[.slice q1 y.params.length d1, .int .i64 y.temps, .slice q2 y.arrays.length d2, .slice q3 y.blocks.length d3] 26)
           obtain ⟨xs, hrow, hel⟩ := hom.row.row
           have HOM := Lib.hid hom
           have HGC := Lib.hid hgc
           have HRW := Lib.hid hrow
           have HEL := Lib.hid hel
           have HB := Lib.hid hb
           have hx2 := (hb.block c (lt_of_block HM.out.cell)).trans HM.out.cell
           obtain ⟨x2, e2⟩ := cell_of_block hx2 (k := 2) rfl
           have hlc := lt_of_block hx2
           have HNW := Lib.hid (news_at (w := wa.alloc (.cells #[.slice q1 y.params.length d1, .int .i64 y.temps, .slice q2 y.arrays.length d2, .slice q3 y.blocks.length d3] 26)) (l := [.slice q1 y.params.length d1, .int .i64 y.temps, .slice q2 y.arrays.length d2, .slice q3 y.blocks.length d3]) (t := 26) (H := wa.heap.size + 1) (World.size_alloc _ _))
           clear hb hl hom hgc hrow hel hx2)
      go_wp2_with (
           at_builtin
           go_loud (refine wpList_append_lies _ (by rfl) _ _ 61 (by rfl) (c + 1) 26 i0 _ 4 80 Tryd.underlying61 HI0.out hz0 hz1 hz2 rfl (by omega) _ k _ (by rfl) HRW.out ⟨wa.heap.size + 1, 0, none⟩ 1 1 [.slice q1 y.params.length d1, .int .i64 y.temps, .slice q2 y.arrays.length d2, .slice q3 y.blocks.length d3] (by rfl) rfl HNW.out (by simp [Value.oneCell']) (by omega) (by unfold maxLen; omega) (by omega) (by simp [World.size_alloc]; omega) _ rfl ?_)
           intro g5 c5 w5 h5 h6 h7 h8
           have hx5 := OutM.cell5 HOM.out HRW.out h6
           obtain ⟨x2', e2'⟩ := cell_of_block hx5 (k := 2) rfl
           have hlc5 := lt_of_block hx5
           have HFIN := Lib.hid (OutM.close HOM.out HGC.out HX.out HRW.out HEL.out ⟨rfl, rfl, rfl, rfl⟩ h5 h6 h7)
           clear h5 h6 h7 h8 hx5 x2 e2 hlc)
      exact ⟨⟨k + 1, Nat.succ_le_of_lt hlt, by go_num, Lib.hid ⟨_, _, _, _, _, _, _, HFIN.out⟩⟩, by simp [intOf]; omega⟩
    · obtain rfl : k = n := by omega
      have hres := HM.out.res
      have hcell := HM.out.cell
      rw [← HGE.out] at hres
      obtain ⟨r0, z0⟩ := cell_of_block hres (k := 0) rfl
      obtain ⟨r1, z1⟩ := cell_of_block hres (k := 1) rfl
      obtain ⟨r2, z2⟩ := cell_of_block hres (k := 2) rfl
      obtain ⟨r3, z3⟩ := cell_of_block hres (k := 3) rfl
      obtain ⟨q0, _⟩ := cell_of_block hcell (k := 0) rfl
      obtain ⟨q1, _⟩ := cell_of_block hcell (k := 1) rfl
      obtain ⟨q2, _⟩ := cell_of_block hcell (k := 2) rfl
      obtain ⟨q3, _⟩ := cell_of_block hcell (k := 3) rfl
      have hlr := lt_of_block hres
      have hlc := lt_of_block hcell
      have HEND := Lib.hid (set_row4 (.slice pq x.globals.length pc) (.slice aq x.arrays.length ac) (.slice bq k bc) (.int .i64 x.main) hres)
      have HDONE := Lib.hid (fun (we : World) (hwe : wr.grownBy we (some (w.heap.size + 1))) => OutM.done (x := x) (w0 := w) (box := cur) (g3 := c) (G := G) (pq := pq) (aq := aq) (bq := bq) (pc := pc) (ac := ac) (bc := bc) (by have h := HM.out; rw [HN.out] at h; exact h) hwe)
      clear hres hcell
      go_wp2
      obtain ⟨gw, ew⟩ := HEND.out
      generalize ((((World.setCell wr ⟨g + 1, 0, none⟩ (.slice pq x.globals.length pc)).setCell ⟨g + 1, 1, none⟩ (.slice aq x.arrays.length ac)).setCell ⟨g + 1, 2, none⟩ (.slice bq k bc)).setCell ⟨g + 1, 3, none⟩ (.int .i64 x.main)) = we at gw ew ⊢
      obtain ⟨p0, _⟩ := cell_of_block ew (k := 0) rfl
      obtain ⟨p1, _⟩ := cell_of_block ew (k := 1) rfl
      obtain ⟨p2, _⟩ := cell_of_block ew (k := 2) rfl
      obtain ⟨p3, _⟩ := cell_of_block ew (k := 3) rfl
      have HF := Lib.hid (HDONE.out we (by rw [← HGE.out]; exact gw))
      clear ew gw
      try simp only [Exit.inBlock, Exit.then]
      refine bodyPost_ret (v := .agg #[.slice pq x.globals.length pc, .slice aq x.arrays.length ac, .slice bq k bc, .int .i64 x.main]) ?_ rfl ?_
      · simp [results, Tryd.results29, go_sem, p0, p1, p2, p3]
      · have h1 := HF.out.1
        rw [← HN.out] at h1
        exact ⟨_, _, _, _, _, _, by rw [HN.out], by rw [← HN.out]; exact h1, HF.out.2⟩
end Go.Proofs.YtcijaaiopfbffaaDoor.Graph
namespace Go.Proofs.YtcijaaiopfbffaaDoor.Graph
open Go.RowKit

theorem info_arr : (Tryd.prog.info? 59).map (fun i => (i.zero, i.size, i.bytes)) = some (some (.agg #[.int .i64 0, .int .i64 0]), 2, 16) := by kernel_rfl
theorem info_case : (Tryd.prog.info? 83).map (fun i => (i.zero, i.size, i.bytes)) = some (some (.agg #[.int .u32 0, .int .i64 0]), 2, 16) := by kernel_rfl
theorem info_ins : (Tryd.prog.info? 77).map (fun i => (i.zero, i.size, i.bytes)) = some (some (.agg #[.int .i64 0, .int .i64 0, .int .i64 0, .int .i64 0, .int .i64 0, .int .u32 0, .slice none 0 0, .slice none 0 0]), 8, 96) := by kernel_rfl
theorem mem_arrs {l : List PArr} : ∀ u ∈ arrCs l, u.oneCell' = true := by
  intro u hu
  obtain ⟨j, hj⟩ := List.mem_iff_getElem?.1 hu
  obtain ⟨i, x, _, ⟨_, rfl⟩ | ⟨_, rfl⟩⟩ := arrCs_get hj <;> rfl
theorem news_arrs {w : World} {g o : Nat} {l : List PArr} {c : Nat} (h : ArrsR w (.slice (some ⟨g, o, none⟩) l.length c) l) : ∀ j u, (arrCs l)[j]? = some u → w.cell? ((⟨g, o, none⟩ : Addr).add j) = some u := fun j u hj => by
  obtain ⟨i, x, hx, hor⟩ := arrCs_get hj
  have hil : i < l.length := by
    rcases Nat.lt_or_ge i l.length with h | h
    · exact h
    · rw [List.getElem?_eq_none h] at hx; cases hx
  obtain ⟨h1, h2⟩ := (SlR.at_ h hil).1 x hx
  rw [add_none]
  rcases hor with ⟨rfl, rfl⟩ | ⟨rfl, rfl⟩
  · exact h1
  · rw [← Nat.add_assoc]; exact h2
theorem arrs_of_own {w : World} {B : Nat} {p : Option Addr} {c : Nat} {l : List PArr} (h : w.ownsRow B 59 2 (.slice p l.length c) l.length (arrCs l)) (h0 : 0 < l.length) : ArrsR (cutW (New B w) w) (.slice p l.length c) l := by
  obtain ⟨g, cap, hv, h1, h2, h3, h4⟩ := row_cells h h0
  obtain ⟨_, ⟨_, h5⟩ | ⟨g', cap', cur, hv', hB, hg, _⟩⟩ := h
  · omega
  · rw [hv] at hv' ⊢
    injection hv' with e1
    injection e1 with e1
    injection e1 with e1
    subst e1
    refine .inr ⟨g, 0, cap, rfl, h0, ⟨h1, h2⟩, by rw [cutW_size]; exact h3, fun i hi x hx => ?_⟩
    obtain ⟨y1, y2⟩ := arrCs_at hx
    rw [Nat.zero_add]
    exact ⟨cutW_cell.2 ⟨⟨hB, _, _, hg⟩, h4 _ _ (by simpa using y1)⟩, cutW_cell.2 ⟨⟨hB, _, _, hg⟩, h4 _ _ (by simpa using y2)⟩⟩
theorem mem_cases {l : List PCase} : ∀ u ∈ caseCs l, u.oneCell' = true := by
  intro u hu
  obtain ⟨j, hj⟩ := List.mem_iff_getElem?.1 hu
  obtain ⟨i, x, _, ⟨_, rfl⟩ | ⟨_, rfl⟩⟩ := caseCs_get hj <;> rfl
theorem news_cases {w : World} {g o : Nat} {l : List PCase} {c : Nat} (h : CasesR w (.slice (some ⟨g, o, none⟩) l.length c) l) : ∀ j u, (caseCs l)[j]? = some u → w.cell? ((⟨g, o, none⟩ : Addr).add j) = some u := fun j u hj => by
  obtain ⟨i, x, hx, hor⟩ := caseCs_get hj
  have hil : i < l.length := by
    rcases Nat.lt_or_ge i l.length with h | h
    · exact h
    · rw [List.getElem?_eq_none h] at hx; cases hx
  obtain ⟨h1, h2⟩ := (SlR.at_ h hil).1 x hx
  rw [add_none]
  rcases hor with ⟨rfl, rfl⟩ | ⟨rfl, rfl⟩
  · exact h1
  · rw [← Nat.add_assoc]; exact h2
theorem cases_of_own {w : World} {B : Nat} {p : Option Addr} {c : Nat} {l : List PCase} (h : w.ownsRow B 83 2 (.slice p l.length c) l.length (caseCs l)) (h0 : 0 < l.length) : CasesR (cutW (New B w) w) (.slice p l.length c) l := by
  obtain ⟨g, cap, hv, h1, h2, h3, h4⟩ := row_cells h h0
  obtain ⟨_, ⟨_, h5⟩ | ⟨g', cap', cur, hv', hB, hg, _⟩⟩ := h
  · omega
  · rw [hv] at hv' ⊢
    injection hv' with e1
    injection e1 with e1
    injection e1 with e1
    subst e1
    refine .inr ⟨g, 0, cap, rfl, h0, ⟨h1, h2⟩, by rw [cutW_size]; exact h3, fun i hi x hx => ?_⟩
    obtain ⟨y1, y2⟩ := caseCs_at hx
    rw [Nat.zero_add]
    exact ⟨cutW_cell.2 ⟨⟨hB, _, _, hg⟩, h4 _ _ (by simpa using y1)⟩, cutW_cell.2 ⟨⟨hB, _, _, hg⟩, h4 _ _ (by simpa using y2)⟩⟩
theorem step_append_nil0 {P : Program} {w : World} {ops : Array Oper} {o : Oper} {a : Act} {K : Act → World → Prop} {Q : Exit → Act → World → Prop} {E : Prop} (hgd : o.guard = none) (d s : Operand) (t : TypeId)
    (ho : o.op = .call { callee := .builtin .append, args := #[d, s], argTypes := #[t, t] }) (e : TypeId) (size : Nat) (hu : P.underlying t = some (.slice e)) (hs : (P.info? e).map (·.size) = some size)
    (c : Nat) (p : Option Addr) (hd : a.eval d = .slice none 0 0) (hx : a.eval s = .slice p 0 c)
    (h : K (a.put o.dst (.slice none 0 0)) w) : if Region.wanted o (yielded ops a.tmps) = true then Oper.wp P o a w K Q else E := by
  have hw : Region.wanted o (yielded ops a.tmps) = true := by simp [Region.wanted, hgd]
  rw [if_pos hw]
  have hrun := run_append_nil0 (P := P) w t e o.type size hu hs c p
  unfold Oper.wp
  simp [execOp, ho, resolve, invoke, builtin, hd, hx, hrun, Result.andThen]
  exact h
theorem InB.cell5 {bk : PBlk} {wk w4 w5 : World} {g5 : Nat} {G : Nat → Prop} {kq cq tq : Option Addr} {kc cc tc i : Nat} (h : InB bk wk g5 G kq cq tq kc cc tc i w4) {xs : List Value} (h1 : w4.ownsRow (g5 + 1) 77 8 (.slice kq i kc) i xs) (h4 : w4.grownBy w5 (Value.slice kq i kc).ownBlock) : w5.heap[g5]? = w4.heap[g5]? := by
  have hown : ∀ b, (Value.slice kq i kc).ownBlock = some b → g5 + 1 ≤ b := fun b e => by
    obtain ⟨_, ⟨e2, _⟩ | ⟨g', cap', cur', e2, h6, _⟩⟩ := h1
    · rw [e2] at e; cases e
    · rw [e2] at e; injection e with e; have e3 : g' = b := e; omega
  exact h4.block g5 (lt_of_block h.cell) (fun e => by have := hown g5 e.symm; omega)
/-- The block's own lists are there: its end. -/
theorem InB.start {bk : PBlk} {wk w5 wa wb we : World} {g5 : Nat} {v0 v8 v9 : Value} {cq tq : Option Addr} {cc tc : Nat} (h5 : Below wk.heap.size wk w5) (hg : g5 = wk.heap.size) (hs : w5.heap.size = g5 + 1) (hc : w5.heap[g5]? = some (.cells #[.slice none 0 0, .int .i64 bk.fin.kind, .int .i64 bk.fin.op, .int .i64 bk.fin.a, .int .i64 bk.fin.b, .int .u32 bk.fin.n, .int .i64 bk.fin.to, .int .i64 bk.fin.els, v8, v9] 42 (0, 0)))
    (hb : Below w5.heap.size w5 wa) (hl : IntsR (cutW (New w5.heap.size wa) wa) (.slice tq bk.fin.targets.length tc) bk.fin.targets) (hw : (wa.setCell ⟨g5, 9, none⟩ (.slice tq bk.fin.targets.length tc)).setCell ⟨g5, 8, none⟩ v0 = wb)
    (hb2 : Below wb.heap.size wb we) (hl2 : CasesR (cutW (New wb.heap.size we) we) (.slice cq bk.fin.cases.length cc) bk.fin.cases) (hn : 0 ≤ bk.fin.n ∧ bk.fin.n ≤ 4294967295) :
    ∃ G, InB bk wk g5 G none cq tq 0 cc tc 0 (we.setCell ⟨g5, 8, none⟩ (.slice cq bk.fin.cases.length cc)) := by
  have k1 := (hb.block g5 (by omega)).trans hc
  have k2 := heap_setCell_same wa g5 9 _ _ (.slice tq bk.fin.targets.length tc) k1
  have k3 := heap_setCell_same (wa.setCell ⟨g5, 9, none⟩ (.slice tq bk.fin.targets.length tc)) g5 8 _ _ v0 k2
  have gb1 : w5.grownBy ((wa.setCell ⟨g5, 9, none⟩ (.slice tq bk.fin.targets.length tc)).setCell ⟨g5, 8, none⟩ v0) (some g5) := grown_step (grown_step (World.grownBy.refl w5 (some g5)) hb) (Below.refl _ _)
  have hsz : ((wa.setCell ⟨g5, 9, none⟩ (.slice tq bk.fin.targets.length tc)).setCell ⟨g5, 8, none⟩ v0).heap.size = wa.heap.size := by simp
  have oth1 : ∀ b, b ≠ g5 → ((wa.setCell ⟨g5, 9, none⟩ (.slice tq bk.fin.targets.length tc)).setCell ⟨g5, 8, none⟩ v0).heap[b]? = wa.heap[b]? := fun b hne => by
    rw [heap_setCell_other (wa.setCell ⟨g5, 9, none⟩ _) ⟨g5, 8, none⟩ b _ (fun e => hne e), heap_setCell_other wa ⟨g5, 9, none⟩ b _ (fun e => hne e)]
  rw [hw] at k3 gb1 hsz oth1
  clear hw k2
  have hsa := hb.size
  have hsb := hb2.size
  have k4 := (hb2.block g5 (lt_of_block k3)).trans k3
  have k5 := heap_setCell_same we g5 8 _ _ (.slice cq bk.fin.cases.length cc) k4
  have gb2 : w5.grownBy (we.setCell ⟨g5, 8, none⟩ (.slice cq bk.fin.cases.length cc)) (some g5) := grown_trans gb1 (grown_step (World.grownBy.refl wb (some g5)) hb2)
  have hse : (we.setCell ⟨g5, 8, none⟩ (.slice cq bk.fin.cases.length cc)).heap.size = we.heap.size := by simp
  have oth2 : ∀ b, b ≠ g5 → (we.setCell ⟨g5, 8, none⟩ (.slice cq bk.fin.cases.length cc)).heap[b]? = we.heap[b]? := fun b hne => heap_setCell_other we ⟨g5, 8, none⟩ b _ (fun e => hne e)
  have e1 : ∀ b, b ≠ g5 → b < wa.heap.size → (we.setCell ⟨g5, 8, none⟩ (.slice cq bk.fin.cases.length cc)).heap[b]? = wa.heap[b]? := fun b h1 h2 => by rw [oth2 b h1, hb2.block b (by omega), oth1 b h1]
  refine ⟨fun b => g5 + 1 ≤ b ∧ b < we.heap.size ∧ Unf we b, ?_, ?_, ⟨?_, ?_, hn⟩, k5⟩
  · subst hg
    exact Below.grown h5 gb2 (by omega) (fun k hk => by injection hk with hk; omega)
  · exact RowIn.nil _ _ _ _ _ (fun b h => h.1) (fun b h => by rw [hse]; exact h.2.1) (fun b h => unf_keep h.2.2 (oth2 b (by have := h.1; omega)))
  · refine CasesR.holds (cut_to (by omega) fun b hb3 hn2 => ?_) hl2
    have hne : b ≠ g5 := by have := hn2.1; omega
    exact ⟨⟨by have := hn2.1; omega, hb3, hn2.2⟩, oth2 b hne⟩
  · refine IntsR.holds (cut_to (by omega) fun b hb3 hn2 => ?_) hl
    have hne : b ≠ g5 := by have := hn2.1; omega
    have e2 : we.heap[b]? = wa.heap[b]? := by rw [hb2.block b (by omega), oth1 b hne]
    exact ⟨⟨by have := hn2.1; omega, by omega, unf_keep hn2.2 e2⟩, e1 b hne hb3⟩
end Go.Proofs.YtcijaaiopfbffaaDoor.Graph
