/- What is made of sets, words and lists lies as noughts. No condition. -/
import Derived.Test.YtcijaaiopfbffaaDoorZW
import Derived.Test.YtcijaaiopfbffaaDoorZR
import Derived.Test.YtcijaaiopfbffaaDoorZp
import Derived.Test.YtcijaaiopfbffaaDoorZn
import Derived.Deep.RegionLaw
namespace Go.Proofs.YtcijaaiopfbffaaDoor.Live
open Go.RowKit Go.Proofs.YtcijaaiopfbffaaDoor.Graph

def zeroSet : Value := .agg (Array.replicate 125 (.int .u64 0))
def zeroCs : Array Value := Array.replicate 125 (.int .u64 0)
theorem zero_cells : zeroSet.cells = zeroCs := by kernel_rfl
theorem info_set : (Tryd.prog.info? 73).map (fun i => (i.zero, i.size, i.bytes)) = some (some zeroSet, 125, 1000) := by kernel_rfl
theorem info_u64 : (Tryd.prog.info? 71).map (fun i => (i.zero, i.size, i.bytes)) = some (some (.int .u64 0), 1, 8) := by kernel_rfl
theorem info_ints : (Tryd.prog.info? 22).map (fun i => (i.zero, i.size, i.bytes)) = some (some (.slice none 0 0), 1, 24) := by kernel_rfl
theorem make_sets (n : Nat) (hn : n ≤ 20000) (w : World) : (Instr.makeSlice 65 (.int .i64 (n : Int)) (.int .i64 (n : Int))).run Tryd.prog w = .ok (.slice (some ⟨w.heap.size, 0, none⟩) n n) (w.alloc (.cells (madeCells zeroCs (n * 125)) 73)) := by
  obtain ⟨i0, HI, hz0, hz1, hz2⟩ := info_parts info_set
  have := run_make (P := Tryd.prog) w 65 73 i0 _ Tryd.underlying65 HI hz0 .i64 .i64 (n : Int) (n : Int) (by omega) (by omega) (by rw [hz2]; omega) (by omega)
  rw [← zero_cells]
  simpa [hz1] using this
theorem make_words (n : Nat) (hn : n ≤ 20000) (w : World) : (Instr.makeSlice 101 (.int .i64 (n : Int)) (.int .i64 (n : Int))).run Tryd.prog w = .ok (.slice (some ⟨w.heap.size, 0, none⟩) n n) (w.alloc (.cells (madeCells #[.int .u64 0] n) 71)) := by
  obtain ⟨i0, HI, hz0, hz1, hz2⟩ := info_parts info_u64
  have := run_make (P := Tryd.prog) w 101 71 i0 _ Tryd.underlying101 HI hz0 .i64 .i64 (n : Int) (n : Int) (by omega) (by omega) (by rw [hz2]; omega) (by omega)
  simpa [hz1, Value.cells] using this
theorem make_lists (n : Nat) (hn : n ≤ 20000) (w : World) : (Instr.makeSlice 28 (.int .i64 (n : Int)) (.int .i64 (n : Int))).run Tryd.prog w = .ok (.slice (some ⟨w.heap.size, 0, none⟩) n n) (w.alloc (.cells (madeCells #[.slice none 0 0] n) 22)) := by
  obtain ⟨i0, HI, hz0, hz1, hz2⟩ := info_parts info_ints
  have := run_make (P := Tryd.prog) w 28 22 i0 _ Tryd.underlying28 HI hz0 .i64 .i64 (n : Int) (n : Int) (by omega) (by omega) (by rw [hz2]; omega) (by omega)
  simpa [hz1, Value.cells] using this
theorem made_at (z : Array Value) (n k : Nat) (hk : k < n) (v : Value) (hv : z[k % z.size]! = v) : (madeCells z n)[k]? = some v := by
  unfold madeCells
  rw [Array.getElem?_map, Array.getElem?_range, if_pos hk]
  exact congrArg some hv
theorem made_sets {w : World} {g n : Nat} (h : w.heap[g]? = some (.cells (madeCells zeroCs (n * 125)) 73 (0, 0))) : SetsAt w g n fun _ _ => 0 := by
  refine ⟨_, h, size_madeCells _ _, fun b k hb hk => made_at _ _ _ (by omega) _ ?_⟩
  unfold zeroCs
  rw [Array.size_replicate]
  have : (b * 125 + k) % 125 < 125 := Nat.mod_lt _ (by omega)
  rw [getElem!_pos _ _ (by rw [Array.size_replicate]; exact this), Array.getElem_replicate]
  rfl
theorem made_words {w : World} {g n : Nat} (h : w.heap[g]? = some (.cells (madeCells #[.int .u64 0] n) 71 (0, 0))) : WRow w g n fun _ => 0 := by
  refine ⟨_, h, size_madeCells _ _, fun b hb => made_at _ _ _ hb _ ?_⟩
  have : b % (#[Value.int .u64 0] : Array Value).size = 0 := Nat.mod_one b
  rw [this]; rfl
end Go.Proofs.YtcijaaiopfbffaaDoor.Live
namespace Go.Proofs.YtcijaaiopfbffaaDoor.Live
open Go.RowKit Go.Proofs.YtcijaaiopfbffaaDoor.Graph

/-- The look, made: of noughts, in new blocks; no block leads to another yet. -/
structure LMade (w wq : World) (lb ub db ab n : Nat) : Prop where
  lk : LookSt lb ub db n (.slice (some ⟨ab, 0, none⟩) n n) (fun _ => look0) wq
  ah : wq.heap[ab]? = some (.cells (madeCells #[.slice none 0 0] n) 22 (0, 0))
  new : w.heap.size ≤ lb ∧ w.heap.size ≤ ub ∧ w.heap.size ≤ db ∧ w.heap.size ≤ ab
  ne : ab ≠ lb ∧ ab ≠ ub ∧ ab ≠ db
  below : Below w.heap.size w wq
def setsO (n : Nat) : Obj := .cells (madeCells zeroCs (n * 125)) 73
def listsO (n : Nat) : Obj := .cells (madeCells #[.slice none 0 0] n) 22
theorem made_look (w : World) (q lb ub db ab n : Nat) (o1 o2 o3 : Obj) (hl : lb = w.heap.size + 3)
    (hu : (ub = w.heap.size ∧ o1 = setsO n) ∨ (ub = w.heap.size + 1 ∧ o2 = setsO n) ∨ (ub = w.heap.size + 2 ∧ o3 = setsO n))
    (hd : (db = w.heap.size ∧ o1 = setsO n) ∨ (db = w.heap.size + 1 ∧ o2 = setsO n) ∨ (db = w.heap.size + 2 ∧ o3 = setsO n))
    (ha : (ab = w.heap.size ∧ o1 = listsO n) ∨ (ab = w.heap.size + 1 ∧ o2 = listsO n) ∨ (ab = w.heap.size + 2 ∧ o3 = listsO n)) (hne : ub ≠ db ∧ ab ≠ ub ∧ ab ≠ db)
    (wq : World) (hq : wq = ((((w.drewN q).alloc o1).alloc o2).alloc o3).alloc (.cells #[.slice (some ⟨ub, 0, none⟩) n n, .slice (some ⟨db, 0, none⟩) n n, .slice (some ⟨ab, 0, none⟩) n n] 98)) :
    LMade w wq lb ub db ab n := by
  subst hl
  have hz : (w.drewN q).heap.size = w.heap.size := rfl
  have hs3 : ((((w.drewN q).alloc o1).alloc o2).alloc o3).heap.size = w.heap.size + 3 := by simp only [World.size_alloc]; omega
  have e1 : wq.heap[w.heap.size]? = some o1 := by
    rw [hq, Below.heap_alloc _ _ _ (by omega), Below.heap_alloc _ _ _ (by simp only [World.size_alloc]; omega), Below.heap_alloc _ _ _ (by simp only [World.size_alloc]; omega)]
    exact World.alloc_heap_new (w.drewN q) o1
  have e2 : wq.heap[w.heap.size + 1]? = some o2 := by
    rw [hq, Below.heap_alloc _ _ _ (by omega), Below.heap_alloc _ _ _ (by simp only [World.size_alloc]; omega)]
    have := World.alloc_heap_new ((w.drewN q).alloc o1) o2; simpa [hz] using this
  have e3 : wq.heap[w.heap.size + 2]? = some o3 := by
    rw [hq, Below.heap_alloc _ _ _ (by omega)]
    have := World.alloc_heap_new (((w.drewN q).alloc o1).alloc o2) o3; simpa [hz] using this
  have e4 : wq.heap[w.heap.size + 3]? = some (.cells #[.slice (some ⟨ub, 0, none⟩) n n, .slice (some ⟨db, 0, none⟩) n n, .slice (some ⟨ab, 0, none⟩) n n] 98 (0, 0)) := by
    rw [hq]
    have := World.alloc_heap_new ((((w.drewN q).alloc o1).alloc o2).alloc o3) (.cells #[.slice (some ⟨ub, 0, none⟩) n n, .slice (some ⟨db, 0, none⟩) n n, .slice (some ⟨ab, 0, none⟩) n n] 98)
    simpa [hz] using this
  have fu : wq.heap[ub]? = some (setsO n) := by rcases hu with ⟨rfl, h⟩ | ⟨rfl, h⟩ | ⟨rfl, h⟩ <;> rw [← h] <;> assumption
  have fd : wq.heap[db]? = some (setsO n) := by rcases hd with ⟨rfl, h⟩ | ⟨rfl, h⟩ | ⟨rfl, h⟩ <;> rw [← h] <;> assumption
  have fa : wq.heap[ab]? = some (listsO n) := by rcases ha with ⟨rfl, h⟩ | ⟨rfl, h⟩ | ⟨rfl, h⟩ <;> rw [← h] <;> assumption
  have bu : w.heap.size ≤ ub ∧ ub < w.heap.size + 3 := by omega
  have bd : w.heap.size ≤ db ∧ db < w.heap.size + 3 := by omega
  have ba : w.heap.size ≤ ab ∧ ab < w.heap.size + 3 := by omega
  refine ⟨⟨e4, made_sets fu, made_sets fd, by omega⟩, fa, by omega, by omega, ?_⟩
  rw [hq]
  exact ((((Graph.below_drewN w q).alloc (Nat.le_refl _) _).alloc (by simp only [World.size_alloc]; omega) _).alloc (by simp only [World.size_alloc]; omega) _).alloc (by simp only [World.size_alloc]; omega) _
end Go.Proofs.YtcijaaiopfbffaaDoor.Live
namespace Go.Proofs.YtcijaaiopfbffaaDoor.Live
open Go.RowKit Go.Proofs.YtcijaaiopfbffaaDoor.Graph

structure AhSt (B ab n : Nat) (A : Nat → List Nat) (vs : Nat → Value) (w : World) : Prop where
  blk : ∃ cs, w.heap[ab]? = some (.cells cs 22 (0, 0)) ∧ cs.size = n ∧ ∀ b, b < n → cs[b]? = some (vs b)
  rows : ∀ b, b < n → w.ownsRow B 3 1 (vs b) (A b).length ((A b).map iN)
  apart : ∀ b c q, b < n → c < n → b ≠ c → (vs b).ownBlock = some q → (vs c).ownBlock ≠ some q
section
variable {B ab n : Nat} {A : Nat → List Nat} {vs : Nat → Value} {w w' : World}
theorem AhSt.cell (h : AhSt B ab n A vs w) {b : Nat} (hb : b < n) : w.cell? ⟨ab, b, none⟩ = some (vs b) ∧ w.frozen? ⟨ab, b, none⟩ = false := by
  obtain ⟨cs, h1, _, h3⟩ := h.blk
  exact ⟨by simp [World.cell?, h1, h3 b hb], by simp [World.frozen?, h1]⟩
theorem AhSt.lt (h : AhSt B ab n A vs w) : ab < w.heap.size := by
  obtain ⟨cs, h1, _⟩ := h.blk
  exact (Array.getElem?_eq_some_iff.1 h1).1
theorem AhSt.keep (h : AhSt B ab n A vs w) (hb : Below w.heap.size w w') : AhSt B ab n A vs w' := by
  obtain ⟨cs, h1, h2⟩ := h.blk
  exact ⟨⟨cs, (hb.block _ h.lt).trans h1, h2⟩, fun b hn => own_below (h.rows b hn) hb, h.apart⟩
/-- All below stays, but for two blocks that are none of these. -/
theorem AhSt.turn {x y : Nat} (h : AhSt B ab n A vs w) (ht : Turn x y w w') (hx : x < B ∧ x ≠ ab) (hy : y < B ∧ y ≠ ab) : AhSt B ab n A vs w' := by
  obtain ⟨cs, h1, h2⟩ := h.blk
  refine ⟨⟨cs, (ht.block _ h.lt (Ne.symm hx.2) (Ne.symm hy.2)).trans h1, h2⟩, fun b hn => ?_, h.apart⟩
  obtain ⟨h3, h4 | ⟨g, cap, cur, h5, hB, hg, h6⟩⟩ := h.rows b hn
  · exact ⟨h3, .inl h4⟩
  · exact ⟨h3, .inr ⟨g, cap, cur, h5, hB, (ht.block g (Array.getElem?_eq_some_iff.1 hg).1 (by omega) (by omega)).trans hg, h6⟩⟩
/-- One more in one row. -/
theorem AhSt.more {t k : Nat} {v' : Value} {w7 : World} (h : AhSt B ab n A vs w) (hab : ab < B) (ht : t < n) (hg : w.grownBy w7 (vs t).ownBlock) (hr : w7.ownsRow B 3 1 v' ((A t).length + 1) ((A t).map iN ++ [iN k])) (hv : (vs t).ownBlock = v'.ownBlock ∨ ∀ q, v'.ownBlock = some q → w.heap.size ≤ q) :
    AhSt B ab n (fun b => if b = t then A t ++ [k] else A b) (fun b => if b = t then v' else vs b) (w7.setCell ⟨ab, t, none⟩ v') := by
  obtain ⟨cs, h1, h2, h3⟩ := h.blk
  have h4 : w7.heap[ab]? = some (.cells cs 22 (0, 0)) := (hg.block _ h.lt (fun e => by have := ((h.rows t ht).lt ab e.symm).1; omega)).trans h1
  refine ⟨⟨_, heap_setCell_same w7 ab _ _ _ _ h4, by simpa using h2, fun b hb => ?_⟩, fun b hb => ?_, fun b c q hb hc hne hq => ?_⟩
  · have h5 := h3 b hb
    by_cases e : b = t
    · subst e
      rw [Array.getElem?_setIfInBounds_self_of_lt (Array.getElem?_eq_some_iff.1 h5).1, if_pos rfl]
    · rw [Array.getElem?_setIfInBounds_ne (Ne.symm e), if_neg e]; exact h5
  · by_cases e : b = t
    · subst e
      simp only [if_true]
      rw [List.length_append, List.map_append]
      exact own_set hr hab _ _
    · simp only [if_neg e]
      refine own_set ((h.rows b hb).kept hg ?_) hab _ _
      cases hq : (vs b).ownBlock with
      | none => exact .inl rfl
      | some q => exact .inr (fun e2 => h.apart b t q hb ht e hq e2.symm)
  · by_cases e : b = t
    · subst e
      have ec : c ≠ b := Ne.symm hne
      simp only [if_true] at hq
      simp only [if_neg ec]
      rcases hv with hv | hv
      · exact h.apart b c q hb hc hne (hv.trans hq)
      · intro e2
        have := hv q hq
        have := ((h.rows c hc).lt q e2).2
        omega
    · simp only [if_neg e] at hq
      by_cases ec : c = t
      · subst ec
        simp only [if_true]
        rcases hv with hv | hv
        · rw [← hv]; exact h.apart b c q hb hc hne hq
        · intro e2
          have := hv q e2
          have := ((h.rows b hb).lt q hq).2
          omega
      · simp only [if_neg ec]
        exact h.apart b c q hb hc hne hq
/-- At the beginning no row holds anything. -/
theorem AhSt.made (h : w.heap[ab]? = some (.cells (madeCells #[.slice none 0 0] n) 22 (0, 0))) : AhSt B ab n (fun _ => []) (fun _ => .slice none 0 0) w := by
  refine ⟨⟨_, h, size_madeCells _ _, fun b hb => made_at _ _ _ hb _ ?_⟩, fun b _ => World.ownsRow_nil _ _ _ _, fun b c q _ _ _ hq => by cases hq⟩
  have : b % (#[Value.slice none 0 0] : Array Value).size = 0 := Nat.mod_one b
  rw [this]; rfl
theorem ints_own {v : Value} {l : List Nat} (h : w.ownsRow B 3 1 v l.length (l.map iN)) : IntsR w v (l.map fun (k : Nat) => (k : Int)) := by
  obtain ⟨_, ⟨rfl, h0⟩ | ⟨g, cap, cur, rfl, hB, hg, h1, h2, h3, h4⟩⟩ := h
  · exact .inl ⟨by rw [List.length_map]; exact h0, none, 0, rfl⟩
  · rcases Nat.eq_zero_or_pos l.length with h0 | h0
    · exact .inl ⟨by rw [List.length_map]; exact h0, some ⟨g, 0, none⟩, cap, by rw [h0]⟩
    · refine .inr ⟨g, 0, cap, by rw [List.length_map], by rw [List.length_map]; exact h0, ⟨by rw [List.length_map]; exact h1, h2⟩, (Array.getElem?_eq_some_iff.1 hg).1, fun j hj x hx => ?_⟩
      rw [List.length_map] at hj
      rw [Nat.mul_one, Nat.zero_add]
      have h5 : cur.toList[j]? = some (.int .i64 x) := by
        have h6 : (cur.toList.take (l.length * 1))[j]? = (l.map iN)[j]? := by rw [h4]
        rw [List.getElem?_take_of_lt (by omega), List.getElem?_map] at h6
        rw [List.getElem?_map] at hx
        rw [h6]
        cases hl : l[j]? with
        | none => rw [hl] at hx; cases hx
        | some y => rw [hl] at hx; injection hx with hx; rw [← hx]; rfl
      rw [Array.getElem?_toList] at h5
      exact (cell_of_block hg h5).1
/-- At the end. -/
theorem AhSt.ahead (h : AhSt B ab n A vs w) : AhR w (.slice (some ⟨ab, 0, none⟩) n n) n A :=
  ⟨ab, rfl, h.lt, fun b hb => ⟨vs b, (h.cell hb).1, ints_own (h.rows b hb)⟩⟩
end
end Go.Proofs.YtcijaaiopfbffaaDoor.Live
namespace Go.Proofs.YtcijaaiopfbffaaDoor.Live
open Go.RowKit Go.Proofs.YtcijaaiopfbffaaDoor.Graph

structure InLk (w : World) (bx : Obj) (B B4 lb ub db ab n m : Nat) (gv : Value) (LL : List Int) (L : Nat → Look) (A : Nat → List Nat) (vs : Nat → Value) (wr : World) : Prop where
  lk : LookSt lb ub db n (.slice (some ⟨ab, 0, none⟩) n n) L wr
  ah : AhSt B ab n A vs wr
  box : wr.heap[w.heap.size]? = some bx
  below : Below w.heap.size w wr
  row : wr.ownsRow B4 3 1 gv m (LL.map iv)
  apart : ∀ b q, b < n → (vs b).ownBlock = some q → gv.ownBlock ≠ some q
  old : lb < B ∧ ub < B ∧ db < B ∧ ab < B ∧ w.heap.size < B ∧ B ≤ B4 ∧ B4 ≤ wr.heap.size
  ne : ab ≠ lb ∧ ab ≠ ub ∧ ab ≠ db ∧ w.heap.size < ab
theorem LookSt.same3 {w w' : World} {lb ub db n : Nat} {va : Value} {L : Nat → Look} (h : LookSt lb ub db n va L w) (he : ∀ k, (k = lb ∨ k = ub ∨ k = db) → w'.heap[k]? = w.heap[k]?) : LookSt lb ub db n va L w' :=
  ⟨(he lb (by simp)).trans h.look, h.us.keep (he ub (by simp)), h.ds.keep (he db (by simp)), h.ne⟩
theorem stay_more {wr W1 w7 : World} {ab a : Nat} {row : Option Nat} {v' : Value} (hb : Below wr.heap.size wr W1) (hg : W1.grownBy w7 row) : ∀ i, i < wr.heap.size → i ≠ ab → row ≠ some i → (w7.setCell ⟨ab, a, none⟩ v').heap[i]? = wr.heap[i]? := fun i hi h1 h2 =>
  (heap_setCell_other w7 ⟨ab, a, none⟩ i v' h1).trans ((hg.block i (Nat.lt_of_lt_of_le hi hb.size) (fun e => h2 e.symm)).trans (hb.block i hi))
theorem cell_more {wr W1 w7 : World} {row : Option Nat} (hb : Below wr.heap.size wr W1) (hg : W1.grownBy w7 row) {p : Addr} (hp : p.block < wr.heap.size) (hr : row ≠ some p.block) : w7.cell? p = wr.cell? p ∧ w7.frozen? p = wr.frozen? p := by
  have h : w7.heap[p.block]? = wr.heap[p.block]? := (hg.block p.block (Nat.lt_of_lt_of_le hp hb.size) (fun e => hr e.symm)).trans (hb.block _ hp)
  exact ⟨by unfold World.cell?; rw [h], by unfold World.frozen?; rw [h]⟩
section
variable {w : World} {bx : Obj} {B B4 lb ub db ab n m : Nat} {gv : Value} {LL : List Int} {L : Nat → Look} {A : Nat → List Nat} {vs : Nat → Value} {wr : World}
theorem InLk.more (h : InLk w bx B B4 lb ub db ab n m gv LL L A vs wr) {t k g5 c5 : Nat} {W1 w7 : World} (ht : t < n) (hb : Below wr.heap.size wr W1)
    (h5 : w7.ownsRow B 3 1 (.slice (some ⟨g5, 0, none⟩) ((A t).length + 1) c5) ((A t).length + 1) ((A t).map iN ++ [iN k])) (h6 : W1.grownBy w7 (vs t).ownBlock) (h7 : (vs t).ownBlock = some g5 ∨ g5 = W1.heap.size) :
    InLk w bx B B4 lb ub db ab n m gv LL L (fun b => if b = t then A t ++ [k] else A b) (fun b => if b = t then .slice (some ⟨g5, 0, none⟩) ((A t).length + 1) c5 else vs b) (w7.setCell ⟨ab, t, none⟩ (.slice (some ⟨g5, 0, none⟩) ((A t).length + 1) c5)) := by
  obtain ⟨o1, o2, o3, o4, o5, o6, o7⟩ := h.old
  obtain ⟨n1, n2, n3, n4⟩ := h.ne
  have hsz : wr.heap.size ≤ (w7.setCell ⟨ab, t, none⟩ (.slice (some ⟨g5, 0, none⟩) ((A t).length + 1) c5)).heap.size := by rw [World.size_setCell]; exact Nat.le_trans hb.size h6.size
  have hst := stay_more (ab := ab) (a := t) (v' := .slice (some ⟨g5, 0, none⟩) ((A t).length + 1) c5) hb h6
  have hown : ∀ q, (vs t).ownBlock = some q → B ≤ q ∧ q < wr.heap.size := fun q hq => (h.ah.rows t ht).lt q hq
  have hlow : ∀ i, i < B → i ≠ ab → (w7.setCell ⟨ab, t, none⟩ (.slice (some ⟨g5, 0, none⟩) ((A t).length + 1) c5)).heap[i]? = wr.heap[i]? := fun i hi hn => hst i (by omega) hn (fun e => by have := (hown i e).1; omega)
  refine ⟨h.lk.same3 fun k hk => hlow k (by omega) (by omega), (h.ah.keep hb).more o4 ht h6 h5 ?_, (hlow _ o5 (by omega)).trans h.box, ?_, ?_, fun b q hbn hq => ?_, by omega, h.ne⟩
  · rcases h7 with h7 | h7
    · exact .inl h7
    · refine .inr fun q hq => ?_
      injection hq with hq
      simp only at hq
      omega
  · exact ⟨h6.os.trans (hb.os.trans h.below.os), h6.tape.trans (hb.tape.trans h.below.tape), h6.output.trans (hb.output.trans h.below.output), Nat.le_trans h.below.size hsz, fun i hi => (hlow i (by omega) (by omega)).trans (h.below.block i hi)⟩
  · refine own_set ((own_below h.row hb).kept h6 ?_) (by omega) _ _
    cases hq : gv.ownBlock with
    | none => exact .inl rfl
    | some q => exact .inr (fun e => h.apart t q ht e.symm hq)
  · by_cases e : b = t
    · subst e
      simp only [if_true] at hq
      rcases h7 with h7 | h7
      · exact h.apart b q hbn (h7.trans hq)
      · intro e2
        have := (h.row.lt q e2).2
        injection hq with hq
        have := hb.size
        simp only at hq
        omega
    · simp only [if_neg e] at hq
      exact h.apart b q hbn hq
end
/-- Which blocks lead to which, in the middle of a block. -/
structure AhInv (k j : Nat) (LL : List Int) (A0 A : Nat → List Nat) : Prop where
  nd : ∀ b, (A b).Nodup
  mem : ∀ b c, c ∈ A b ↔ c ∈ A0 b ∨ (c = k ∧ ∃ q, q < j ∧ LL[q]? = some (b : Int))
theorem AhInv.zero {k : Nat} {LL : List Int} {A0 : Nat → List Nat} (h : ∀ b, (A0 b).Nodup) : AhInv k 0 LL A0 A0 :=
  ⟨h, fun b c => ⟨.inl, fun h => by
    rcases h with h | ⟨_, q, hq, _⟩
    · exact h
    · omega⟩⟩
theorem AhInv.more {k j t : Nat} {LL : List Int} {A0 A : Nat → List Nat} (h : AhInv k j LL A0 A) (hs : LL.Pairwise (· < ·)) (ht : LL[j]? = some (t : Int)) (hk : k ∉ A0 t) : AhInv k (j + 1) LL A0 (fun b => if b = t then A t ++ [k] else A b) := by
  have hn : k ∉ A t := fun hm => by
    rcases (h.mem t k).1 hm with h1 | ⟨_, q, hq, h2⟩
    · exact hk h1
    · have := strict_get hs hq h2 ht
      omega
  refine ⟨fun b => ?_, fun b c => ?_⟩
  · by_cases e : b = t
    · subst e
      simp only [if_true]
      refine List.nodup_append.2 ⟨h.nd b, by simp, fun x hx y hy e => ?_⟩
      rw [List.mem_singleton] at hy
      subst hy e
      exact hn hx
    · simp only [if_neg e]; exact h.nd b
  · by_cases e : b = t
    · subst e
      simp only [if_true, List.mem_append, List.mem_singleton]
      rw [h.mem]
      constructor
      · rintro ((h1 | ⟨h1, q, hq, h2⟩) | h1)
        · exact .inl h1
        · exact .inr ⟨h1, q, by omega, h2⟩
        · exact .inr ⟨h1, j, by omega, ht⟩
      · rintro (h1 | ⟨h1, _⟩)
        · exact .inl (.inl h1)
        · exact .inr h1
    · simp only [if_neg e]
      rw [h.mem]
      constructor
      · rintro (h1 | ⟨h1, q, hq, h2⟩)
        · exact .inl h1
        · exact .inr ⟨h1, q, by omega, h2⟩
      · rintro (h1 | ⟨h1, q, hq, h2⟩)
        · exact .inl h1
        · refine .inr ⟨h1, q, ?_, h2⟩
          rcases Nat.lt_or_ge q j with h3 | h3
          · exact h3
          · have : q = j := by omega
            subst this
            rw [ht] at h2
            injection h2 with h2
            omega
/-- What the blocks before the k-th say of which lead to which. -/
def AhUpto (x : PGr) (k : Nat) (A : Nat → List Nat) : Prop := (∀ b, (A b).Nodup) ∧ ∀ b c, c ∈ A b ↔ c < k ∧ ∃ t, x.blocks[c]? = some t ∧ (b : Int) ∈ namedN t.fin
theorem AhInv.done {x : PGr} {k : Nat} {LL : List Int} {A0 A : Nat → List Nat} {t : PBlk} (h : AhInv k LL.length LL A0 A) (h0 : AhUpto x k A0) (ht : x.blocks[k]? = some t) (hl : ∀ s, s ∈ LL ↔ s ∈ namedN t.fin) : AhUpto x (k + 1) A := by
  refine ⟨h.nd, fun b c => ?_⟩
  rw [h.mem, h0.2]
  constructor
  · rintro (⟨h1, h2⟩ | ⟨rfl, q, _, h2⟩)
    · exact ⟨by omega, h2⟩
    · exact ⟨by omega, t, ht, (hl _).1 (List.mem_of_getElem? h2)⟩
  · rintro ⟨h1, t', h2, h3⟩
    rcases Nat.lt_or_ge c k with h4 | h4
    · exact .inl ⟨h4, t', h2, h3⟩
    · have : c = k := by omega
      subst this
      rw [ht] at h2
      injection h2 with h2
      subst h2
      obtain ⟨q, hq, h5⟩ := List.mem_iff_getElem.1 ((hl _).2 h3)
      exact .inr ⟨rfl, q, hq, by rw [List.getElem?_eq_getElem hq, h5]⟩
theorem AhUpto.len {k : Nat} {A : Nat → List Nat} (hk : ∀ b c, c ∈ A b → c ≤ k) (h : ∀ b, (A b).Nodup) (b : Nat) : (A b).length ≤ k + 1 := by
  have := nodup_len (s := List.range (k + 1)) (h b) fun c hc => List.mem_range.2 (by have := hk b c hc; omega)
  rwa [List.length_range] at this
theorem next_strict (x : PGr) (b : Int) : (nextL x b).Pairwise (· < ·) := by
  unfold nextL
  split
  · split
    · exact (sorted_strict _).mono
    · exact List.Pairwise.nil
  · exact List.Pairwise.nil
end Go.Proofs.YtcijaaiopfbffaaDoor.Live
namespace Go.Proofs.YtcijaaiopfbffaaDoor.Live
open Go.RowKit Go.Proofs.YtcijaaiopfbffaaDoor.Graph

structure LookPostG (x : PGr) (n lb ub db ab : Nat) (L : Nat → Look) (A : Nat → List Nat) (w w' : World) : Prop where
  lk : LookSt lb ub db n (.slice (some ⟨ab, 0, none⟩) n n) L w'
  ah : AhR w' (.slice (some ⟨ab, 0, none⟩) n n) n A
  below : Below w.heap.size w w'
  upto : AhUpto x n A
  looks : (∀ b t, x.blocks[b]? = some t → L b = lookB t) ∧ (∀ b, n ≤ b → L b = look0) ∧ ∀ b, (L b).Lt
def LookAtPost (x : PGr) (n : Nat) (w : World) (e : Ending) (w' : World) : Prop := ∃ lb ub db ab L A, e = .returned (.pointer (some ⟨lb, 0, none⟩)) ∧ LookPostG x n lb ub db ab L A w w'
set_option maxHeartbeats 8000000 in
set_option maxRecDepth 100000 in
theorem lookAt_any (x : PGr) (vp va vb : Value) (w : World) (h : GrL w vp va vb x) (hs : SmN x) (hf : fitsB x = true) (hn : x.blocks.length ≤ 20000) :
    Calls Tryd.prog 31 #[grV x vp va vb] w (LookAtPost x x.blocks.length w) := by
  have HG := Lib.hid h
  have HS := Lib.hid hs
  have HF := Lib.hid hf
  obtain ⟨pp, pc, rfl⟩ := h.params.form
  obtain ⟨ap, ac, rfl⟩ := h.arrays.form
  have HB := Lib.hid h.blocks
  obtain ⟨bp, bc, rfl⟩ := h.blocks.form
  unfold grV
  obtain ⟨n, hnn⟩ : ∃ n, n = x.blocks.length := ⟨_, rfl⟩
  have HN := Lib.hid hnn
  rw [← hnn] at hn ⊢
  have ni : (n : Int) ≤ 20000 := by omega
  have hm1 := fun w => make_sets n hn w
  have hm2 := fun w => make_lists n hn w
  clear h hs hf hnn
  go_enter Tryd.func31, Tryd.ntmps31
  go_upto_region 2 with (fail)
  have HBX : Hid ((w.alloc (.cells #[.slice pp x.params.length pc, .int .i64 x.temps, .slice ap x.arrays.length ac, .slice bp n bc] 26)).heap[w.heap.size]? = some (.cells #[.slice pp x.params.length pc, .int .i64 x.temps, .slice ap x.arrays.length ac, .slice bp n bc] 26 (0, 0))) := Lib.hid (heap_new w _)
  have HB1 := Lib.hid (Graph.below_alloc w (.cells #[.slice pp x.params.length pc, .int .i64 x.temps, .slice ap x.arrays.length ac, .slice bp n bc] 26))
  generalize w.alloc (.cells #[.slice pp x.params.length pc, .int .i64 x.temps, .slice ap x.arrays.length ac, .slice bp n bc] 26) = w1 at HBX HB1 ⊢
  go_cut [4] from 11 to 18 (fun p wq => ∃ lb ub db ab, p = .pointer (some ⟨lb, 0, none⟩) ∧ Hid (LMade w1 wq lb ub db ab n))
  case first =>
    go_region
    all_goals
      go_wp2
      go_meet
      exact ⟨_, _, _, _, rfl, Lib.hid (made_look w1 1 _ _ _ _ n _ _ _ (by first | rfl | (simp only [World.size_alloc]; omega)) (by first | exact .inl ⟨rfl, rfl⟩ | exact .inr (.inl ⟨rfl, rfl⟩) | exact .inr (.inr ⟨rfl, rfl⟩)) (by first | exact .inl ⟨rfl, rfl⟩ | exact .inr (.inl ⟨rfl, rfl⟩) | exact .inr (.inr ⟨rfl, rfl⟩)) (by first | exact .inl ⟨rfl, rfl⟩ | exact .inr (.inl ⟨rfl, rfl⟩) | exact .inr (.inr ⟨rfl, rfl⟩)) (by refine ⟨?_, ?_, ?_⟩ <;> omega) _ rfl)⟩
  case rest =>
    obtain ⟨lb, ub, db, ab, rfl, HMD⟩ := hcut
    clear hm1 hm2
    obtain ⟨B, hB⟩ : ∃ B, B = wc.heap.size := ⟨_, rfl⟩
    have HBB : Hid (lb < B ∧ ub < B ∧ db < B ∧ ab < B ∧ w.heap.size < B) := Lib.hid (by
      have h1 := (Array.getElem?_eq_some_iff.1 HMD.out.lk.look).1
      have h2 := HMD.out.lk.us.lt
      have h3 := HMD.out.lk.ds.lt
      have h4 := (Array.getElem?_eq_some_iff.1 HMD.out.ah).1
      have h5 := (Array.getElem?_eq_some_iff.1 HBX.out).1
      have h6 := HMD.out.below.size
      omega)
    have h5 := (Array.getElem?_eq_some_iff.1 HBX.out).1
    have HNE : Hid (w.heap.size < lb ∧ w.heap.size < ub ∧ w.heap.size < db ∧ w.heap.size < ab ∧ ab ≠ lb ∧ ab ≠ ub ∧ ab ≠ db) := Lib.hid (by have := HMD.out.new; have := HMD.out.ne; omega)
    have HLK := Lib.hid HMD.out.lk
    have HAH : Hid (AhSt B ab n (fun _ => []) (fun _ => .slice none 0 0) wc) := Lib.hid (AhSt.made HMD.out.ah)
    have HBW : Hid (Below w.heap.size w wc) := Lib.hid (HB1.out.trans (HMD.out.below.mono HB1.out.size))
    have hbx := (HMD.out.below.block _ h5).trans HBX.out
    have HBC := Lib.hid hbx
    have HBZ := Lib.hid hB
    obtain ⟨a3, _⟩ := cell_of_block hbx (k := 3) rfl
    obtain ⟨bx, hbxe⟩ : ∃ bx, bx = Obj.cells #[.slice pp x.params.length pc, .int .i64 x.temps, .slice ap x.arrays.length ac, .slice bp n bc] 26 := ⟨_, rfl⟩
    rw [← hbxe] at HBC
    clear hbx hB HMD HBX HB1 h5
    go_wp2
    clear a3
    go_loopw [22] (fun i wr => ∃ (k : Nat) (L : Nat → Look) (A : Nat → List Nat) (vs : Nat → Value), k ≤ n ∧ i = .int .i64 k ∧ Hid (LookSt lb ub db n (.slice (some ⟨ab, 0, none⟩) n n) L wr) ∧ Hid (AhSt B ab n A vs wr) ∧ Hid (wr.heap[w.heap.size]? = some bx) ∧ Hid (Below w.heap.size w wr) ∧ Hid (B ≤ wr.heap.size) ∧ Hid ((∀ b t, b < k → x.blocks[b]? = some t → L b = lookB t) ∧ (∀ b, k ≤ b → L b = look0) ∧ ∀ b, (L b).Lt) ∧ Hid (AhUpto x k A)) (fun i _ => n - (intOf i).toNat)
    case atStart => exact ⟨0, _, _, _, Nat.zero_le _, rfl, HLK, HAH, HBC, HBW, Lib.hid (by rw [HBZ.out]; exact Nat.le_refl _), Lib.hid ⟨fun b t hb => absurd hb (Nat.not_lt_zero _), fun _ _ => rfl, fun _ => look0_lt⟩, Lib.hid ⟨fun _ => List.nodup_nil, fun b c => by simp⟩⟩
    case round =>
      obtain ⟨k, L, A, vs, hk, rfl, HL, HA, HX, HW, HZ, HLL, HAA⟩ := hrel
      by_cases hlt : k < n
      · obtain ⟨t, ht⟩ : ∃ t, x.blocks[k]? = some t := ⟨_, List.getElem?_eq_getElem (by have := HN.out; omega)⟩
        obtain ⟨gb, ob, cap, hv, hcap, hgl, hP⟩ := SlR.form2 HB.out (by have := HN.out; omega)
        injection hv with e1 e2 e3
        clear e2
        subst e1 e3
        obtain ⟨vk, vc, vt, hR⟩ := hP k (by have := HN.out; omega) t ht
        obtain ⟨m1, m2⟩ := hcap
        have i2 : (n : Int) ≤ bc := by have := HN.out; omega
        have i3 : (bc : Int) ≤ 9223372036854775807 := by omega
        have k0 : (0 : Int) ≤ k := by omega
        have k1 : (k : Int) < n := by omega
        have hft : x.temps ≤ 8000 := by
          have := HF.out
          unfold fitsB at this
          rw [Bool.and_eq_true] at this
          have := of_decide_eq_true this.1
          omega
        have HBLK := Lib.hid (block_any t x.temps hft (fits_blk HF.out ht).1 gb (ob + k * 10) vk vc vt hR hgl HW.out HL.out (by have := HNE.out; omega) (by have := HNE.out; omega) HLL.out.2.2 hlt hn)
        rw [HLL.out.2.1 k (Nat.le_refl _)] at HBLK
        have hlw := (Array.getElem?_eq_some_iff.1 HX.out).1
        have hX := HX.out
        rw [hbxe] at hX
        obtain ⟨a3, _⟩ := cell_of_block hX (k := 3) rfl
        have HT := Lib.hid ht
        have HNXT := Lib.hid (fun (W : World) (hW : Below w.heap.size w W) => next_any x _ _ _ (k : Int) W (HG.out.below hW) HS.out)
        unfold grV at HNXT
        rw [← HN.out] at HNXT
        clear hX hP hR m1 m2 ht
        go_wp2_with (first
          | (go_at_call 54
             refine HBLK.out.mono ?_
             rintro e w3 ⟨rfl, h1, h2⟩
             have H1 := Lib.hid h1
             have H2 := Lib.hid h2
             have HX3 : Hid (w3.heap[w.heap.size]? = some bx) := Lib.hid ((h2.block _ hlw (by have := HNE.out; omega) (by have := HNE.out; omega)).trans HX.out)
             have hX3 := HX3.out
             rw [hbxe] at hX3
             obtain ⟨b0, _⟩ := cell_of_block hX3 (k := 0) rfl
             obtain ⟨b1, _⟩ := cell_of_block hX3 (k := 1) rfl
             obtain ⟨b2, _⟩ := cell_of_block hX3 (k := 2) rfl
             obtain ⟨b3, _⟩ := cell_of_block hX3 (k := 3) rfl
             have HW3 : Hid (Below w.heap.size w w3) := Lib.hid (h2.below HW.out (by have := HNE.out; omega) (by have := HNE.out; omega) HW.out.size)
             clear h1 h2 hX3)
          | (go_at_call 53
             refine (HNXT.out w3 HW3.out).mono ?_
             rintro e w4 ⟨v4, rfl, h4, hb4⟩
             obtain ⟨p4, c4, rfl, hm4⟩ := own_form h4
             have H4 := Lib.hid h4
             have HB4 := Lib.hid hb4
             clear h4 hb4))
        obtain ⟨m, hm⟩ : ∃ m, m = (nextL x (k : Int)).length := ⟨_, rfl⟩
        have HNB : Hid (∀ s, s ∈ nextL x (k : Int) ↔ s ∈ namedN t.fin) := Lib.hid (next_mem HT.out)
        have HNS := Lib.hid (next_strict x (k : Int))
        have HBT : Hid (∀ s ∈ nextL x (k : Int), 0 ≤ s ∧ s < n) := Lib.hid (fun s hs => by
          have h1 := List.all_eq_true.1 (fits_blk HF.out HT.out).2 s ((HNB.out s).1 hs)
          have := HN.out
          unfold belowB at h1
          simp only [Bool.and_eq_true, decide_eq_true_eq] at h1
          omega)
        rw [← hm] at hm4 H4 ⊢
        have HM := Lib.hid hm
        generalize nextL x (k : Int) = LL at *
        have HIN : Hid (InLk w bx B w3.heap.size lb ub db ab n m (.slice p4 m c4) LL (fun b => if b = k then lookB t else L b) A vs w4) := Lib.hid (by
          have hz3 : wr.heap.size ≤ w3.heap.size := H2.out.size
          have hz4 := HB4.out.size
          have ha := HA.out.turn H2.out (by have := HBB.out; have := HNE.out; omega) (by have := HBB.out; have := HNE.out; omega)
          refine ⟨H1.out.keep HB4.out, ha.keep HB4.out, (HB4.out.block _ (Array.getElem?_eq_some_iff.1 HX3.out).1).trans HX3.out, below_then HW3.out HB4.out, H4.out, fun b q hb hq e => ?_, by have := HBB.out; have := HZ.out; omega, by have := HNE.out; omega⟩
          have h9 := ((ha.rows b hb).lt q hq).2
          have h8 := (H4.out.lt q e).1
          omega)
        have HAI := Lib.hid (AhInv.zero (k := k) (LL := LL) HAA.out.1)
        have HSZ : Hid (B ≤ w3.heap.size) := Lib.hid (by have := H2.out.size; have := HZ.out; omega)
        clear HL HA HX HW HZ HBLK HNXT H1 H2 HX3 HW3 HB4 H4 b0 b1 b2 b3 a3 hm hlw hgl
        go_loopw [36] (fun i wq => ∃ (j : Nat) (A' : Nat → List Nat) (vs' : Nat → Value), j ≤ m ∧ i = .int .i64 j ∧ Hid (InLk w bx B w3.heap.size lb ub db ab n m (.slice p4 m c4) LL (fun b => if b = k then lookB t else L b) A' vs' wq) ∧ Hid (AhInv k j LL A A')) (fun i _ => m - (intOf i).toNat)
        case atStart => exact ⟨0, A, vs, Nat.zero_le _, rfl, HIN, HAI⟩
        case round =>
          obtain ⟨j, A', vs', hj, rfl, HI1, HA1⟩ := hrel
          by_cases hjm : j < m
          · obtain ⟨s, hs⟩ : ∃ s, LL[j]? = some s := ⟨_, List.getElem?_eq_getElem (by have := HM.out; omega)⟩
            obtain ⟨g4, cc4, hv4, ce, _, _, _, hc1, hc2⟩ := own_cell HI1.out.row (k := j) (x := iv s) (by rw [List.getElem?_map, hs]; rfl) hjm
            have hv5 := hv4
            injection hv5 with e1 _ e3
            subst e1 e3
            obtain ⟨q0, q1⟩ := HBT.out s (List.mem_of_getElem? hs)
            obtain ⟨a, rfl⟩ := Int.eq_ofNat_of_zero_le q0
            have ha : a < n := by omega
            have j5 : (j : Int) < m := by omega
            have j6 : (0 : Int) ≤ j := by omega
            have j7 : (m : Int) ≤ c4 := by omega
            have j8 : (c4 : Int) ≤ 9223372036854775807 := by omega
            have HS4 := Lib.hid hs
            have HAL : Hid ((A' a).length ≤ 20000) := Lib.hid (by
              have := AhUpto.len (k := k) (A := A') (fun b c hc => by
                rcases (HA1.out.mem b c).1 hc with h1 | ⟨h1, _⟩
                · have := ((HAA.out.2 b c).1 h1).1; omega
                · omega) HA1.out.nd a
              omega)
            have HA2 : Hid (AhInv k (j + 1) LL A (fun b => if b = a then A' a ++ [k] else A' b)) := Lib.hid (HA1.out.more HNS.out hs (fun hm => by have := ((HAA.out.2 a k).1 hm).1; omega))
            have hrow := HI1.out.ah.rows a ha
            obtain ⟨cA, fA⟩ := HI1.out.ah.cell ha
            obtain ⟨pv, cv, hvs, hlv⟩ := own_form hrow
            rw [hvs] at cA hrow
            have ce2 : wr.cell? ⟨g4, j, none⟩ = some (.int .i64 (a : Nat)) := ce
            have l2 : wr.cell? ⟨lb, 2, none⟩ = some (.slice (some ⟨ab, 0, none⟩) n n) := by simp [World.cell?, HI1.out.lk.look]
            have hlb : lb < wr.heap.size := (Array.getElem?_eq_some_iff.1 HI1.out.lk.look).1
            have hab : ab < wr.heap.size := HI1.out.ah.lt
            have HROW := Lib.hid hrow
            have HVS := Lib.hid hvs
            have HBZ2 : Hid (B ≤ wr.heap.size ∧ lb < B ∧ ab < B ∧ ab ≠ lb) := Lib.hid (by have := HI1.out.old; have := HI1.out.ne; omega)
            clear hs hc1 hc2 ce hv4 hrow hvs q0
            go_upto_region 10 with (fail)
            obtain ⟨i0, hi, hz0, hz1, hz2⟩ := info_parts info_int
            have HI := Lib.hid hi
            have HBD : Hid (Below wr.heap.size wr ((World.drew wr).alloc (.cells #[.int .i64 (k : Int)] 3))) := Lib.hid (((Below.refl _ wr).drew).alloc (Nat.le_refl _) _)
            have HV3 := Lib.hid (own_below HROW.out HBD.out)
            have HNW := Lib.hid (news_one (w := World.drew wr) (x := (k : Int)) (H := (World.drew wr).heap.size) (t := 3) rfl)
            have HBS : Hid (B ≤ ((World.drew wr).alloc (.cells #[.int .i64 (k : Int)] 3)).heap.size) := Lib.hid (by have := HBD.out.size; have := HBZ2.out; omega)
            have HCE : Hid (∀ w7 : World, ((World.drew wr).alloc (.cells #[.int .i64 (k : Int)] 3)).grownBy w7 (Value.slice pv (A' a).length cv).ownBlock → w7.cell? ⟨lb, 2, none⟩ = some (.slice (some ⟨ab, 0, none⟩) n n) ∧ w7.cell? ⟨ab, a, none⟩ = some (.slice pv (A' a).length cv) ∧ w7.frozen? ⟨ab, a, none⟩ = false) := Lib.hid (fun w7 h6 => by
              have hq : ∀ q, (Value.slice pv (A' a).length cv).ownBlock = some q → B ≤ q := fun q hq => (HROW.out.lt q hq).1
              have e1 := cell_more HBD.out h6 (p := ⟨lb, 2, none⟩) hlb (fun e => absurd (hq _ e) (by show ¬ B ≤ lb; have := HBZ2.out; omega))
              have e2 := cell_more HBD.out h6 (p := ⟨ab, a, none⟩) hab (fun e => absurd (hq _ e) (by show ¬ B ≤ ab; have := HBZ2.out; omega))
              exact ⟨e1.1.trans l2, e2.1.trans cA, e2.2.trans fA⟩)
            clear hi
            refine wp_onlyN ?_
            go_region_law (
              (go_loud (refine step_append_lies _ (by rfl) _ _ 22 (by rfl) B 3 i0 _ 1 8 Tryd.underlying22 HI.out hz0 hz1 hz2 rfl (by omega) _ (A' a).length _ (by rfl) HV3.out ⟨(World.drew wr).heap.size, 0, none⟩ 1 1 [.int .i64 (k : Int)] (by rfl) rfl HNW.out (by simp [Value.oneCell']) (by omega) (by unfold maxLen; have := HAL.out; omega) (by have := HAL.out; omega) HBS.out _ rfl ?_)
               intro g5 c5 w7 h5 h6 h7 h8
               have H5 := Lib.hid h5
               have H6 := Lib.hid h6
               have H7 := Lib.hid h7
               obtain ⟨l2, cA, fA⟩ := HCE.out w7 h6
               clear h5 h6 h7 h8))
            all_goals
              dsimp only [onlyN]
              go_wp2
              exact ⟨⟨j + 1, _, _, by omega, by go_num, Lib.hid (HI1.out.more ha HBD.out H5.out (by rw [HVS.out]; exact H6.out) (by rw [HVS.out]; exact H7.out)), HA2⟩, by simp [intOf]; omega⟩
          · have hjm2 : j = m := by omega
            subst hjm2
            have j5 : ¬ ((j : Int) < j) := by omega
            have HUP : Hid (AhUpto x (k + 1) A') := Lib.hid (by
              have h := HA1.out
              rw [HM.out] at h
              exact h.done HAA.out HT.out HNB.out)
            have HLL2 : Hid ((∀ b t', b < k + 1 → x.blocks[b]? = some t' → (fun b => if b = k then lookB t else L b) b = lookB t') ∧ (∀ b, k + 1 ≤ b → (fun b => if b = k then lookB t else L b) b = look0) ∧ ∀ b, ((fun b => if b = k then lookB t else L b) b).Lt) := Lib.hid ⟨fun b t' hb hbt => by
                by_cases e : b = k
                · subst e
                  rw [HT.out] at hbt
                  injection hbt with hbt
                  simp only [if_true]; rw [hbt]
                · simp only [if_neg e]; exact HLL.out.1 b t' (by omega) hbt, fun b hb => by
                have e : b ≠ k := by omega
                simp only [if_neg e]; exact HLL.out.2.1 b (by omega), fun b => by
                by_cases e : b = k
                · simp only [if_pos e]; exact lookB_lt t
                · simp only [if_neg e]; exact HLL.out.2.2 b⟩
            clear HLL HAA HNS HBT HNB
            go_wp2
            exact ⟨⟨k + 1, _, A', vs', by omega, by go_num, Lib.hid HI1.out.lk, Lib.hid HI1.out.ah, Lib.hid HI1.out.box, Lib.hid HI1.out.below, Lib.hid (by have := HI1.out.old; omega), HLL2, HUP⟩, by simp [intOf]; omega⟩
      · obtain rfl : k = n := by omega
        have hki : ¬ ((k : Int) < k) := by omega
        go_wp2
        go_ret
        refine ⟨lb, ub, db, ab, L, A, rfl, ?_⟩
        exact ⟨HL.out, HA.out.ahead, HW.out, HAA.out, fun b t ht => HLL.out.1 b t (by have := (List.getElem?_eq_some_iff.1 ht).1; have := HN.out; omega) ht, HLL.out.2.1, HLL.out.2.2⟩
end Go.Proofs.YtcijaaiopfbffaaDoor.Live
