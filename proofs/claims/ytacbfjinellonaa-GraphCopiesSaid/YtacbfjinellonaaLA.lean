/- Rows under construction, what they hold lying apart from them: for the document's Copy. -/
import Derived.Test.YtacbfjinellonaaKS
namespace Go.Proofs.Ytacbfjinellonaa.Graph
open Go.RowKit

/-- The first k elements of a list, in a row of its own from block B on; what their lists hold lies in the blocks of G, none of which is the row's. -/
structure RowIn {X L : Type} (t : TypeId) (sz : Nat) (E : Array Value → Nat → X → L → Prop) (C : World → L → X → Prop) (G : Nat → Prop) (D B : Nat) (l : List X) (k : Nat) (v : Value) (w : World) : Prop where
  row : ∃ xs, w.ownsRow B t sz v k xs ∧ ∀ i x, i < k → l[i]? = some x → ∃ u, E xs.toArray (i * sz) x u ∧ C (cutW G w) u x
  low : ∀ b, G b → D ≤ b
  lt : ∀ b, G b → b < w.heap.size
  unf : ∀ b, G b → Unf w b
  off : ∀ b, G b → v.ownBlock ≠ some b
theorem ownsRow_same {w w' : World} {B : Nat} {t : TypeId} {sz : Nat} {v : Value} {n : Nat} {xs : List Value} (h : w.ownsRow B t sz v n xs) (he : ∀ b, v.ownBlock = some b → w'.heap[b]? = w.heap[b]?) : w'.ownsRow B t sz v n xs := by
  obtain ⟨h1, h2 | ⟨g, cap, cur, rfl, h3, h4, h5⟩⟩ := h
  · exact ⟨h1, .inl h2⟩
  · exact ⟨h1, .inr ⟨g, cap, cur, rfl, h3, (he g rfl).trans h4, h5⟩⟩
theorem cut_same {G : Nat → Prop} {w w' : World} (hs : w.heap.size ≤ w'.heap.size) (he : ∀ b, G b → w'.heap[b]? = w.heap[b]?) : Holds2 (cutW G w) (cutW G w') := cut_to hs fun b _ hb => ⟨hb, he b hb⟩
theorem cut_more {G G' : Nat → Prop} (w : World) (h : ∀ b, G b → G' b) : Holds2 (cutW G w) (cutW G' w) := cut_to (Nat.le_refl _) fun b _ hb => ⟨h b hb, rfl⟩
section
variable {X L : Type} {t : TypeId} {sz : Nat} {E : Array Value → Nat → X → L → Prop} {C : World → L → X → Prop} {G : Nat → Prop} {D B : Nat} {l : List X} {k : Nat} {v : Value} {w : World}
theorem RowIn.step (hC : ∀ w w' u x, Holds2 w w' → C w u x → C w' u x) (h : RowIn t sz E C G D B l k v w) {w' : World} (hs : w.heap.size ≤ w'.heap.size) (he : ∀ b, G b ∨ v.ownBlock = some b → w'.heap[b]? = w.heap[b]?) : RowIn t sz E C G D B l k v w' := by
  obtain ⟨xs, h1, h2⟩ := h.row
  refine ⟨⟨xs, ownsRow_same h1 (fun b hb => he b (.inr hb)), fun i x hi hx => ?_⟩, h.low, fun b hb => Nat.lt_of_lt_of_le (h.lt b hb) hs, fun b hb => unf_keep (h.unf b hb) (he b (.inl hb)), h.off⟩
  obtain ⟨u, h3, h4⟩ := h2 i x hi hx
  exact ⟨u, h3, hC _ _ _ _ (cut_same hs (fun b hb => he b (.inl hb))) h4⟩
theorem RowIn.wide (hC : ∀ w w' u x, Holds2 w w' → C w u x → C w' u x) (h : RowIn t sz E C G D B l k v w) {G' : Nat → Prop} (hG : ∀ b, G' b → G b ∨ (D ≤ b ∧ b < w.heap.size ∧ Unf w b ∧ v.ownBlock ≠ some b)) (hG' : ∀ b, G b → G' b) : RowIn t sz E C G' D B l k v w := by
  obtain ⟨xs, h1, h2⟩ := h.row
  refine ⟨⟨xs, h1, fun i x hi hx => ?_⟩, fun b hb => ?_, fun b hb => ?_, fun b hb => ?_, fun b hb => ?_⟩
  · obtain ⟨u, h3, h4⟩ := h2 i x hi hx
    exact ⟨u, h3, hC _ _ _ _ (cut_more w hG') h4⟩
  · rcases hG b hb with h3 | h3
    · exact h.low b h3
    · exact h3.1
  · rcases hG b hb with h3 | h3
    · exact h.lt b h3
    · exact h3.2.1
  · rcases hG b hb with h3 | h3
    · exact h.unf b h3
    · exact h3.2.2.1
  · rcases hG b hb with h3 | h3
    · exact h.off b h3
    · exact h3.2.2.2
theorem RowIn.nil (G : Nat → Prop) (D B : Nat) (l : List X) (w : World) (h1 : ∀ b, G b → D ≤ b) (h2 : ∀ b, G b → b < w.heap.size) (h3 : ∀ b, G b → Unf w b) : RowIn t sz E C G D B l 0 (.slice none 0 0) w :=
  ⟨⟨[], World.ownsRow_nil _ _ _ _, fun i _ hi => by omega⟩, h1, h2, h3, fun _ _ h => by cases h⟩
theorem RowIn.push (hC : ∀ w w' u x, Holds2 w w' → C w u x → C w' u x) (hE : ∀ xs ys o x u, E (List.toArray xs) o x u → E (List.toArray (xs ++ ys)) o x u) (hE' : ∀ xs ys x u, E (List.toArray ys) 0 x u → E (List.toArray (xs ++ ys)) xs.length x u)
    (h : RowIn t sz E C G D B l k v w) {xs news : List Value} (h1 : w.ownsRow B t sz v k xs) (h2 : ∀ i x, i < k → l[i]? = some x → ∃ u, E xs.toArray (i * sz) x u ∧ C (cutW G w) u x)
    {x : X} {u : L} (hx : l[k]? = some x) (hu : E news.toArray 0 x u) (hc : C (cutW G w) u x) {w' : World} {g cap : Nat} (h3 : w'.ownsRow B t sz (.slice (some ⟨g, 0, none⟩) (k + 1) cap) (k + 1) (xs ++ news)) (h4 : w.grownBy w' v.ownBlock) (h5 : v.ownBlock = some g ∨ g = w.heap.size) :
    RowIn t sz E C G D B l (k + 1) (.slice (some ⟨g, 0, none⟩) (k + 1) cap) w' := by
  have he : ∀ b, G b → w'.heap[b]? = w.heap[b]? := fun b hb => h4.block b (h.lt b hb) (fun e => h.off b hb e.symm)
  have hh := cut_same h4.size he
  refine ⟨⟨_, h3, fun i y hi hy => ?_⟩, h.low, fun b hb => Nat.lt_of_lt_of_le (h.lt b hb) h4.size, fun b hb => unf_keep (h.unf b hb) (he b hb), fun b hb e => ?_⟩
  · by_cases hik : i = k
    · subst hik
      rw [hx] at hy
      injection hy with hy
      subst hy
      refine ⟨u, ?_, hC _ _ _ _ hh hc⟩
      have := hE' xs news x u hu
      rwa [h1.1] at this
    · obtain ⟨u', h6, h7⟩ := h2 i y (by omega) hy
      exact ⟨u', hE _ _ _ _ _ h6, hC _ _ _ _ hh h7⟩
  · injection e with e
    have e2 : g = b := e
    subst e2
    rcases h5 with h5 | h5
    · exact h.off _ hb h5
    · have := h.lt _ hb; omega
/-- Its blocks: those of what it holds, and its own. -/
theorem RowIn.blocks (h : RowIn t sz E C G D B l k v w) (b : Nat) (hb : G b ∨ v.ownBlock = some b) : (D ≤ b ∨ B ≤ b) ∧ b < w.heap.size ∧ Unf w b := by
  rcases hb with hb | hb
  · exact ⟨.inl (h.low b hb), h.lt b hb, h.unf b hb⟩
  · obtain ⟨xs, h1, _⟩ := h.row
    obtain ⟨_, ⟨rfl, _⟩ | ⟨g, cap, cur, rfl, h3, h4, _⟩⟩ := h1
    · cases hb
    · injection hb with hb
      subst hb
      exact ⟨.inr h3, lt_of_block h4, _, _, h4⟩
end
theorem at_more {xs ys : List Value} {o : Nat} {v : Value} (h : xs.toArray[o]? = some v) : (xs ++ ys).toArray[o]? = some v := by
  simp only [List.getElem?_toArray] at h ⊢
  have hl : o < xs.length := by
    rcases Nat.lt_or_ge o xs.length with h2 | h2
    · exact h2
    · rw [List.getElem?_eq_none h2] at h; cases h
  rw [List.getElem?_append_left hl]; exact h
theorem at_new {xs ys : List Value} {o : Nat} {v : Value} (h : ys.toArray[o]? = some v) : (xs ++ ys).toArray[xs.length + o]? = some v := by
  simp only [List.getElem?_toArray] at h ⊢
  rw [List.getElem?_append_right (Nat.le_add_right _ _), Nat.add_sub_cancel_left]; exact h
theorem at_new0 {xs ys : List Value} {o : Nat} {v : Value} (h : ys.toArray[0 + o]? = some v) : (xs ++ ys).toArray[xs.length + o]? = some v := at_new (by rwa [Nat.zero_add] at h)
/-- An instruction's eight cells. -/
structure InsV (cur : Array Value) (o : Nat) (x : PIns) (u : Value × Value) : Prop where
  op : cur[o]? = some (.int .i64 x.op)
  d : cur[o + 1]? = some (.int .i64 x.d)
  fa : cur[o + 2]? = some (.int .i64 x.a)
  fb : cur[o + 3]? = some (.int .i64 x.b)
  f : cur[o + 4]? = some (.int .i64 x.f)
  n : cur[o + 5]? = some (.int .u32 x.n)
  ca : cur[o + 6]? = some u.1
  cr : cur[o + 7]? = some u.2
def insC (w : World) (u : Value × Value) (x : PIns) : Prop := InsL w u.1 u.2 x
theorem insC_holds (w w' : World) (u : Value × Value) (x : PIns) (hb : Holds2 w w') (h : insC w u x) : insC w' u x := InsL.holds hb h
theorem insV_more (xs ys : List Value) (o : Nat) (x : PIns) (u : Value × Value) (h : InsV xs.toArray o x u) : InsV (xs ++ ys).toArray o x u :=
  ⟨at_more h.op, at_more h.d, at_more h.fa, at_more h.fb, at_more h.f, at_more h.n, at_more h.ca, at_more h.cr⟩
theorem insV_new (xs ys : List Value) (x : PIns) (u : Value × Value) (h : InsV ys.toArray 0 x u) : InsV (xs ++ ys).toArray xs.length x u :=
  ⟨at_new (o := 0) h.op, at_new0 h.d, at_new0 h.fa, at_new0 h.fb, at_new0 h.f, at_new0 h.n, at_new0 h.ca, at_new0 h.cr⟩
def BlkW (cur : Array Value) (o : Nat) (x : PBlk) (u : Value × Value × Value) : Prop := BlkV cur o x u.1 u.2.1 u.2.2
def blkC (w : World) (u : Value × Value × Value) (x : PBlk) : Prop := CodeR w u.1 x.code ∧ EndL w u.2.1 u.2.2 x.fin
theorem blkC_holds (w w' : World) (u : Value × Value × Value) (x : PBlk) (hb : Holds2 w w') (h : blkC w u x) : blkC w' u x := ⟨CodeR.holds hb h.1, EndL.holds hb h.2⟩
theorem blkW_more (xs ys : List Value) (o : Nat) (x : PBlk) (u : Value × Value × Value) (h : BlkW xs.toArray o x u) : BlkW (xs ++ ys).toArray o x u :=
  ⟨at_more h.ck, at_more h.kind, at_more h.op, at_more h.fa, at_more h.fb, at_more h.n, at_more h.tt, at_more h.els, at_more h.cc, at_more h.ct⟩
theorem blkW_new (xs ys : List Value) (x : PBlk) (u : Value × Value × Value) (h : BlkW ys.toArray 0 x u) : BlkW (xs ++ ys).toArray xs.length x u :=
  ⟨at_new (o := 0) h.ck, at_new0 h.kind, at_new0 h.op, at_new0 h.fa, at_new0 h.fb, at_new0 h.n, at_new0 h.tt, at_new0 h.els, at_new0 h.cc, at_new0 h.ct⟩
def GrW (cur : Array Value) (o : Nat) (x : PGr) (u : Value × Value × Value) : Prop := GrV cur o x u.1 u.2.1 u.2.2
def grC (w : World) (u : Value × Value × Value) (x : PGr) : Prop := GrL w u.1 u.2.1 u.2.2 x
theorem grC_holds (w w' : World) (u : Value × Value × Value) (x : PGr) (hb : Holds2 w w') (h : grC w u x) : grC w' u x := GrL.holds hb h
theorem grW_more (xs ys : List Value) (o : Nat) (x : PGr) (u : Value × Value × Value) (h : GrW xs.toArray o x u) : GrW (xs ++ ys).toArray o x u :=
  ⟨at_more h.cp, at_more h.temps, at_more h.ca, at_more h.cb⟩
theorem grW_new (xs ys : List Value) (x : PGr) (u : Value × Value × Value) (h : GrW ys.toArray 0 x u) : GrW (xs ++ ys).toArray xs.length x u :=
  ⟨at_new (o := 0) h.cp, at_new0 h.temps, at_new0 h.ca, at_new0 h.cb⟩
/-- A row that is whole: each element's cells lie there. -/
theorem row_cells {w : World} {B : Nat} {t : TypeId} {sz : Nat} {v : Value} {n : Nat} {xs : List Value} (h : w.ownsRow B t sz v n xs) (hn : 0 < n) : ∃ g cap, v = .slice (some ⟨g, 0, none⟩) n cap ∧ n ≤ cap ∧ cap ≤ 9223372036854775807 ∧ g < w.heap.size ∧ ∀ (o : Nat) (y : Value), xs.toArray[o]? = some y → w.cell? ⟨g, o, none⟩ = some y := by
  obtain ⟨h1, ⟨_, h0⟩ | ⟨g, cap, cur, rfl, h3, h4, h5, h6, h7, h8⟩⟩ := h
  · omega
  · refine ⟨g, cap, rfl, h5, h6, lt_of_block h4, fun o y hy => ?_⟩
    refine (cell_of_block h4 ?_).1
    simp only [List.getElem?_toArray] at hy
    rw [← h8, List.getElem?_take] at hy
    split at hy
    · rw [← Array.getElem?_toList]; exact hy
    · cases hy
theorem RowIn.code {G : Nat → Prop} {D B : Nat} {l : List PIns} {v : Value} {w : World} (h : RowIn 70 8 InsV insC G D B l l.length v w) : CodeR (cutW (fun b => G b ∨ v.ownBlock = some b) w) v l := by
  obtain ⟨xs, h1, h2⟩ := h.row
  rcases Nat.eq_zero_or_pos l.length with h0 | h0
  · obtain ⟨_, ⟨rfl, _⟩ | ⟨g, cap, cur, rfl, _⟩⟩ := h1
    · exact .inl ⟨h0, _, _, rfl⟩
    · rw [h0]; exact .inl ⟨h0, _, _, rfl⟩
  · obtain ⟨g, cap, rfl, h3, h4, h5, h6⟩ := row_cells h1 h0
    have hin : ∀ (o : Nat) (y : Value), xs.toArray[o]? = some y → (cutW (fun b => G b ∨ (Value.slice (some ⟨g, 0, none⟩) l.length cap).ownBlock = some b) w).cell? ⟨g, o, none⟩ = some y := fun o y hy => cutW_cell.2 ⟨.inr rfl, h6 o y hy⟩
    refine .inr ⟨g, 0, cap, rfl, h0, ⟨h3, h4⟩, by rw [cutW_size]; exact h5, fun i hi x hx => ?_⟩
    obtain ⟨u, h7, h8⟩ := h2 i x hi hx
    rw [Nat.zero_add]
    exact ⟨u.1, u.2, hin _ _ h7.op, hin _ _ h7.d, hin _ _ h7.fa, hin _ _ h7.fb, hin _ _ h7.f, hin _ _ h7.n, hin _ _ h7.ca, hin _ _ h7.cr, InsL.holds (cut_more w fun b hb => .inl hb) h8⟩
theorem RowIn.blks {G : Nat → Prop} {D B : Nat} {l : List PBlk} {v : Value} {w : World} (h : RowIn 50 10 BlkW blkC G D B l l.length v w) : BlksR (cutW (fun b => G b ∨ v.ownBlock = some b) w) v l := by
  obtain ⟨xs, h1, h2⟩ := h.row
  rcases Nat.eq_zero_or_pos l.length with h0 | h0
  · obtain ⟨_, ⟨rfl, _⟩ | ⟨g, cap, cur, rfl, _⟩⟩ := h1
    · exact .inl ⟨h0, _, _, rfl⟩
    · rw [h0]; exact .inl ⟨h0, _, _, rfl⟩
  · obtain ⟨g, cap, rfl, h3, h4, h5, h6⟩ := row_cells h1 h0
    have hin : ∀ (o : Nat) (y : Value), xs.toArray[o]? = some y → (cutW (fun b => G b ∨ (Value.slice (some ⟨g, 0, none⟩) l.length cap).ownBlock = some b) w).cell? ⟨g, o, none⟩ = some y := fun o y hy => cutW_cell.2 ⟨.inr rfl, h6 o y hy⟩
    refine .inr ⟨g, 0, cap, rfl, h0, ⟨h3, h4⟩, by rw [cutW_size]; exact h5, fun i hi x hx => ?_⟩
    obtain ⟨u, h7, h8⟩ := h2 i x hi hx
    have e1 : ∀ k, i * 10 + 1 + k = i * 10 + (k + 1) := fun k => by omega
    rw [Nat.zero_add]
    exact ⟨u.1, u.2.1, u.2.2, hin _ _ h7.ck, CodeR.holds (cut_more w fun b hb => .inl hb) h8.1, hin _ _ h7.kind, by rw [e1]; exact hin _ _ h7.op, by rw [e1]; exact hin _ _ h7.fa, by rw [e1]; exact hin _ _ h7.fb, by rw [e1]; exact hin _ _ h7.n, by rw [e1]; exact hin _ _ h7.tt, by rw [e1]; exact hin _ _ h7.els, by rw [e1]; exact hin _ _ h7.cc, by rw [e1]; exact hin _ _ h7.ct, EndL.holds (cut_more w fun b hb => .inl hb) h8.2⟩
theorem RowIn.grs {G : Nat → Prop} {D B : Nat} {l : List PGr} {v : Value} {w : World} (h : RowIn 37 4 GrW grC G D B l l.length v w) : GrsR (cutW (fun b => G b ∨ v.ownBlock = some b) w) v l := by
  obtain ⟨xs, h1, h2⟩ := h.row
  rcases Nat.eq_zero_or_pos l.length with h0 | h0
  · obtain ⟨_, ⟨rfl, _⟩ | ⟨g, cap, cur, rfl, _⟩⟩ := h1
    · exact .inl ⟨h0, _, _, rfl⟩
    · rw [h0]; exact .inl ⟨h0, _, _, rfl⟩
  · obtain ⟨g, cap, rfl, h3, h4, h5, h6⟩ := row_cells h1 h0
    have hin : ∀ (o : Nat) (y : Value), xs.toArray[o]? = some y → (cutW (fun b => G b ∨ (Value.slice (some ⟨g, 0, none⟩) l.length cap).ownBlock = some b) w).cell? ⟨g, o, none⟩ = some y := fun o y hy => cutW_cell.2 ⟨.inr rfl, h6 o y hy⟩
    refine .inr ⟨g, 0, cap, rfl, h0, ⟨h3, h4⟩, by rw [cutW_size]; exact h5, fun i hi x hx => ?_⟩
    obtain ⟨u, h7, h8⟩ := h2 i x hi hx
    rw [Nat.zero_add]
    exact ⟨u.1, u.2.1, u.2.2, hin _ _ h7.cp, hin _ _ h7.temps, hin _ _ h7.ca, hin _ _ h7.cb, GrL.holds (cut_more w fun b hb => .inl hb) h8⟩
end Go.Proofs.Ytacbfjinellonaa.Graph
namespace Go.Proofs.Ytacbfjinellonaa.Graph
open Go.RowKit

def CopiedG (x : PGr) (w : World) (e : Ending) (w' : World) : Prop := ∃ pq aq bq pc ac bc, e = .returned (grV x (.slice pq x.params.length pc) (.slice aq x.arrays.length ac) (.slice bq x.blocks.length bc)) ∧ GrL (cutW (New w.heap.size w') w') (.slice pq x.params.length pc) (.slice aq x.arrays.length ac) (.slice bq x.blocks.length bc) x ∧ Below w.heap.size w w'
/-- A block under construction at g5: its first i instructions. -/
structure InB (bk : PBlk) (wk : World) (g5 : Nat) (G : Nat → Prop) (kq cq tq : Option Addr) (kc cc tc : Nat) (i : Nat) (wr : World) : Prop where
  old : Below g5 wk wr
  row : RowIn 70 8 InsV insC G (g5 + 1) (g5 + 1) bk.code i (.slice kq i kc) wr
  fin : EndL (cutW G wr) (.slice cq bk.fin.cases.length cc) (.slice tq bk.fin.targets.length tc) bk.fin
  cell : wr.heap[g5]? = some (.cells #[.slice kq i kc, .int .i64 bk.fin.kind, .int .i64 bk.fin.op, .int .i64 bk.fin.a, .int .i64 bk.fin.b, .int .u32 bk.fin.n, .int .i64 bk.fin.to, .int .i64 bk.fin.els, .slice cq bk.fin.cases.length cc, .slice tq bk.fin.targets.length tc] 50 (0, 0))
theorem InB.step {bk : PBlk} {wk wr w' : World} {g5 : Nat} {G : Nat → Prop} {kq cq tq : Option Addr} {kc cc tc i : Nat} (h : InB bk wk g5 G kq cq tq kc cc tc i wr) (hb : Below wr.heap.size wr w') : InB bk wk g5 G kq cq tq kc cc tc i w' := by
  have hl := lt_of_block h.cell
  refine ⟨h.old.trans (hb.mono (Nat.le_of_lt hl)), h.row.step insC_holds hb.size fun b hb2 => hb.block b (h.row.blocks b hb2).2.1, EndL.holds (cut_same hb.size fun b hg => hb.block b (h.row.lt b hg)) h.fin, (hb.block g5 hl).trans h.cell⟩
theorem InB.wide {bk : PBlk} {wk wr : World} {g5 : Nat} {G G' : Nat → Prop} {kq cq tq : Option Addr} {kc cc tc i : Nat} (h : InB bk wk g5 G kq cq tq kc cc tc i wr) (hG : ∀ b, G' b → G b ∨ (g5 + 1 ≤ b ∧ b < wr.heap.size ∧ Unf wr b ∧ (Value.slice kq i kc).ownBlock ≠ some b)) (hG' : ∀ b, G b → G' b) : InB bk wk g5 G' kq cq tq kc cc tc i wr :=
  ⟨h.old, h.row.wide insC_holds hG hG', EndL.holds (cut_more wr hG') h.fin, h.cell⟩
/-- What an instruction with lists of its own takes: g7 is its cell. -/
theorem mk_two {x : PIns} {wr wa wb : World} {va vr v1 v2 : Value} {t : TypeId}
    (b1 : Below (wr.alloc (.cells #[.int .i64 x.op, .int .i64 x.d, .int .i64 x.a, .int .i64 x.b, .int .i64 x.f, .int .u32 x.n, va, vr] t)).heap.size (wr.alloc (.cells #[.int .i64 x.op, .int .i64 x.d, .int .i64 x.a, .int .i64 x.b, .int .i64 x.f, .int .u32 x.n, va, vr] t)) wa)
    (l1 : IntsR (cutW (New (wr.alloc (.cells #[.int .i64 x.op, .int .i64 x.d, .int .i64 x.a, .int .i64 x.b, .int .i64 x.f, .int .u32 x.n, va, vr] t)).heap.size wa) wa) v1 x.args)
    (b2 : Below (wa.setCell ⟨wr.heap.size, 6, none⟩ v1).heap.size (wa.setCell ⟨wr.heap.size, 6, none⟩ v1) wb)
    (l2 : IntsR (cutW (New (wa.setCell ⟨wr.heap.size, 6, none⟩ v1).heap.size wb) wb) v2 x.arrs) (hn : 0 ≤ x.n ∧ x.n ≤ 4294967295) :
    Below wr.heap.size wr (wb.setCell ⟨wr.heap.size, 7, none⟩ v2) ∧
    (wb.setCell ⟨wr.heap.size, 7, none⟩ v2).heap[wr.heap.size]? = some (.cells #[.int .i64 x.op, .int .i64 x.d, .int .i64 x.a, .int .i64 x.b, .int .i64 x.f, .int .u32 x.n, v1, v2] t (0, 0)) ∧
    InsL (cutW (New (wr.heap.size + 1) (wb.setCell ⟨wr.heap.size, 7, none⟩ v2)) (wb.setCell ⟨wr.heap.size, 7, none⟩ v2)) v1 v2 x := by
  have h0 := heap_new wr (.cells #[.int .i64 x.op, .int .i64 x.d, .int .i64 x.a, .int .i64 x.b, .int .i64 x.f, .int .u32 x.n, va, vr] t)
  have hb0 := below_alloc wr (.cells #[.int .i64 x.op, .int .i64 x.d, .int .i64 x.a, .int .i64 x.b, .int .i64 x.f, .int .u32 x.n, va, vr] t)
  have hs1 : (wr.alloc (.cells #[.int .i64 x.op, .int .i64 x.d, .int .i64 x.a, .int .i64 x.b, .int .i64 x.f, .int .u32 x.n, va, vr] t)).heap.size = wr.heap.size + 1 := World.size_alloc _ _
  generalize wr.alloc (.cells #[.int .i64 x.op, .int .i64 x.d, .int .i64 x.a, .int .i64 x.b, .int .i64 x.f, .int .u32 x.n, va, vr] t) = w1 at *
  generalize hg : wr.heap.size = g at *
  have g1 : w1.grownBy (wa.setCell ⟨g, 6, none⟩ v1) (some g) := grown_step (World.grownBy.refl _ _) b1
  have g2 : (wa.setCell ⟨g, 6, none⟩ v1).grownBy (wb.setCell ⟨g, 7, none⟩ v2) (some g) := grown_step (World.grownBy.refl _ _) b2
  have k1 := (b1.block g (by omega)).trans h0
  have k2 := heap_setCell_same wa g 6 _ t v1 k1
  have k3 := (b2.block g (lt_of_block k2)).trans k2
  have k4 := heap_setCell_same wb g 7 _ t v2 k3
  have hsa : (wa.setCell ⟨g, 6, none⟩ v1).heap.size = wa.heap.size := by simp
  have hsb : (wb.setCell ⟨g, 7, none⟩ v2).heap.size = wb.heap.size := by simp
  have sa := b1.size
  have sb := b2.size
  refine ⟨Below.grown hb0 (grown_trans g1 g2) (by omega) (fun k hk => by injection hk with hk; omega), k4, ?_, ?_, hn⟩
  · refine IntsR.holds (cut_to (by omega) fun b hb hn => ?_) l1
    have hne : b ≠ g := by have := hn.1; omega
    have e : (wb.setCell ⟨g, 7, none⟩ v2).heap[b]? = wa.heap[b]? := by
      rw [heap_setCell_other wb ⟨g, _, none⟩ b _ (fun e => hne e), b2.block b (by omega), heap_setCell_other wa ⟨g, _, none⟩ b _ (fun e => hne e)]
    exact ⟨⟨by have := hn.1; omega, unf_keep hn.2 e⟩, e⟩
  · refine IntsR.holds (cut_to (by omega) fun b hb hn => ?_) l2
    have hne : b ≠ g := by have := hn.1; omega
    have e : (wb.setCell ⟨g, 7, none⟩ v2).heap[b]? = wb.heap[b]? := heap_setCell_other wb ⟨g, _, none⟩ b _ (fun e => hne e)
    exact ⟨⟨by have := hn.1; omega, unf_keep hn.2 e⟩, e⟩
/-- One instruction more is ready at w3: it may be appended. -/
theorem InB.ready {bk : PBlk} {wk wr w3 : World} {g5 : Nat} {G : Nat → Prop} {kq cq tq : Option Addr} {kc cc tc i : Nat} (h : InB bk wk g5 G kq cq tq kc cc tc i wr) {x : PIns} {v1 v2 : Value} (hb : Below wr.heap.size wr w3) (hl : InsL (cutW (New (wr.heap.size + 1) w3) w3) v1 v2 x) (o : Obj) :
    ∃ G', InB bk wk g5 G' kq cq tq kc cc tc i (w3.alloc o) ∧ insC (cutW G' (w3.alloc o)) (v1, v2) x := by
  have hl5 := lt_of_block h.cell
  have h3 := h.step hb
  have hal := below_alloc w3 o
  have h4 : InB bk wk g5 (fun b => G b ∨ (wr.heap.size + 1 ≤ b ∧ b < w3.heap.size ∧ Unf w3 b)) kq cq tq kc cc tc i w3 := by
    refine h3.wide (fun b hb2 => ?_) (fun b hb2 => .inl hb2)
    rcases hb2 with hb2 | ⟨h5, h6, h7⟩
    · exact .inl hb2
    · refine .inr ⟨by omega, h6, h7, fun e => ?_⟩
      have := (h.row.blocks b (.inr e)).2.1
      omega
  refine ⟨_, h4.step hal, InsL.holds (cut_to hal.size fun b hb2 hn => ?_) hl⟩
  exact ⟨.inr ⟨hn.1, hb2, hn.2⟩, hal.block b hb2⟩
theorem InB.close {bk : PBlk} {wk w4 w5 : World} {g5 : Nat} {G : Nat → Prop} {kq cq tq : Option Addr} {kc cc tc i : Nat} (h : InB bk wk g5 G kq cq tq kc cc tc i w4) {x : PIns} {u : Value × Value} (hc : insC (cutW G w4) u x) (hx : bk.code[i]? = some x)
    {xs news : List Value} (h1 : w4.ownsRow (g5 + 1) 70 8 (.slice kq i kc) i xs) (h2 : ∀ j y, j < i → bk.code[j]? = some y → ∃ u, InsV xs.toArray (j * 8) y u ∧ insC (cutW G w4) u y) (hu : InsV news.toArray 0 x u)
    {g cap : Nat} (h3 : w5.ownsRow (g5 + 1) 70 8 (.slice (some ⟨g, 0, none⟩) (i + 1) cap) (i + 1) (xs ++ news)) (h4 : w4.grownBy w5 (Value.slice kq i kc).ownBlock) (h5 : (Value.slice kq i kc).ownBlock = some g ∨ g = w4.heap.size) :
    InB bk wk g5 G (some ⟨g, 0, none⟩) cq tq cap cc tc (i + 1) (w5.setCell ⟨g5, 0, none⟩ (.slice (some ⟨g, 0, none⟩) (i + 1) cap)) := by
  have hl5 := lt_of_block h.cell
  have hrow := h.row.push insC_holds insV_more insV_new h1 h2 hx hu hc h3 h4 h5
  have hown : ∀ b, (Value.slice kq i kc).ownBlock = some b → g5 + 1 ≤ b := fun b e => by rcases (h.row.blocks b (.inr e)).1 with h6 | h6 <;> exact h6
  have hle := h.old.size
  have e5 : w5.heap[g5]? = w4.heap[g5]? := h4.block g5 hl5 (fun e => by have := hown g5 e.symm; omega)
  have oth : ∀ b, b ≠ g5 → (w5.setCell ⟨g5, 0, none⟩ (.slice (some ⟨g, 0, none⟩) (i + 1) cap)).heap[b]? = w5.heap[b]? := fun b hne => heap_setCell_other w5 ⟨g5, 0, none⟩ b _ (fun e => hne e)
  have hs : (w5.setCell ⟨g5, 0, none⟩ (.slice (some ⟨g, 0, none⟩) (i + 1) cap)).heap.size = w5.heap.size := by simp
  refine ⟨?_, hrow.step insC_holds (by omega) (fun b hb => oth b ?_), EndL.holds (cut_same (by rw [hs]; exact h4.size) fun b hg => (oth b ?_).trans (h4.block b (h.row.lt b hg) (fun e => h.row.off b hg e.symm))) h.fin, ?_⟩
  · have hb4 : Below w4.heap.size w4 w4 := Below.refl _ _
    refine h.old.trans (Below.grown (Below.grown (Below.refl g5 w4) h4 (Nat.le_of_lt hl5) (fun k hk => by have := hown k hk; omega)) (grown_step (World.grownBy.refl w5 (some g5)) (Below.refl _ _)) (by have := h4.size; omega) (fun k hk => by injection hk with hk; omega))
  · rcases (hrow.blocks b hb).1 with h6 | h6 <;> omega
  · have := h.row.low b hg; omega
  · exact heap_setCell_same w5 g5 0 _ _ _ (e5.trans h.cell)
end Go.Proofs.Ytacbfjinellonaa.Graph
namespace Go.Proofs.Ytacbfjinellonaa.Graph
open Go.RowKit

/-- The graph under construction at g3: its parameters. -/
structure StG (x : PGr) (w0 : World) (box : Array Value) (g3 : Nat) (G : Nat → Prop) (pq : Option Addr) (pc : Nat) (wr : World) : Prop where
  old : Below w0.heap.size w0 wr
  box : wr.heap[w0.heap.size]? = some (.cells box 37 (0, 0))
  res : wr.heap[w0.heap.size + 1]? = some (.cells #[.slice none 0 0, .int .i64 0, .slice none 0 0, .slice none 0 0] 37 (0, 0))
  low : w0.heap.size + 1 < g3
  params : IntsR (cutW G wr) (.slice pq x.params.length pc) x.params
  cell : wr.heap[g3]? = some (.cells #[.slice pq x.params.length pc, .int .i64 x.temps, .slice none 0 0, .slice none 0 0] 37 (0, 0))
  glow : ∀ b, G b → w0.heap.size ≤ b
  glt : ∀ b, G b → b < wr.heap.size
  gunf : ∀ b, G b → Unf wr b
  off : ∀ b, G b → b ≠ w0.heap.size ∧ b ≠ w0.heap.size + 1 ∧ b ≠ g3
/-- The graph under construction at g3: its first k blocks. -/
structure OutG (x : PGr) (w0 : World) (box : Array Value) (g3 : Nat) (G : Nat → Prop) (pq aq bq : Option Addr) (pc ac bc : Nat) (k : Nat) (wr : World) : Prop where
  old : Below w0.heap.size w0 wr
  box : wr.heap[w0.heap.size]? = some (.cells box 37 (0, 0))
  res : wr.heap[w0.heap.size + 1]? = some (.cells #[.slice none 0 0, .int .i64 0, .slice none 0 0, .slice none 0 0] 37 (0, 0))
  low : w0.heap.size + 1 < g3
  row : RowIn 50 10 BlkW blkC G w0.heap.size (g3 + 1) x.blocks k (.slice bq k bc) wr
  params : IntsR (cutW G wr) (.slice pq x.params.length pc) x.params
  arrays : ArrsR (cutW G wr) (.slice aq x.arrays.length ac) x.arrays
  cell : wr.heap[g3]? = some (.cells #[.slice pq x.params.length pc, .int .i64 x.temps, .slice aq x.arrays.length ac, .slice bq k bc] 37 (0, 0))
  off : ∀ b, G b → b ≠ w0.heap.size ∧ b ≠ w0.heap.size + 1 ∧ b ≠ g3
theorem OutG.step {x : PGr} {w0 wr w' : World} {box : Array Value} {g3 : Nat} {G : Nat → Prop} {pq aq bq : Option Addr} {pc ac bc k : Nat} (h : OutG x w0 box g3 G pq aq bq pc ac bc k wr) (hb : Below wr.heap.size wr w') : OutG x w0 box g3 G pq aq bq pc ac bc k w' := by
  have hl := lt_of_block h.cell
  have hs := h.old.size
  have hk : ∀ b, G b → w'.heap[b]? = wr.heap[b]? := fun b hg => hb.block b (h.row.lt b hg)
  exact ⟨h.old.trans (hb.mono hs), (hb.block _ (by have := h.low; omega)).trans h.box, (hb.block _ (by have := h.low; omega)).trans h.res, h.low, h.row.step blkC_holds hb.size fun b hb2 => hb.block b (h.row.blocks b hb2).2.1,
    IntsR.holds (cut_same hb.size hk) h.params, ArrsR.holds (cut_same hb.size hk) h.arrays, (hb.block g3 hl).trans h.cell, h.off⟩
/-- One block more is ready: it may be appended. -/
theorem OutG.ready {x : PGr} {w0 wr w1 : World} {box : Array Value} {g3 : Nat} {G Gi : Nat → Prop} {pq aq bq kq cq tq : Option Addr} {pc ac bc kc cc tc k : Nat} {bk : PBlk} (h : OutG x w0 box g3 G pq aq bq pc ac bc k wr) (hi : InB bk wr wr.heap.size Gi kq cq tq kc cc tc bk.code.length w1) (o : Obj) :
    ∃ G', OutG x w0 box g3 G' pq aq bq pc ac bc k (w1.alloc o) ∧ blkC (cutW G' (w1.alloc o)) (.slice kq bk.code.length kc, .slice cq bk.fin.cases.length cc, .slice tq bk.fin.targets.length tc) bk := by
  have hl := lt_of_block h.cell
  have h1 := h.step hi.old
  have hs := h.old.size
  have hlow := h.low
  have hib : ∀ b, (Gi b ∨ (Value.slice kq bk.code.length kc).ownBlock = some b) → wr.heap.size + 1 ≤ b ∧ b < w1.heap.size ∧ Unf w1 b := fun b hb => by
    have := hi.row.blocks b hb
    exact ⟨by rcases this.1 with h2 | h2 <;> exact h2, this.2⟩
  have hg : ∀ b, (G b ∨ (Gi b ∨ (Value.slice kq bk.code.length kc).ownBlock = some b)) → G b ∨ (w0.heap.size ≤ b ∧ b < w1.heap.size ∧ Unf w1 b ∧ (Value.slice bq k bc).ownBlock ≠ some b) := fun b hb => by
    rcases hb with hb | hb
    · exact .inl hb
    · obtain ⟨h2, h3, h4⟩ := hib b hb
      refine .inr ⟨by omega, h3, h4, fun e => ?_⟩
      have := (h.row.blocks b (.inr e)).2.1
      omega
  have h2 : OutG x w0 box g3 (fun b => G b ∨ (Gi b ∨ (Value.slice kq bk.code.length kc).ownBlock = some b)) pq aq bq pc ac bc k w1 := by
    refine ⟨h1.old, h1.box, h1.res, h1.low, h1.row.wide blkC_holds hg (fun b hb => .inl hb), IntsR.holds (cut_more w1 fun b hb => .inl hb) h1.params, ArrsR.holds (cut_more w1 fun b hb => .inl hb) h1.arrays, h1.cell, fun b hb => ?_⟩
    rcases hb with hb | hb
    · exact h.off b hb
    · have := (hib b hb).1
      exact ⟨by omega, by omega, by omega⟩
  have hal := below_alloc w1 o
  refine ⟨_, h2.step hal, CodeR.holds (cut_to hal.size fun b hb hn => ⟨.inr hn, hal.block b hb⟩) hi.row.code, EndL.holds (cut_to hal.size fun b hb hn => ⟨.inr (.inl hn), hal.block b hb⟩) hi.fin⟩
theorem OutG.close {x : PGr} {w0 w4 w5 : World} {box : Array Value} {g3 : Nat} {G : Nat → Prop} {pq aq bq : Option Addr} {pc ac bc k : Nat} {bk : PBlk} (h : OutG x w0 box g3 G pq aq bq pc ac bc k w4) {u : Value × Value × Value} (hc : blkC (cutW G w4) u bk) (hx : x.blocks[k]? = some bk)
    {xs news : List Value} (h1 : w4.ownsRow (g3 + 1) 50 10 (.slice bq k bc) k xs) (h2 : ∀ j y, j < k → x.blocks[j]? = some y → ∃ u, BlkW xs.toArray (j * 10) y u ∧ blkC (cutW G w4) u y) (hu : BlkW news.toArray 0 bk u)
    {g cap : Nat} (h3 : w5.ownsRow (g3 + 1) 50 10 (.slice (some ⟨g, 0, none⟩) (k + 1) cap) (k + 1) (xs ++ news)) (h4 : w4.grownBy w5 (Value.slice bq k bc).ownBlock) (h5 : (Value.slice bq k bc).ownBlock = some g ∨ g = w4.heap.size) :
    OutG x w0 box g3 G pq aq (some ⟨g, 0, none⟩) pc ac cap (k + 1) (w5.setCell ⟨g3, 3, none⟩ (.slice (some ⟨g, 0, none⟩) (k + 1) cap)) := by
  have hl5 := lt_of_block h.cell
  have hrow := h.row.push blkC_holds blkW_more blkW_new h1 h2 hx hu hc h3 h4 h5
  have hown : ∀ b, (Value.slice bq k bc).ownBlock = some b → g3 + 1 ≤ b := fun b e => by
    obtain ⟨_, ⟨e2, _⟩ | ⟨g', cap', cur', e2, h6, _⟩⟩ := h1
    · rw [e2] at e; cases e
    · rw [e2] at e; injection e with e; have e3 : g' = b := e; omega
  have hown2 : g3 + 1 ≤ g := by
    obtain ⟨_, ⟨e2, _⟩ | ⟨g', cap', cur', e2, h6, _⟩⟩ := h3
    · cases e2
    · injection e2 with e2; injection e2 with e2; injection e2 with e2; omega
  have hlow := h.low
  have hs := h.old.size
  have oth : ∀ b, b ≠ g3 → (w5.setCell ⟨g3, 3, none⟩ (.slice (some ⟨g, 0, none⟩) (k + 1) cap)).heap[b]? = w5.heap[b]? := fun b hne => heap_setCell_other w5 ⟨g3, 3, none⟩ b _ (fun e => hne e)
  have keep : ∀ b, b ≠ g3 → b < w4.heap.size → (Value.slice bq k bc).ownBlock ≠ some b → (w5.setCell ⟨g3, 3, none⟩ (.slice (some ⟨g, 0, none⟩) (k + 1) cap)).heap[b]? = w4.heap[b]? := fun b h6 h7 h8 => (oth b h6).trans (h4.block b h7 (fun e => h8 e.symm))
  have hs5 : (w5.setCell ⟨g3, 3, none⟩ (.slice (some ⟨g, 0, none⟩) (k + 1) cap)).heap.size = w5.heap.size := by simp
  have hG : Holds2 (cutW G w4) (cutW G (w5.setCell ⟨g3, 3, none⟩ (.slice (some ⟨g, 0, none⟩) (k + 1) cap))) := cut_same (by rw [hs5]; exact h4.size) fun b hb => keep b (h.off b hb).2.2 (h.row.lt b hb) (h.row.off b hb)
  have e5 : w5.heap[g3]? = w4.heap[g3]? := h4.block g3 hl5 (fun e => by have := hown g3 e.symm; omega)
  refine ⟨h.old.trans (Below.grown (Below.grown (Below.refl w0.heap.size w4) h4 (by omega) (fun b hb => by have := hown b hb; omega)) (grown_step (World.grownBy.refl w5 (some g3)) (Below.refl _ _)) (by have := h4.size; omega) (fun b hb => by injection hb with hb; omega)), ?_, ?_, hlow, ?_, IntsR.holds hG h.params, ArrsR.holds hG h.arrays, ?_, h.off⟩
  · exact (keep _ (by omega) (by omega) (fun e => by have := hown _ e; omega)).trans h.box
  · exact (keep _ (by omega) (by omega) (fun e => by have := hown _ e; omega)).trans h.res
  · refine hrow.step blkC_holds (by omega) fun b hb => oth b ?_
    rcases hb with hb | hb
    · exact (h.off b hb).2.2
    · injection hb with hb; have : g = b := hb; omega
  · exact heap_setCell_same w5 g3 3 _ _ _ (e5.trans h.cell)
/-- A graph whose blocks are all there. -/
theorem OutG.done {x : PGr} {w0 wr we : World} {box : Array Value} {g3 : Nat} {G : Nat → Prop} {pq aq bq : Option Addr} {pc ac bc : Nat} (h : OutG x w0 box g3 G pq aq bq pc ac bc x.blocks.length wr) (hwe : wr.grownBy we (some (w0.heap.size + 1))) :
    GrL (cutW (New w0.heap.size we) we) (.slice pq x.params.length pc) (.slice aq x.arrays.length ac) (.slice bq x.blocks.length bc) x ∧ Below w0.heap.size w0 we := by
  have hlow := h.low
  have hs := h.old.size
  have hl := lt_of_block h.cell
  have hall : ∀ b, (G b ∨ (Value.slice bq x.blocks.length bc).ownBlock = some b) → w0.heap.size ≤ b ∧ b < wr.heap.size ∧ b ≠ w0.heap.size + 1 ∧ Unf wr b := fun b hb => by
    obtain ⟨h1, h2, h3⟩ := h.row.blocks b hb
    refine ⟨by omega, h2, ?_, h3⟩
    rcases hb with hb | hb
    · exact (h.off b hb).2.1
    · obtain ⟨xs, ⟨_, ⟨e2, _⟩ | ⟨g', cap', cur', e2, h6, _⟩⟩, _⟩ := h.row.row
      · rw [e2] at hb; cases hb
      · rw [e2] at hb; injection hb with hb; have : g' = b := hb; omega
  have hh : ∀ S : Nat → Prop, (∀ b, S b → (G b ∨ (Value.slice bq x.blocks.length bc).ownBlock = some b)) → Holds2 (cutW S wr) (cutW (New w0.heap.size we) we) := fun S hS => cut_to hwe.size fun b hb hn => by
    obtain ⟨h1, h2, h3, h4⟩ := hall b (hS b hn)
    have e : we.heap[b]? = wr.heap[b]? := hwe.block b hb (fun e => h3 (by injection e))
    exact ⟨⟨h1, unf_keep h4 e⟩, e⟩
  exact ⟨⟨IntsR.holds (hh G fun b hb => .inl hb) h.params, ArrsR.holds (hh G fun b hb => .inl hb) h.arrays, BlksR.holds (hh _ fun b hb => hb) h.row.blks⟩, Below.grown h.old hwe hs (fun b hb => by injection hb with hb; omega)⟩
/-- What the arrays' row is appended to lies elsewhere. -/
theorem StG.arrays {x : PGr} {w0 wr wa w' : World} {box : Array Value} {g3 : Nat} {G : Nat → Prop} {pq aq : Option Addr} {pc ac : Nat} (h : StG x w0 box g3 G pq pc wr) (hb : Below wr.heap.size wr wa) (hl : ArrsR (cutW (New wr.heap.size wa) wa) (.slice aq x.arrays.length ac) x.arrays) (hw : wa.setCell ⟨g3, 2, none⟩ (.slice aq x.arrays.length ac) = w') :
    ∃ G', OutG x w0 box g3 G' pq aq none pc ac 0 0 w' := by
  subst hw
  have hlow := h.low
  have hs := h.old.size
  have hl3 := lt_of_block h.cell
  have hsa := hb.size
  have oth : ∀ b, b ≠ g3 → (wa.setCell ⟨g3, 2, none⟩ (.slice aq x.arrays.length ac)).heap[b]? = wa.heap[b]? := fun b hne => heap_setCell_other wa ⟨g3, 2, none⟩ b _ (fun e => hne e)
  have hs5 : (wa.setCell ⟨g3, 2, none⟩ (.slice aq x.arrays.length ac)).heap.size = wa.heap.size := by simp
  have hg : ∀ b, (G b ∨ (wr.heap.size ≤ b ∧ b < wa.heap.size ∧ Unf wa b)) → w0.heap.size ≤ b ∧ b < wa.heap.size ∧ Unf wa b ∧ b ≠ w0.heap.size ∧ b ≠ w0.heap.size + 1 ∧ b ≠ g3 := fun b hb2 => by
    rcases hb2 with hb2 | ⟨h1, h2, h3⟩
    · exact ⟨h.glow b hb2, Nat.lt_of_lt_of_le (h.glt b hb2) hsa, unf_keep (h.gunf b hb2) (hb.block b (h.glt b hb2)), h.off b hb2⟩
    · exact ⟨by omega, h2, h3, by omega, by omega, by omega⟩
  refine ⟨fun b => G b ∨ (wr.heap.size ≤ b ∧ b < wa.heap.size ∧ Unf wa b), ?_, ?_, ?_, hlow, ?_, ?_, ?_, ?_, fun b hb2 => (hg b hb2).2.2.2⟩
  · exact h.old.trans (Below.grown (hb.mono hs) (grown_step (World.grownBy.refl wa (some g3)) (Below.refl _ _)) (by omega) (fun b hb => by injection hb with hb; omega))
  · rw [oth _ (by omega), hb.block _ (by omega)]; exact h.box
  · rw [oth _ (by omega), hb.block _ (by omega)]; exact h.res
  · refine RowIn.nil _ _ _ _ _ (fun b hb2 => (hg b hb2).1) (fun b hb2 => by rw [hs5]; exact (hg b hb2).2.1) (fun b hb2 => unf_keep (hg b hb2).2.2.1 (oth b (hg b hb2).2.2.2.2.2))
  · refine IntsR.holds (cut_to (by omega) fun b hb2 hn => ⟨.inl hn, ?_⟩) h.params
    rw [oth b (h.off b hn).2.2, hb.block b hb2]
  · refine ArrsR.holds (cut_to (by omega) fun b hb2 hn => ⟨.inr ⟨hn.1, hb2, hn.2⟩, oth b (by have := hn.1; omega)⟩) hl
  · exact heap_setCell_same wa g3 2 _ _ _ ((hb.block g3 hl3).trans h.cell)
/-- The two ways in which the graph's cells come to be: behind its parameters' row, or ahead of it. -/
theorem StG.first {x : PGr} {w0 w1 wa : World} {box : Array Value} {aq : Option Addr} {ac : Nat} (h1 : Below w0.heap.size w0 w1) (hs : w0.heap.size + 2 ≤ w1.heap.size) (hbox : w1.heap[w0.heap.size]? = some (.cells box 37 (0, 0)))
    (hres : w1.heap[w0.heap.size + 1]? = some (.cells #[.slice none 0 0, .int .i64 0, .slice none 0 0, .slice none 0 0] 37 (0, 0))) (hb : Below w1.heap.size w1 wa) (hl : IntsR (cutW (New w1.heap.size wa) wa) (.slice aq x.params.length ac) x.params) :
    ∃ G, StG x w0 box wa.heap.size G aq ac (wa.alloc (.cells #[.slice aq x.params.length ac, .int .i64 x.temps, .slice none 0 0, .slice none 0 0] 37)) := by
  have hal := below_alloc wa (.cells #[.slice aq x.params.length ac, .int .i64 x.temps, .slice none 0 0, .slice none 0 0] 37)
  have hnew := heap_new wa (.cells #[.slice aq x.params.length ac, .int .i64 x.temps, .slice none 0 0, .slice none 0 0] 37)
  generalize wa.alloc (.cells #[.slice aq x.params.length ac, .int .i64 x.temps, .slice none 0 0, .slice none 0 0] 37) = w3 at *
  have hsa := hb.size
  refine ⟨fun b => w1.heap.size ≤ b ∧ b < wa.heap.size ∧ Unf wa b, (h1.trans (hb.mono (by omega))).trans (hal.mono (by omega)), ?_, ?_, by omega, ?_, hnew, fun b hg => by have := hg.1; omega, fun b hg => Nat.lt_of_lt_of_le hg.2.1 hal.size, fun b hg => unf_keep hg.2.2 (hal.block b hg.2.1), fun b hg => ?_⟩
  · rw [hal.block _ (by omega), hb.block _ (by omega)]; exact hbox
  · rw [hal.block _ (by omega), hb.block _ (by omega)]; exact hres
  · exact IntsR.holds (cut_to hal.size fun b hb2 hn => ⟨⟨hn.1, hb2, hn.2⟩, hal.block b hb2⟩) hl
  · have := hg.1; have := hg.2.1; exact ⟨by omega, by omega, by omega⟩
theorem StG.second {x : PGr} {w0 w1 w2 wa w3 : World} {box : Array Value} {aq : Option Addr} {ac : Nat} (h1 : Below w0.heap.size w0 w1) (hs : w0.heap.size + 2 ≤ w1.heap.size) (hbox : w1.heap[w0.heap.size]? = some (.cells box 37 (0, 0)))
    (hres : w1.heap[w0.heap.size + 1]? = some (.cells #[.slice none 0 0, .int .i64 0, .slice none 0 0, .slice none 0 0] 37 (0, 0))) (h2 : Below w1.heap.size w1 w2) (h2s : w2.heap.size = w1.heap.size + 1) (hb : Below w2.heap.size w2 wa) (hl : IntsR (cutW (New w2.heap.size wa) wa) (.slice aq x.params.length ac) x.params)
    (h3 : wa.grownBy w3 (some w1.heap.size)) (hc : w3.heap[w1.heap.size]? = some (.cells #[.slice aq x.params.length ac, .int .i64 x.temps, .slice none 0 0, .slice none 0 0] 37 (0, 0))) :
    ∃ G, StG x w0 box w1.heap.size G aq ac w3 := by
  have hsa := hb.size
  have hs3 := h3.size
  have keep : ∀ b, b ≠ w1.heap.size → b < wa.heap.size → w3.heap[b]? = wa.heap[b]? := fun b hne hl => h3.block b hl (fun e => hne (by injection e))
  refine ⟨fun b => w2.heap.size ≤ b ∧ b < wa.heap.size ∧ Unf wa b, Below.grown ((h1.trans (h2.mono (by omega))).trans (hb.mono (by omega))) h3 (by omega) (fun b hb2 => by injection hb2 with hb2; omega), ?_, ?_, by omega, ?_, hc, fun b hg => by have := hg.1; omega, fun b hg => Nat.lt_of_lt_of_le hg.2.1 hs3, fun b hg => unf_keep hg.2.2 (keep b (by have := hg.1; omega) hg.2.1), fun b hg => ?_⟩
  · rw [keep _ (by omega) (by omega), hb.block _ (by omega), h2.block _ (by omega)]; exact hbox
  · rw [keep _ (by omega) (by omega), hb.block _ (by omega), h2.block _ (by omega)]; exact hres
  · exact IntsR.holds (cut_to hs3 fun b hb2 hn => ⟨⟨hn.1, hb2, hn.2⟩, keep b (by have := hn.1; omega) hb2⟩) hl
  · have := hg.1; have := hg.2.1; exact ⟨by omega, by omega, by omega⟩
theorem OutG.cell5 {x : PGr} {w0 w4 w5 : World} {box : Array Value} {g3 : Nat} {G : Nat → Prop} {pq aq bq : Option Addr} {pc ac bc k : Nat} (h : OutG x w0 box g3 G pq aq bq pc ac bc k w4) {xs : List Value} (h1 : w4.ownsRow (g3 + 1) 50 10 (.slice bq k bc) k xs) (h4 : w4.grownBy w5 (Value.slice bq k bc).ownBlock) :
    w5.heap[g3]? = some (.cells #[.slice pq x.params.length pc, .int .i64 x.temps, .slice aq x.arrays.length ac, .slice bq k bc] 37 (0, 0)) := by
  have hown : ∀ b, (Value.slice bq k bc).ownBlock = some b → g3 + 1 ≤ b := fun b e => by
    obtain ⟨_, ⟨e2, _⟩ | ⟨g', cap', cur', e2, h6, _⟩⟩ := h1
    · rw [e2] at e; cases e
    · rw [e2] at e; injection e with e; have e3 : g' = b := e; omega
  exact (h4.block g3 (lt_of_block h.cell) (fun e => by have := hown g3 e.symm; omega)).trans h.cell
end Go.Proofs.Ytacbfjinellonaa.Graph
namespace Go.Proofs.Ytacbfjinellonaa.Graph
open Go.RowKit

def CopiedR (x : PMod) (w : World) (e : Ending) (w' : World) : Prop := ∃ pq aq bq pc ac bc, e = .returned (modV x (.slice pq x.globals.length pc) (.slice aq x.arrays.length ac) (.slice bq x.funcs.length bc)) ∧ ModL (cutW (New w.heap.size w') w') (.slice pq x.globals.length pc) (.slice aq x.arrays.length ac) (.slice bq x.funcs.length bc) x ∧ Below w.heap.size w w'
/-- The module under construction at g3: its arrays. -/
structure StM (x : PMod) (w0 : World) (box : Array Value) (g3 : Nat) (G : Nat → Prop) (aq : Option Addr) (ac : Nat) (wr : World) : Prop where
  old : Below w0.heap.size w0 wr
  box : wr.heap[w0.heap.size]? = some (.cells box 26 (0, 0))
  res : wr.heap[w0.heap.size + 1]? = some (.cells #[.slice none 0 0, .slice none 0 0, .slice none 0 0, .int .i64 0] 26 (0, 0))
  low : w0.heap.size + 1 < g3
  arrays : IntsR (cutW G wr) (.slice aq x.arrays.length ac) x.arrays
  cell : wr.heap[g3]? = some (.cells #[.slice none 0 0, .slice aq x.arrays.length ac, .slice none 0 0, .int .i64 x.main] 26 (0, 0))
  glow : ∀ b, G b → w0.heap.size ≤ b
  glt : ∀ b, G b → b < wr.heap.size
  gunf : ∀ b, G b → Unf wr b
  off : ∀ b, G b → b ≠ w0.heap.size ∧ b ≠ w0.heap.size + 1 ∧ b ≠ g3
/-- The module under construction at g3: its first k functions. -/
structure OutM (x : PMod) (w0 : World) (box : Array Value) (g3 : Nat) (G : Nat → Prop) (pq aq bq : Option Addr) (pc ac bc : Nat) (k : Nat) (wr : World) : Prop where
  old : Below w0.heap.size w0 wr
  box : wr.heap[w0.heap.size]? = some (.cells box 26 (0, 0))
  res : wr.heap[w0.heap.size + 1]? = some (.cells #[.slice none 0 0, .slice none 0 0, .slice none 0 0, .int .i64 0] 26 (0, 0))
  low : w0.heap.size + 1 < g3
  row : RowIn 37 4 GrW grC G w0.heap.size (g3 + 1) x.funcs k (.slice bq k bc) wr
  globals : WordsR (cutW G wr) (.slice pq x.globals.length pc) x.globals
  arrays : IntsR (cutW G wr) (.slice aq x.arrays.length ac) x.arrays
  cell : wr.heap[g3]? = some (.cells #[.slice pq x.globals.length pc, .slice aq x.arrays.length ac, .slice bq k bc, .int .i64 x.main] 26 (0, 0))
  off : ∀ b, G b → b ≠ w0.heap.size ∧ b ≠ w0.heap.size + 1 ∧ b ≠ g3
theorem OutM.step {x : PMod} {w0 wr w' : World} {box : Array Value} {g3 : Nat} {G : Nat → Prop} {pq aq bq : Option Addr} {pc ac bc k : Nat} (h : OutM x w0 box g3 G pq aq bq pc ac bc k wr) (hb : Below wr.heap.size wr w') : OutM x w0 box g3 G pq aq bq pc ac bc k w' := by
  have hl := lt_of_block h.cell
  have hs := h.old.size
  have hk : ∀ b, G b → w'.heap[b]? = wr.heap[b]? := fun b hg => hb.block b (h.row.lt b hg)
  exact ⟨h.old.trans (hb.mono hs), (hb.block _ (by have := h.low; omega)).trans h.box, (hb.block _ (by have := h.low; omega)).trans h.res, h.low, h.row.step grC_holds hb.size fun b hb2 => hb.block b (h.row.blocks b hb2).2.1,
    WordsR.holds (cut_same hb.size hk) h.globals, IntsR.holds (cut_same hb.size hk) h.arrays, (hb.block g3 hl).trans h.cell, h.off⟩
/-- One function more is ready: it may be appended. -/
theorem OutM.ready {x : PMod} {w0 wr wa : World} {box : Array Value} {g3 : Nat} {G : Nat → Prop} {pq aq bq q1 q2 q3 : Option Addr} {pc ac bc d1 d2 d3 k : Nat} {y : PGr} (h : OutM x w0 box g3 G pq aq bq pc ac bc k wr) (hb : Below wr.heap.size wr wa)
    (hl : GrL (cutW (New wr.heap.size wa) wa) (.slice q1 y.params.length d1) (.slice q2 y.arrays.length d2) (.slice q3 y.blocks.length d3) y) (o1 o2 : Obj) :
    ∃ G', OutM x w0 box g3 G' pq aq bq pc ac bc k ((wa.alloc o1).alloc o2) ∧ grC (cutW G' ((wa.alloc o1).alloc o2)) (.slice q1 y.params.length d1, .slice q2 y.arrays.length d2, .slice q3 y.blocks.length d3) y := by
  have hl3 := lt_of_block h.cell
  have h1 := h.step hb
  have hs := h.old.size
  have hlow := h.low
  have hg : ∀ b, (G b ∨ (wr.heap.size ≤ b ∧ b < wa.heap.size ∧ Unf wa b)) → G b ∨ (w0.heap.size ≤ b ∧ b < wa.heap.size ∧ Unf wa b ∧ (Value.slice bq k bc).ownBlock ≠ some b) := fun b hb2 => by
    rcases hb2 with hb2 | ⟨h2, h3, h4⟩
    · exact .inl hb2
    · refine .inr ⟨by omega, h3, h4, fun e => ?_⟩
      have := (h.row.blocks b (.inr e)).2.1
      omega
  have h2 : OutM x w0 box g3 (fun b => G b ∨ (wr.heap.size ≤ b ∧ b < wa.heap.size ∧ Unf wa b)) pq aq bq pc ac bc k wa := by
    refine ⟨h1.old, h1.box, h1.res, h1.low, h1.row.wide grC_holds hg (fun b hb => .inl hb), WordsR.holds (cut_more wa fun b hb => .inl hb) h1.globals, IntsR.holds (cut_more wa fun b hb => .inl hb) h1.arrays, h1.cell, fun b hb2 => ?_⟩
    rcases hb2 with hb2 | hb2
    · exact h.off b hb2
    · have := hb2.1
      exact ⟨by omega, by omega, by omega⟩
  have hal := below_then (below_alloc wa o1) (below_alloc (wa.alloc o1) o2)
  exact ⟨_, h2.step hal, GrL.holds (cut_to hal.size fun b hb2 hn => ⟨.inr ⟨hn.1, hb2, hn.2⟩, hal.block b hb2⟩) hl⟩
theorem OutM.close {x : PMod} {w0 w4 w5 : World} {box : Array Value} {g3 : Nat} {G : Nat → Prop} {pq aq bq : Option Addr} {pc ac bc k : Nat} {y0 : PGr} (h : OutM x w0 box g3 G pq aq bq pc ac bc k w4) {u : Value × Value × Value} (hc : grC (cutW G w4) u y0) (hx : x.funcs[k]? = some y0)
    {xs news : List Value} (h1 : w4.ownsRow (g3 + 1) 37 4 (.slice bq k bc) k xs) (h2 : ∀ j y, j < k → x.funcs[j]? = some y → ∃ u, GrW xs.toArray (j * 4) y u ∧ grC (cutW G w4) u y) (hu : GrW news.toArray 0 y0 u)
    {g cap : Nat} (h3 : w5.ownsRow (g3 + 1) 37 4 (.slice (some ⟨g, 0, none⟩) (k + 1) cap) (k + 1) (xs ++ news)) (h4 : w4.grownBy w5 (Value.slice bq k bc).ownBlock) (h5 : (Value.slice bq k bc).ownBlock = some g ∨ g = w4.heap.size) :
    OutM x w0 box g3 G pq aq (some ⟨g, 0, none⟩) pc ac cap (k + 1) (w5.setCell ⟨g3, 2, none⟩ (.slice (some ⟨g, 0, none⟩) (k + 1) cap)) := by
  have hl5 := lt_of_block h.cell
  have hrow := h.row.push grC_holds grW_more grW_new h1 h2 hx hu hc h3 h4 h5
  have hown : ∀ b, (Value.slice bq k bc).ownBlock = some b → g3 + 1 ≤ b := fun b e => by
    obtain ⟨_, ⟨e2, _⟩ | ⟨g', cap', cur', e2, h6, _⟩⟩ := h1
    · rw [e2] at e; cases e
    · rw [e2] at e; injection e with e; have e3 : g' = b := e; omega
  have hown2 : g3 + 1 ≤ g := by
    obtain ⟨_, ⟨e2, _⟩ | ⟨g', cap', cur', e2, h6, _⟩⟩ := h3
    · cases e2
    · injection e2 with e2; injection e2 with e2; injection e2 with e2; omega
  have hlow := h.low
  have hs := h.old.size
  have oth : ∀ b, b ≠ g3 → (w5.setCell ⟨g3, 2, none⟩ (.slice (some ⟨g, 0, none⟩) (k + 1) cap)).heap[b]? = w5.heap[b]? := fun b hne => heap_setCell_other w5 ⟨g3, 2, none⟩ b _ (fun e => hne e)
  have keep : ∀ b, b ≠ g3 → b < w4.heap.size → (Value.slice bq k bc).ownBlock ≠ some b → (w5.setCell ⟨g3, 2, none⟩ (.slice (some ⟨g, 0, none⟩) (k + 1) cap)).heap[b]? = w4.heap[b]? := fun b h6 h7 h8 => (oth b h6).trans (h4.block b h7 (fun e => h8 e.symm))
  have hs5 : (w5.setCell ⟨g3, 2, none⟩ (.slice (some ⟨g, 0, none⟩) (k + 1) cap)).heap.size = w5.heap.size := by simp
  have hG : Holds2 (cutW G w4) (cutW G (w5.setCell ⟨g3, 2, none⟩ (.slice (some ⟨g, 0, none⟩) (k + 1) cap))) := cut_same (by rw [hs5]; exact h4.size) fun b hb => keep b (h.off b hb).2.2 (h.row.lt b hb) (h.row.off b hb)
  have e5 : w5.heap[g3]? = w4.heap[g3]? := h4.block g3 hl5 (fun e => by have := hown g3 e.symm; omega)
  refine ⟨h.old.trans (Below.grown (Below.grown (Below.refl w0.heap.size w4) h4 (by omega) (fun b hb => by have := hown b hb; omega)) (grown_step (World.grownBy.refl w5 (some g3)) (Below.refl _ _)) (by have := h4.size; omega) (fun b hb => by injection hb with hb; omega)), ?_, ?_, hlow, ?_, WordsR.holds hG h.globals, IntsR.holds hG h.arrays, ?_, h.off⟩
  · exact (keep _ (by omega) (by omega) (fun e => by have := hown _ e; omega)).trans h.box
  · exact (keep _ (by omega) (by omega) (fun e => by have := hown _ e; omega)).trans h.res
  · refine hrow.step grC_holds (by omega) fun b hb => oth b ?_
    rcases hb with hb | hb
    · exact (h.off b hb).2.2
    · injection hb with hb; have : g = b := hb; omega
  · exact heap_setCell_same w5 g3 2 _ _ _ (e5.trans h.cell)
/-- A graph whose blocks are all there. -/
theorem OutM.done {x : PMod} {w0 wr we : World} {box : Array Value} {g3 : Nat} {G : Nat → Prop} {pq aq bq : Option Addr} {pc ac bc : Nat} (h : OutM x w0 box g3 G pq aq bq pc ac bc x.funcs.length wr) (hwe : wr.grownBy we (some (w0.heap.size + 1))) :
    ModL (cutW (New w0.heap.size we) we) (.slice pq x.globals.length pc) (.slice aq x.arrays.length ac) (.slice bq x.funcs.length bc) x ∧ Below w0.heap.size w0 we := by
  have hlow := h.low
  have hs := h.old.size
  have hl := lt_of_block h.cell
  have hall : ∀ b, (G b ∨ (Value.slice bq x.funcs.length bc).ownBlock = some b) → w0.heap.size ≤ b ∧ b < wr.heap.size ∧ b ≠ w0.heap.size + 1 ∧ Unf wr b := fun b hb => by
    obtain ⟨h1, h2, h3⟩ := h.row.blocks b hb
    refine ⟨by omega, h2, ?_, h3⟩
    rcases hb with hb | hb
    · exact (h.off b hb).2.1
    · obtain ⟨xs, ⟨_, ⟨e2, _⟩ | ⟨g', cap', cur', e2, h6, _⟩⟩, _⟩ := h.row.row
      · rw [e2] at hb; cases hb
      · rw [e2] at hb; injection hb with hb; have : g' = b := hb; omega
  have hh : ∀ S : Nat → Prop, (∀ b, S b → (G b ∨ (Value.slice bq x.funcs.length bc).ownBlock = some b)) → Holds2 (cutW S wr) (cutW (New w0.heap.size we) we) := fun S hS => cut_to hwe.size fun b hb hn => by
    obtain ⟨h1, h2, h3, h4⟩ := hall b (hS b hn)
    have e : we.heap[b]? = wr.heap[b]? := hwe.block b hb (fun e => h3 (by injection e))
    exact ⟨⟨h1, unf_keep h4 e⟩, e⟩
  exact ⟨⟨WordsR.holds (hh G fun b hb => .inl hb) h.globals, IntsR.holds (hh G fun b hb => .inl hb) h.arrays, GrsR.holds (hh _ fun b hb => hb) h.row.grs⟩, Below.grown h.old hwe hs (fun b hb => by injection hb with hb; omega)⟩
/-- What the globals' row is appended to lies elsewhere. -/
theorem StM.globals {x : PMod} {w0 wr wa w' : World} {box : Array Value} {g3 : Nat} {G : Nat → Prop} {pq aq : Option Addr} {pc ac : Nat} (h : StM x w0 box g3 G aq ac wr) (hb : Below wr.heap.size wr wa) (hl : WordsR (cutW (New wr.heap.size wa) wa) (.slice pq x.globals.length pc) x.globals) (hw : wa.setCell ⟨g3, 0, none⟩ (.slice pq x.globals.length pc) = w') :
    ∃ G', OutM x w0 box g3 G' pq aq none pc ac 0 0 w' := by
  subst hw
  have hlow := h.low
  have hs := h.old.size
  have hl3 := lt_of_block h.cell
  have hsa := hb.size
  have oth : ∀ b, b ≠ g3 → (wa.setCell ⟨g3, 0, none⟩ (.slice pq x.globals.length pc)).heap[b]? = wa.heap[b]? := fun b hne => heap_setCell_other wa ⟨g3, 0, none⟩ b _ (fun e => hne e)
  have hs5 : (wa.setCell ⟨g3, 0, none⟩ (.slice pq x.globals.length pc)).heap.size = wa.heap.size := by simp
  have hg : ∀ b, (G b ∨ (wr.heap.size ≤ b ∧ b < wa.heap.size ∧ Unf wa b)) → w0.heap.size ≤ b ∧ b < wa.heap.size ∧ Unf wa b ∧ b ≠ w0.heap.size ∧ b ≠ w0.heap.size + 1 ∧ b ≠ g3 := fun b hb2 => by
    rcases hb2 with hb2 | ⟨h1, h2, h3⟩
    · exact ⟨h.glow b hb2, Nat.lt_of_lt_of_le (h.glt b hb2) hsa, unf_keep (h.gunf b hb2) (hb.block b (h.glt b hb2)), h.off b hb2⟩
    · exact ⟨by omega, h2, h3, by omega, by omega, by omega⟩
  refine ⟨fun b => G b ∨ (wr.heap.size ≤ b ∧ b < wa.heap.size ∧ Unf wa b), ?_, ?_, ?_, hlow, ?_, ?_, ?_, ?_, fun b hb2 => (hg b hb2).2.2.2⟩
  · exact h.old.trans (Below.grown (hb.mono hs) (grown_step (World.grownBy.refl wa (some g3)) (Below.refl _ _)) (by omega) (fun b hb => by injection hb with hb; omega))
  · rw [oth _ (by omega), hb.block _ (by omega)]; exact h.box
  · rw [oth _ (by omega), hb.block _ (by omega)]; exact h.res
  · refine RowIn.nil _ _ _ _ _ (fun b hb2 => (hg b hb2).1) (fun b hb2 => by rw [hs5]; exact (hg b hb2).2.1) (fun b hb2 => unf_keep (hg b hb2).2.2.1 (oth b (hg b hb2).2.2.2.2.2))
  · refine WordsR.holds (cut_to (by omega) fun b hb2 hn => ⟨.inr ⟨hn.1, hb2, hn.2⟩, oth b (by have := hn.1; omega)⟩) hl
  · refine IntsR.holds (cut_to (by omega) fun b hb2 hn => ⟨.inl hn, ?_⟩) h.arrays
    rw [oth b (h.off b hn).2.2, hb.block b hb2]
  · exact heap_setCell_same wa g3 0 _ _ _ ((hb.block g3 hl3).trans h.cell)
/-- The two ways in which the module's cells come to be: behind its arrays' row, or ahead of it. -/
theorem StM.first {x : PMod} {w0 w1 wa : World} {box : Array Value} {aq : Option Addr} {ac : Nat} (h1 : Below w0.heap.size w0 w1) (hs : w0.heap.size + 2 ≤ w1.heap.size) (hbox : w1.heap[w0.heap.size]? = some (.cells box 26 (0, 0)))
    (hres : w1.heap[w0.heap.size + 1]? = some (.cells #[.slice none 0 0, .slice none 0 0, .slice none 0 0, .int .i64 0] 26 (0, 0))) (hb : Below w1.heap.size w1 wa) (hl : IntsR (cutW (New w1.heap.size wa) wa) (.slice aq x.arrays.length ac) x.arrays) :
    ∃ G, StM x w0 box wa.heap.size G aq ac (wa.alloc (.cells #[.slice none 0 0, .slice aq x.arrays.length ac, .slice none 0 0, .int .i64 x.main] 26)) := by
  have hal := below_alloc wa (.cells #[.slice none 0 0, .slice aq x.arrays.length ac, .slice none 0 0, .int .i64 x.main] 26)
  have hnew := heap_new wa (.cells #[.slice none 0 0, .slice aq x.arrays.length ac, .slice none 0 0, .int .i64 x.main] 26)
  generalize wa.alloc (.cells #[.slice none 0 0, .slice aq x.arrays.length ac, .slice none 0 0, .int .i64 x.main] 26) = w3 at *
  have hsa := hb.size
  refine ⟨fun b => w1.heap.size ≤ b ∧ b < wa.heap.size ∧ Unf wa b, (h1.trans (hb.mono (by omega))).trans (hal.mono (by omega)), ?_, ?_, by omega, ?_, hnew, fun b hg => by have := hg.1; omega, fun b hg => Nat.lt_of_lt_of_le hg.2.1 hal.size, fun b hg => unf_keep hg.2.2 (hal.block b hg.2.1), fun b hg => ?_⟩
  · rw [hal.block _ (by omega), hb.block _ (by omega)]; exact hbox
  · rw [hal.block _ (by omega), hb.block _ (by omega)]; exact hres
  · exact IntsR.holds (cut_to hal.size fun b hb2 hn => ⟨⟨hn.1, hb2, hn.2⟩, hal.block b hb2⟩) hl
  · have := hg.1; have := hg.2.1; exact ⟨by omega, by omega, by omega⟩
theorem StM.second {x : PMod} {w0 w1 w2 wa w3 : World} {box : Array Value} {aq : Option Addr} {ac : Nat} (h1 : Below w0.heap.size w0 w1) (hs : w0.heap.size + 2 ≤ w1.heap.size) (hbox : w1.heap[w0.heap.size]? = some (.cells box 26 (0, 0)))
    (hres : w1.heap[w0.heap.size + 1]? = some (.cells #[.slice none 0 0, .slice none 0 0, .slice none 0 0, .int .i64 0] 26 (0, 0))) (h2 : Below w1.heap.size w1 w2) (h2s : w2.heap.size = w1.heap.size + 1) (hb : Below w2.heap.size w2 wa) (hl : IntsR (cutW (New w2.heap.size wa) wa) (.slice aq x.arrays.length ac) x.arrays)
    (h3 : wa.grownBy w3 (some w1.heap.size)) (hc : w3.heap[w1.heap.size]? = some (.cells #[.slice none 0 0, .slice aq x.arrays.length ac, .slice none 0 0, .int .i64 x.main] 26 (0, 0))) :
    ∃ G, StM x w0 box w1.heap.size G aq ac w3 := by
  have hsa := hb.size
  have hs3 := h3.size
  have keep : ∀ b, b ≠ w1.heap.size → b < wa.heap.size → w3.heap[b]? = wa.heap[b]? := fun b hne hl => h3.block b hl (fun e => hne (by injection e))
  refine ⟨fun b => w2.heap.size ≤ b ∧ b < wa.heap.size ∧ Unf wa b, Below.grown ((h1.trans (h2.mono (by omega))).trans (hb.mono (by omega))) h3 (by omega) (fun b hb2 => by injection hb2 with hb2; omega), ?_, ?_, by omega, ?_, hc, fun b hg => by have := hg.1; omega, fun b hg => Nat.lt_of_lt_of_le hg.2.1 hs3, fun b hg => unf_keep hg.2.2 (keep b (by have := hg.1; omega) hg.2.1), fun b hg => ?_⟩
  · rw [keep _ (by omega) (by omega), hb.block _ (by omega), h2.block _ (by omega)]; exact hbox
  · rw [keep _ (by omega) (by omega), hb.block _ (by omega), h2.block _ (by omega)]; exact hres
  · exact IntsR.holds (cut_to hs3 fun b hb2 hn => ⟨⟨hn.1, hb2, hn.2⟩, keep b (by have := hn.1; omega) hb2⟩) hl
  · have := hg.1; have := hg.2.1; exact ⟨by omega, by omega, by omega⟩
theorem OutM.cell5 {x : PMod} {w0 w4 w5 : World} {box : Array Value} {g3 : Nat} {G : Nat → Prop} {pq aq bq : Option Addr} {pc ac bc k : Nat} (h : OutM x w0 box g3 G pq aq bq pc ac bc k w4) {xs : List Value} (h1 : w4.ownsRow (g3 + 1) 37 4 (.slice bq k bc) k xs) (h4 : w4.grownBy w5 (Value.slice bq k bc).ownBlock) :
    w5.heap[g3]? = some (.cells #[.slice pq x.globals.length pc, .slice aq x.arrays.length ac, .slice bq k bc, .int .i64 x.main] 26 (0, 0)) := by
  have hown : ∀ b, (Value.slice bq k bc).ownBlock = some b → g3 + 1 ≤ b := fun b e => by
    obtain ⟨_, ⟨e2, _⟩ | ⟨g', cap', cur', e2, h6, _⟩⟩ := h1
    · rw [e2] at e; cases e
    · rw [e2] at e; injection e with e; have e3 : g' = b := e; omega
  exact (h4.block g3 (lt_of_block h.cell) (fun e => by have := hown g3 e.symm; omega)).trans h.cell
end Go.Proofs.Ytacbfjinellonaa.Graph
