/- The program's machine, as it lies. No condition. -/
import Derived.Test.YtjbiikbmbacjkaaDoorGB
import Derived.Test.YtjbiikbmbacjkaaDoorEe0
import Derived.Deep.AppendLies
namespace Go.Proofs.YtjbiikbmbacjkaaDoor.Emu
open Go.RowKit Go.Proofs.YtjbiikbmbacjkaaDoor.Enc Go.Proofs.YtjbiikbmbacjkaaDoor.Graph

theorem lt_of_block {w : World} {g : Nat} {o : Obj} (hg : w.heap[g]? = some o) : g < w.heap.size := by
  rcases Nat.lt_or_ge g w.heap.size with h | h
  · exact h
  · rw [Array.getElem?_eq_none h] at hg; cases hg
theorem own_same {w w' : World} {B : Nat} {e : TypeId} {v : Value} {n : Nat} {ys : List Value} (h : w.ownsRow B e 1 v n ys) (hk : ∀ b, v.ownBlock = some b → w'.heap[b]? = w.heap[b]?) : w'.ownsRow B e 1 v n ys := by
  obtain ⟨k1, k2 | ⟨g, cap, cur, rfl, k3, k4, k5⟩⟩ := h
  · exact ⟨k1, .inl k2⟩
  · exact ⟨k1, .inr ⟨g, cap, cur, rfl, k3, (hk g rfl).trans k4, k5⟩⟩
/-- What the cells of a machine hold. -/
structure MV where
  (vw vl mem ad buf back : Value)
  r : List Int
  input : List UInt8
  (place steps stop code : Int)
  work : Nat → Value
def cellOf (v : MV) (k : Nat) : Value :=
  if k = 0 then v.vw else if k = 1 then v.vl else if k < 14 then .int .u32 (v.r.getD (k - 2) 0) else if k = 14 then v.mem else if k = 15 then .string ⟨v.input.toArray⟩ else if k = 16 then v.ad
  else if k = 17 then v.buf else if k = 18 then v.back else if k = 19 then .int .i64 v.place else if k = 20 then .int .i64 v.steps else if k = 21 then .int .i64 v.stop else if k = 22 then .int .u32 v.code else v.work (k - 23)
structure Cs (cs : Array Value) (v : MV) : Prop where
  size : cs.size = 48
  at_ : ∀ k, k < 48 → cs[k]? = some (cellOf v k)
theorem Cs.put {cs : Array Value} {v v' : MV} (h : Cs cs v) (k : Nat) (u : Value) (hk : cellOf v' k = u) (ho : ∀ j, j < 48 → j ≠ k → cellOf v' j = cellOf v j) : Cs (cs.setIfInBounds k u) v' := by
  refine ⟨by simpa using h.size, fun j hj => ?_⟩
  by_cases e : j = k
  · subst e; rw [Array.getElem?_setIfInBounds_self_of_lt (by have := h.size; omega), hk]
  · rw [Array.getElem?_setIfInBounds_ne (fun e' => e e'.symm), h.at_ j hj, ho j hj e]
theorem cellOf_reg (v : MV) {a : Nat} (ha : a < 12) : cellOf v (2 + a) = .int .u32 (v.r.getD a 0) := by
  unfold cellOf
  rw [if_neg (by omega), if_neg (by omega), if_pos (by omega), Nat.add_sub_cancel_left]
/-- The fixed parts: where the machine, its memory, its list lie; the words; below Z all is the caller's; N bounds the fixed blocks. -/
structure Fz where
  (Z N bm mm lb pb : Nat)
  vw : Value
  po : Option Obj
structure Fz.Ok (x : Fz) : Prop where
  zb : x.Z ≤ x.bm
  zm : x.Z ≤ x.mm
  zl : x.Z ≤ x.lb
  bn : x.bm < x.N
  mn : x.mm < x.N
  ln : x.lb < x.N
  bm : x.bm ≠ x.mm
  bl : x.bm ≠ x.lb
  ml : x.mm ≠ x.lb
  pn : x.pb < x.N
  pb : x.pb ≠ x.bm
  pm : x.pb ≠ x.mm
  pl : x.pb ≠ x.lb
/-- What an instruction is, as the machine's list holds it: a word that is none has noughts. -/
def insP (w : Int) : PC := if (decP w).2 = 0 then (decP w).1 else ⟨0, 0, 0, 0⟩
def Fz.mv (x : Fz) (E : Env) (wk : Nat → Value) (m : M) (ad buf back : Value) : MV :=
  ⟨x.vw, .slice (some ⟨x.lb, 0, none⟩) E.words.length E.words.length, .pointer (some ⟨x.mm, 0, none⟩), ad, buf, back, m.r, E.input.drop m.at_, m.place, m.steps, m.stop, m.code, wk⟩
/-- The memory: pages, or noughts where none is. -/
structure MemR (w : World) (mm : Nat) (pg : Nat → Option Nat) (l : List Int) : Prop where
  tab : ∃ cs, w.heap[mm]? = some (.cells cs 110 (0, 0)) ∧ cs.size = 128 ∧ ∀ i, i < 128 → cs[i]? = some (.pointer ((pg i).map fun g => ⟨g, 0, none⟩))
  none_ : ∀ i, i < 128 → pg i = none → ∀ j, j < 4096 → l.getD (4096 * i + j) 0 = 0
  some_ : ∀ i g, i < 128 → pg i = some g → ∃ cs, w.heap[g]? = some (.cells cs 112 (0, 0)) ∧ cs.size = 4096 ∧ ∀ j, j < 4096 → cs[j]? = some (.int .u32 (l.getD (4096 * i + j) 0))
  one : ∀ i j g, i < 128 → j < 128 → pg i = some g → pg j = some g → i = j
  off : ∀ i g, i < 128 → pg i = some g → g ≠ mm
structure St (x : Fz) (E : Env) (wk : Nat → Value) (w w' : World) (m : M) (ad buf back : Value) (pg : Nat → Option Nat) : Prop where
  ok : x.Ok
  below : Below x.Z w w'
  size : x.N ≤ w'.heap.size
  mach : ∃ cs, w'.heap[x.bm]? = some (.cells cs 67 (0, 0)) ∧ Cs cs (x.mv E wk m ad buf back)
  words : WordsR w x.vw E.words
  wz : w.heap.size = x.Z
  list : ∃ cs, w'.heap[x.lb]? = some (.cells cs 83 (0, 0)) ∧ ∀ i, i < E.words.length → cs[4 * i]? = some (.int .u8 (insP (E.words.getD i 0)).op) ∧ cs[4 * i + 1]? = some (.int .u8 (insP (E.words.getD i 0)).a) ∧ cs[4 * i + 2]? = some (.int .u8 (insP (E.words.getD i 0)).b) ∧ cs[4 * i + 3]? = some (.int .i32 (insP (E.words.getD i 0)).imm)
  mem : MemR w' x.mm pg m.mem
  backR : w'.ownsRow x.N 3 1 back m.calls.length (m.calls.map fun p => .int .i64 p)
  bufR : w'.ownsRow x.N 5 1 buf m.bytes.length (m.bytes.map fun b => .int .u8 b.toNat)
  ads : ad = .pointer none ∨ ad = .pointer (some ⟨x.bm, 16, none⟩)
  bb : ∀ b, back.ownBlock = some b → buf.ownBlock ≠ some b
  pz : ∀ i g, i < 128 → pg i = some g → x.Z ≤ g ∧ g ≠ x.bm ∧ g ≠ x.lb ∧ back.ownBlock ≠ some g ∧ buf.ownBlock ≠ some g
  nul : m.bytes = [] → buf = .slice none 0 0
  box : w'.heap[x.pb]? = x.po
  pzb : ∀ i g, i < 128 → pg i = some g → g ≠ x.pb
section
variable {x : Fz} {E : Env} {wk : Nat → Value} {w w' w2 : World} {m : M} {ad buf back : Value} {pg : Nat → Option Nat}
theorem St.lm (h : St x E wk w w' m ad buf back pg) : x.bm < w'.heap.size := Nat.lt_of_lt_of_le h.ok.bn h.size
theorem St.lmm (h : St x E wk w w' m ad buf back pg) : x.mm < w'.heap.size := Nat.lt_of_lt_of_le h.ok.mn h.size
theorem St.llb (h : St x E wk w w' m ad buf back pg) : x.lb < w'.heap.size := Nat.lt_of_lt_of_le h.ok.ln h.size
theorem St.lpb (h : St x E wk w w' m ad buf back pg) : x.pb < w'.heap.size := Nat.lt_of_lt_of_le h.ok.pn h.size
theorem St.wds (h : St x E wk w w' m ad buf back pg) : WordsR w' x.vw E.words := h.words.below (h.below.mono (by rw [h.wz]; exact Nat.le_refl _))
/-- A cell of the machine. -/
theorem St.cell (h : St x E wk w w' m ad buf back pg) {k : Nat} (hk : k < 48) : w'.cell? ⟨x.bm, k, none⟩ = some (cellOf (x.mv E wk m ad buf back) k) ∧ w'.frozen? ⟨x.bm, k, none⟩ = false := by
  obtain ⟨cs, h1, h2⟩ := h.mach
  exact cell_of_block h1 (h2.at_ k hk)
theorem MemR.same {mm : Nat} {l : List Int} (h : MemR w mm pg l) (h0 : w2.heap[mm]? = w.heap[mm]?) (h1 : ∀ i g, i < 128 → pg i = some g → w2.heap[g]? = w.heap[g]?) : MemR w2 mm pg l := by
  obtain ⟨cs, k1, k2⟩ := h.tab
  refine ⟨⟨cs, h0.trans k1, k2⟩, h.none_, fun i g hi hg => ?_, h.one, h.off⟩
  obtain ⟨cs, j1, j2⟩ := h.some_ i g hi hg
  exact ⟨cs, (h1 i g hi hg).trans j1, j2⟩
theorem MemR.lt {mm : Nat} {l : List Int} (h : MemR w mm pg l) {i g : Nat} (hi : i < 128) (hg : pg i = some g) : g < w.heap.size := by
  obtain ⟨cs, j1, _⟩ := h.some_ i g hi hg
  exact lt_of_block j1
/-- Where memory is but made, all stands. -/
theorem St.go (h : St x E wk w w' m ad buf back pg) (hb : Below w'.heap.size w' w2) : St x E wk w w2 m ad buf back pg := by
  obtain ⟨cs, h1, h2⟩ := h.mach
  obtain ⟨ls, h3, h4⟩ := h.list
  have hz : x.Z ≤ w'.heap.size := Nat.le_trans h.ok.zb (Nat.le_of_lt h.lm)
  exact ⟨h.ok, h.below.trans (hb.mono hz), Nat.le_trans h.size hb.size, ⟨cs, (hb.block _ h.lm).trans h1, h2⟩, h.words, h.wz, ⟨ls, (hb.block _ h.llb).trans h3, h4⟩, h.mem.same (hb.block _ h.lmm) (fun i g hi hg => hb.block _ (h.mem.lt hi hg)),
    own_same h.backR (fun b hb2 => hb.block b (h.backR.lt b hb2).2), own_same h.bufR (fun b hb2 => hb.block b (h.bufR.lt b hb2).2), h.ads, h.bb, h.pz, h.nul, (hb.block _ h.lpb).trans h.box, h.pzb⟩
theorem St.drew (h : St x E wk w w' m ad buf back pg) : St x E wk w w'.drew m ad buf back pg := h.go (Below.refl _ _).drew
theorem St.alloc (h : St x E wk w w' m ad buf back pg) (o : Obj) : St x E wk w (w'.alloc o) m ad buf back pg := h.go (below_one w' o)
/-- A cell of the machine is turned. -/
theorem St.set {m' : M} {ad' : Value} (h : St x E wk w w' m ad buf back pg) (k : Nat) (u : Value) (hk : cellOf (x.mv E wk m' ad' buf back) k = u) (ho : ∀ j, j < 48 → j ≠ k → cellOf (x.mv E wk m' ad' buf back) j = cellOf (x.mv E wk m ad buf back) j)
    (h1 : m'.mem = m.mem) (h2 : m'.calls = m.calls) (h3 : m'.bytes = m.bytes) (h4 : ad' = .pointer none ∨ ad' = .pointer (some ⟨x.bm, 16, none⟩)) : St x E wk w (w'.setCell ⟨x.bm, k, none⟩ u) m' ad' buf back pg := by
  obtain ⟨cs, k1, k2⟩ := h.mach
  obtain ⟨ls, k3, k4⟩ := h.list
  have hne : ∀ b, b ≠ x.bm → (w'.setCell ⟨x.bm, k, none⟩ u).heap[b]? = w'.heap[b]? := fun b hb => heap_setCell_other w' ⟨x.bm, k, none⟩ b u hb
  refine ⟨h.ok, h.below.setCell (p := ⟨x.bm, k, none⟩) h.ok.zb u, by simpa using h.size, ⟨_, heap_setCell_same w' x.bm k _ _ u k1, k2.put k u hk ho⟩, h.words, h.wz, ⟨ls, (hne _ h.ok.bl.symm).trans k3, k4⟩, ?_, ?_, ?_, h4, h.bb, h.pz, fun e => h.nul (by rw [← h3]; exact e), (hne _ h.ok.pb).trans h.box, h.pzb⟩
  · rw [h1]; exact h.mem.same (hne _ h.ok.bm.symm) (fun i g hi hg => hne g (h.pz i g hi hg).2.1)
  · rw [h2]; exact own_same h.backR (fun b hb => hne b (by have := (h.backR.lt b hb).1; have := h.ok.bn; omega))
  · rw [h3]; exact own_same h.bufR (fun b hb => hne b (by have := (h.bufR.lt b hb).1; have := h.ok.bn; omega))
theorem St.setPlace (h : St x E wk w w' m ad buf back pg) (p : Int) : St x E wk w (w'.setCell ⟨x.bm, 19, none⟩ (.int .i64 p)) { m with place := p } ad buf back pg :=
  h.set 19 _ rfl (fun j hj hn => by unfold cellOf Fz.mv; simp only [hn, if_false]) rfl rfl rfl h.ads
theorem St.setSteps (h : St x E wk w w' m ad buf back pg) (n : Nat) : St x E wk w (w'.setCell ⟨x.bm, 20, none⟩ (.int .i64 n)) { m with steps := n } ad buf back pg :=
  h.set 20 _ rfl (fun j hj hn => by unfold cellOf Fz.mv; simp only [hn, if_false]) rfl rfl rfl h.ads
theorem St.setStop (h : St x E wk w w' m ad buf back pg) (n : Int) : St x E wk w (w'.setCell ⟨x.bm, 21, none⟩ (.int .i64 n)) { m with stop := n } ad buf back pg :=
  h.set 21 _ rfl (fun j hj hn => by unfold cellOf Fz.mv; simp only [hn, if_false]) rfl rfl rfl h.ads
theorem St.setCode (h : St x E wk w w' m ad buf back pg) (n : Int) : St x E wk w (w'.setCell ⟨x.bm, 22, none⟩ (.int .u32 n)) { m with code := n } ad buf back pg :=
  h.set 22 _ rfl (fun j hj hn => by unfold cellOf Fz.mv; simp only [hn, if_false]) rfl rfl rfl h.ads
theorem St.setIn (h : St x E wk w w' m ad buf back pg) (n : Nat) : St x E wk w (w'.setCell ⟨x.bm, 15, none⟩ (.string ⟨(E.input.drop n).toArray⟩)) { m with at_ := n } ad buf back pg :=
  h.set 15 _ rfl (fun j hj hn => by unfold cellOf Fz.mv; simp only [hn, if_false]) rfl rfl rfl h.ads
theorem St.setAd (h : St x E wk w w' m ad buf back pg) : St x E wk w (w'.setCell ⟨x.bm, 16, none⟩ (.pointer (some ⟨x.bm, 16, none⟩))) m (.pointer (some ⟨x.bm, 16, none⟩)) buf back pg :=
  h.set 16 _ rfl (fun j hj hn => by unfold cellOf Fz.mv; simp only [hn, if_false]) rfl rfl rfl (.inr rfl)
/-- A register is turned. -/
theorem St.setR (h : St x E wk w w' m ad buf back pg) {a : Nat} (ha : a < 12) (hr : m.r.length = 12) (v : Int) : St x E wk w (w'.setCell ⟨x.bm, 2 + a, none⟩ (.int .u32 v)) (setR m (a : Int) v) ad buf back pg := by
  refine h.set (2 + a) _ ?_ (fun j hj hn => ?_) rfl rfl rfl h.ads
  · rw [cellOf_reg _ ha]
    show Value.int .u32 ((m.r.set (a : Int).toNat v).getD a 0) = _
    rw [Int.toNat_natCast, List.getD_eq_getElem?_getD, List.getElem?_set_self (by omega)]; rfl
  · unfold cellOf
    by_cases e0 : j = 0
    · rw [if_pos e0, if_pos e0]; rfl
    by_cases e1 : j = 1
    · rw [if_neg e0, if_neg e0, if_pos e1, if_pos e1]; rfl
    by_cases e2 : j < 14
    · rw [if_neg e0, if_neg e0, if_neg e1, if_neg e1, if_pos e2, if_pos e2]
      show Value.int .u32 ((m.r.set (a : Int).toNat v).getD (j - 2) 0) = .int .u32 (m.r.getD (j - 2) 0)
      rw [Int.toNat_natCast, List.getD_eq_getElem?_getD, List.getElem?_set_ne (by omega), ← List.getD_eq_getElem?_getD]
    · rw [if_neg e0, if_neg e0, if_neg e1, if_neg e1, if_neg e2, if_neg e2]; rfl
end
end Go.Proofs.YtjbiikbmbacjkaaDoor.Emu
