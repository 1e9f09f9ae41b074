/- The program's machine, as it lies. No condition. -/
import Derived.Test.YtopceggmdieppaaDoorGB
import Derived.Test.YtopceggmdieppaaDoorEe0
import Derived.Deep.AppendLies
import Derived.Laws.Slices
import Derived.Deep.RegionWith
import Derived.Deep.DeepCutAuto
import Derived.Lib.Builder
import Derived.Lib.UnsafeStr
import Derived.Lib.FrozenHead
namespace Go.Proofs.YtopceggmdieppaaDoor.Emu
open Go.RowKit Go.Proofs.YtopceggmdieppaaDoor.Enc Go.Proofs.YtopceggmdieppaaDoor.Graph

theorem lt_of_block {w : World} {g : Nat} {o : Obj} (hg : w.heap[g]? = some o) : g < w.heap.size := by
  rcases Nat.lt_or_ge g w.heap.size with h | h
  · exact h
  · rw [Array.getElem?_eq_none h] at hg; cases hg
theorem own_same {w w' : World} {B : Nat} {e : TypeId} {v : Value} {n : Nat} {ys : List Value} (h : w.ownsRow B e 1 v n ys) (hk : ∀ b, v.ownBlock = some b → w'.heap[b]? = w.heap[b]?) : w'.ownsRow B e 1 v n ys := by
  obtain ⟨k1, k2 | ⟨g, cap, cur, rfl, k3, k4, k5⟩⟩ := h
  · exact ⟨k1, .inl k2⟩
  · exact ⟨k1, .inr ⟨g, cap, cur, rfl, k3, (hk g rfl).trans k4, k5⟩⟩
/-- What the cells of a machine hold. -/
structure MV where
  (vw vl mem ad buf back : Value)
  r : List Int
  input : List UInt8
  (place steps stop code : Int)
  work : Nat → Value
def cellOf (v : MV) (k : Nat) : Value :=
  if k = 0 then v.vw else if k = 1 then v.vl else if k < 14 then .int .u32 (v.r.getD (k - 2) 0) else if k = 14 then v.mem else if k = 15 then .string ⟨v.input.toArray⟩ else if k = 16 then v.ad
  else if k = 17 then v.buf else if k = 18 then v.back else if k = 19 then .int .i64 v.place else if k = 20 then .int .i64 v.steps else if k = 21 then .int .i64 v.stop else if k = 22 then .int .u32 v.code else v.work (k - 23)
structure Cs (cs : Array Value) (v : MV) : Prop where
  size : cs.size = 48
  at_ : ∀ k, k < 48 → cs[k]? = some (cellOf v k)
theorem Cs.put {cs : Array Value} {v v' : MV} (h : Cs cs v) (k : Nat) (u : Value) (hk : cellOf v' k = u) (ho : ∀ j, j < 48 → j ≠ k → cellOf v' j = cellOf v j) : Cs (cs.setIfInBounds k u) v' := by
  refine ⟨by simpa using h.size, fun j hj => ?_⟩
  by_cases e : j = k
  · subst e; rw [Array.getElem?_setIfInBounds_self_of_lt (by have := h.size; omega), hk]
  · rw [Array.getElem?_setIfInBounds_ne (fun e' => e e'.symm), h.at_ j hj, ho j hj e]
theorem cellOf_reg (v : MV) {a : Nat} (ha : a < 12) : cellOf v (2 + a) = .int .u32 (v.r.getD a 0) := by
  unfold cellOf
  rw [if_neg (by omega), if_neg (by omega), if_pos (by omega), Nat.add_sub_cancel_left]
/-- The fixed parts: where the machine, its memory, its list lie; the words; below Z all is the caller's; N bounds the fixed blocks. -/
structure Fz where
  (Z N bm mm lb pb : Nat)
  vw : Value
  po : Option Obj
structure Fz.Ok (x : Fz) : Prop where
  zb : x.Z ≤ x.bm
  zm : x.Z ≤ x.mm
  zl : x.Z ≤ x.lb
  bn : x.bm < x.N
  mn : x.mm < x.N
  ln : x.lb < x.N
  bm : x.bm ≠ x.mm
  bl : x.bm ≠ x.lb
  ml : x.mm ≠ x.lb
  pn : x.pb < x.N
  pb : x.pb ≠ x.bm
  pm : x.pb ≠ x.mm
  pl : x.pb ≠ x.lb
/-- What an instruction is, as the machine's list holds it: a word that is none has noughts. -/
def insP (w : Int) : PC := if (decP w).2 = 0 then (decP w).1 else ⟨0, 0, 0, 0⟩
def Fz.mv (x : Fz) (E : Env) (wk : Nat → Value) (m : M) (ad buf back : Value) : MV :=
  ⟨x.vw, .slice (some ⟨x.lb, 0, none⟩) E.words.length E.words.length, .pointer (some ⟨x.mm, 0, none⟩), ad, buf, back, m.r, E.input.drop m.at_, m.place, m.steps, m.stop, m.code, wk⟩
/-- The memory: pages, or noughts where none is. -/
structure MemR (w : World) (mm : Nat) (pg : Nat → Option Nat) (l : List Int) : Prop where
  tab : ∃ cs, w.heap[mm]? = some (.cells cs 134 (0, 0)) ∧ cs.size = 128 ∧ ∀ i, i < 128 → cs[i]? = some (.pointer ((pg i).map fun g => ⟨g, 0, none⟩))
  none_ : ∀ i, i < 128 → pg i = none → ∀ j, j < 4096 → l.getD (4096 * i + j) 0 = 0
  some_ : ∀ i g, i < 128 → pg i = some g → ∃ cs, w.heap[g]? = some (.cells cs 136 (0, 0)) ∧ cs.size = 4096 ∧ ∀ j, j < 4096 → cs[j]? = some (.int .u32 (l.getD (4096 * i + j) 0))
  one : ∀ i j g, i < 128 → j < 128 → pg i = some g → pg j = some g → i = j
  off : ∀ i g, i < 128 → pg i = some g → g ≠ mm
structure St (x : Fz) (E : Env) (wk : Nat → Value) (w w' : World) (m : M) (ad buf back : Value) (pg : Nat → Option Nat) : Prop where
  ok : x.Ok
  below : Below x.Z w w'
  size : x.N ≤ w'.heap.size
  mach : ∃ cs, w'.heap[x.bm]? = some (.cells cs 98 (0, 0)) ∧ Cs cs (x.mv E wk m ad buf back)
  words : WordsR w x.vw E.words
  wz : w.heap.size = x.Z
  list : ∃ cs, w'.heap[x.lb]? = some (.cells cs 120 (0, 0)) ∧ ∀ i, i < E.words.length → cs[4 * i]? = some (.int .u8 (insP (E.words.getD i 0)).op) ∧ cs[4 * i + 1]? = some (.int .u8 (insP (E.words.getD i 0)).a) ∧ cs[4 * i + 2]? = some (.int .u8 (insP (E.words.getD i 0)).b) ∧ cs[4 * i + 3]? = some (.int .i32 (insP (E.words.getD i 0)).imm)
  mem : MemR w' x.mm pg m.mem
  backR : w'.ownsRow x.N 3 1 back m.calls.length (m.calls.map fun p => .int .i64 p)
  bufR : w'.ownsRow x.N 5 1 buf m.bytes.length (m.bytes.map fun b => .int .u8 b.toNat)
  ads : ad = .pointer none ∨ ad = .pointer (some ⟨x.bm, 16, none⟩)
  bb : ∀ b, back.ownBlock = some b → buf.ownBlock ≠ some b
  pz : ∀ i g, i < 128 → pg i = some g → x.Z ≤ g ∧ g ≠ x.bm ∧ g ≠ x.lb ∧ back.ownBlock ≠ some g ∧ buf.ownBlock ≠ some g
  nul : m.bytes = [] → buf = .slice none 0 0
  box : w'.heap[x.pb]? = x.po
  pzb : ∀ i g, i < 128 → pg i = some g → g ≠ x.pb
section
variable {x : Fz} {E : Env} {wk : Nat → Value} {w w' w2 : World} {m : M} {ad buf back : Value} {pg : Nat → Option Nat}
theorem St.lm (h : St x E wk w w' m ad buf back pg) : x.bm < w'.heap.size := Nat.lt_of_lt_of_le h.ok.bn h.size
theorem St.lmm (h : St x E wk w w' m ad buf back pg) : x.mm < w'.heap.size := Nat.lt_of_lt_of_le h.ok.mn h.size
theorem St.llb (h : St x E wk w w' m ad buf back pg) : x.lb < w'.heap.size := Nat.lt_of_lt_of_le h.ok.ln h.size
theorem St.lpb (h : St x E wk w w' m ad buf back pg) : x.pb < w'.heap.size := Nat.lt_of_lt_of_le h.ok.pn h.size
theorem St.wds (h : St x E wk w w' m ad buf back pg) : WordsR w' x.vw E.words := h.words.below (h.below.mono (by rw [h.wz]; exact Nat.le_refl _))
/-- A cell of the machine. -/
theorem St.cell (h : St x E wk w w' m ad buf back pg) {k : Nat} (hk : k < 48) : w'.cell? ⟨x.bm, k, none⟩ = some (cellOf (x.mv E wk m ad buf back) k) ∧ w'.frozen? ⟨x.bm, k, none⟩ = false := by
  obtain ⟨cs, h1, h2⟩ := h.mach
  exact cell_of_block h1 (h2.at_ k hk)
theorem MemR.same {mm : Nat} {l : List Int} (h : MemR w mm pg l) (h0 : w2.heap[mm]? = w.heap[mm]?) (h1 : ∀ i g, i < 128 → pg i = some g → w2.heap[g]? = w.heap[g]?) : MemR w2 mm pg l := by
  obtain ⟨cs, k1, k2⟩ := h.tab
  refine ⟨⟨cs, h0.trans k1, k2⟩, h.none_, fun i g hi hg => ?_, h.one, h.off⟩
  obtain ⟨cs, j1, j2⟩ := h.some_ i g hi hg
  exact ⟨cs, (h1 i g hi hg).trans j1, j2⟩
theorem MemR.lt {mm : Nat} {l : List Int} (h : MemR w mm pg l) {i g : Nat} (hi : i < 128) (hg : pg i = some g) : g < w.heap.size := by
  obtain ⟨cs, j1, _⟩ := h.some_ i g hi hg
  exact lt_of_block j1
/-- Where memory is but made, all stands. -/
theorem St.go (h : St x E wk w w' m ad buf back pg) (hb : Below w'.heap.size w' w2) : St x E wk w w2 m ad buf back pg := by
  obtain ⟨cs, h1, h2⟩ := h.mach
  obtain ⟨ls, h3, h4⟩ := h.list
  have hz : x.Z ≤ w'.heap.size := Nat.le_trans h.ok.zb (Nat.le_of_lt h.lm)
  exact ⟨h.ok, h.below.trans (hb.mono hz), Nat.le_trans h.size hb.size, ⟨cs, (hb.block _ h.lm).trans h1, h2⟩, h.words, h.wz, ⟨ls, (hb.block _ h.llb).trans h3, h4⟩, h.mem.same (hb.block _ h.lmm) (fun i g hi hg => hb.block _ (h.mem.lt hi hg)),
    own_same h.backR (fun b hb2 => hb.block b (h.backR.lt b hb2).2), own_same h.bufR (fun b hb2 => hb.block b (h.bufR.lt b hb2).2), h.ads, h.bb, h.pz, h.nul, (hb.block _ h.lpb).trans h.box, h.pzb⟩
theorem St.drew (h : St x E wk w w' m ad buf back pg) : St x E wk w w'.drew m ad buf back pg := h.go (Below.refl _ _).drew
theorem St.alloc (h : St x E wk w w' m ad buf back pg) (o : Obj) : St x E wk w (w'.alloc o) m ad buf back pg := h.go (below_one w' o)
/-- A cell of the machine is turned. -/
theorem St.set {m' : M} {ad' : Value} (h : St x E wk w w' m ad buf back pg) (k : Nat) (u : Value) (hk : cellOf (x.mv E wk m' ad' buf back) k = u) (ho : ∀ j, j < 48 → j ≠ k → cellOf (x.mv E wk m' ad' buf back) j = cellOf (x.mv E wk m ad buf back) j)
    (h1 : m'.mem = m.mem) (h2 : m'.calls = m.calls) (h3 : m'.bytes = m.bytes) (h4 : ad' = .pointer none ∨ ad' = .pointer (some ⟨x.bm, 16, none⟩)) : St x E wk w (w'.setCell ⟨x.bm, k, none⟩ u) m' ad' buf back pg := by
  obtain ⟨cs, k1, k2⟩ := h.mach
  obtain ⟨ls, k3, k4⟩ := h.list
  have hne : ∀ b, b ≠ x.bm → (w'.setCell ⟨x.bm, k, none⟩ u).heap[b]? = w'.heap[b]? := fun b hb => heap_setCell_other w' ⟨x.bm, k, none⟩ b u hb
  refine ⟨h.ok, h.below.setCell (p := ⟨x.bm, k, none⟩) h.ok.zb u, by simpa using h.size, ⟨_, heap_setCell_same w' x.bm k _ _ u k1, k2.put k u hk ho⟩, h.words, h.wz, ⟨ls, (hne _ h.ok.bl.symm).trans k3, k4⟩, ?_, ?_, ?_, h4, h.bb, h.pz, fun e => h.nul (by rw [← h3]; exact e), (hne _ h.ok.pb).trans h.box, h.pzb⟩
  · rw [h1]; exact h.mem.same (hne _ h.ok.bm.symm) (fun i g hi hg => hne g (h.pz i g hi hg).2.1)
  · rw [h2]; exact own_same h.backR (fun b hb => hne b (by have := (h.backR.lt b hb).1; have := h.ok.bn; omega))
  · rw [h3]; exact own_same h.bufR (fun b hb => hne b (by have := (h.bufR.lt b hb).1; have := h.ok.bn; omega))
theorem St.setPlace (h : St x E wk w w' m ad buf back pg) (p : Int) : St x E wk w (w'.setCell ⟨x.bm, 19, none⟩ (.int .i64 p)) { m with place := p } ad buf back pg :=
  h.set 19 _ rfl (fun j hj hn => by unfold cellOf Fz.mv; simp only [hn, if_false]) rfl rfl rfl h.ads
theorem St.setSteps (h : St x E wk w w' m ad buf back pg) (n : Nat) : St x E wk w (w'.setCell ⟨x.bm, 20, none⟩ (.int .i64 n)) { m with steps := n } ad buf back pg :=
  h.set 20 _ rfl (fun j hj hn => by unfold cellOf Fz.mv; simp only [hn, if_false]) rfl rfl rfl h.ads
theorem St.setStop (h : St x E wk w w' m ad buf back pg) (n : Int) : St x E wk w (w'.setCell ⟨x.bm, 21, none⟩ (.int .i64 n)) { m with stop := n } ad buf back pg :=
  h.set 21 _ rfl (fun j hj hn => by unfold cellOf Fz.mv; simp only [hn, if_false]) rfl rfl rfl h.ads
theorem St.setCode (h : St x E wk w w' m ad buf back pg) (n : Int) : St x E wk w (w'.setCell ⟨x.bm, 22, none⟩ (.int .u32 n)) { m with code := n } ad buf back pg :=
  h.set 22 _ rfl (fun j hj hn => by unfold cellOf Fz.mv; simp only [hn, if_false]) rfl rfl rfl h.ads
theorem St.setIn (h : St x E wk w w' m ad buf back pg) (n : Nat) : St x E wk w (w'.setCell ⟨x.bm, 15, none⟩ (.string ⟨(E.input.drop n).toArray⟩)) { m with at_ := n } ad buf back pg :=
  h.set 15 _ rfl (fun j hj hn => by unfold cellOf Fz.mv; simp only [hn, if_false]) rfl rfl rfl h.ads
theorem St.setAd (h : St x E wk w w' m ad buf back pg) : St x E wk w (w'.setCell ⟨x.bm, 16, none⟩ (.pointer (some ⟨x.bm, 16, none⟩))) m (.pointer (some ⟨x.bm, 16, none⟩)) buf back pg :=
  h.set 16 _ rfl (fun j hj hn => by unfold cellOf Fz.mv; simp only [hn, if_false]) rfl rfl rfl (.inr rfl)
/-- A register is turned. -/
theorem St.setR (h : St x E wk w w' m ad buf back pg) {a : Nat} (ha : a < 12) (hr : m.r.length = 12) (v : Int) : St x E wk w (w'.setCell ⟨x.bm, 2 + a, none⟩ (.int .u32 v)) (setR m (a : Int) v) ad buf back pg := by
  refine h.set (2 + a) _ ?_ (fun j hj hn => ?_) rfl rfl rfl h.ads
  · rw [cellOf_reg _ ha]
    show Value.int .u32 ((m.r.set (a : Int).toNat v).getD a 0) = _
    rw [Int.toNat_natCast, List.getD_eq_getElem?_getD, List.getElem?_set_self (by omega)]; rfl
  · unfold cellOf
    by_cases e0 : j = 0
    · rw [if_pos e0, if_pos e0]; rfl
    by_cases e1 : j = 1
    · rw [if_neg e0, if_neg e0, if_pos e1, if_pos e1]; rfl
    by_cases e2 : j < 14
    · rw [if_neg e0, if_neg e0, if_neg e1, if_neg e1, if_pos e2, if_pos e2]
      show Value.int .u32 ((m.r.set (a : Int).toNat v).getD (j - 2) 0) = .int .u32 (m.r.getD (j - 2) 0)
      rw [Int.toNat_natCast, List.getD_eq_getElem?_getD, List.getElem?_set_ne (by omega), ← List.getD_eq_getElem?_getD]
    · rw [if_neg e0, if_neg e0, if_neg e1, if_neg e1, if_neg e2, if_neg e2]; rfl
end
end Go.Proofs.YtopceggmdieppaaDoor.Emu
namespace Go.Proofs.YtopceggmdieppaaDoor.Emu
open Go.RowKit Go.Proofs.YtopceggmdieppaaDoor.Enc Go.Proofs.YtopceggmdieppaaDoor.Graph

/-- What is thrown. -/
abbrev thrown (n : Int) : Ending := .panicked [{ v := .iface 142 (.int .u32 n), recovered := false }]
section
variable {x : Fz} {E : Env} {wk : Nat → Value} {w w' : World} {m : M} {ad buf back : Value} {pg : Nat → Option Nat}
set_option maxHeartbeats 4000000 in
set_option maxRecDepth 100000 in
theorem halt_prog (h : St x E wk w w' m ad buf back pg) (s c : Int) :
    Calls Tryd.prog 68 #[.pointer (some ⟨x.bm, 0, none⟩), .int .i64 s, .int .u32 c] w' fun e w2 => e = .returned (.tuple #[]) ∧ St x E wk w w2 { m with stop := s, code := c } ad buf back pg := by
  have H0 := Lib.hid h
  have H1 := Lib.hid (h.setStop s)
  obtain ⟨c21, f21⟩ := h.cell (k := 21) (by decide)
  obtain ⟨c22, f22⟩ := h.cell (k := 22) (by decide)
  change _ = some (Value.int .i64 m.stop) at c21
  change _ = some (Value.int .u32 m.code) at c22
  clear h
  go_enter Tryd.func68, Tryd.ntmps68
  go_wp2
  go_end0
  exact ⟨rfl, H1.out.setCode c⟩
set_option maxHeartbeats 4000000 in
set_option maxRecDepth 100000 in
theorem stands_prog (h : St x E wk w w' m ad buf back pg) (hE : E.words.length ≤ 65536) (p : Int) (_hp : 0 ≤ p ∧ p < 18446744073709551616) :
    Calls Tryd.prog 116 #[.pointer (some ⟨x.bm, 0, none⟩), .int .u64 p] w' fun e w2 => e = .returned (.bool (decide (p < E.words.length))) ∧ w2 = w' := by
  obtain ⟨c0, f0⟩ := h.cell (k := 0) (by decide)
  change _ = some x.vw at c0
  have hw := h.words
  obtain ⟨p0, n0, k0, hvw, hn⟩ : ∃ p0 n0 k0, x.vw = .slice p0 n0 k0 ∧ n0 = E.words.length := by
    rcases hw with ⟨h1, pp, cc, h2⟩ | ⟨b, o, cc, h2, _⟩
    · exact ⟨pp, _, cc, h2, h1.symm⟩
    · exact ⟨_, _, cc, h2, rfl⟩
  rw [hvw] at c0
  clear h hw hvw
  subst hn
  have i0 : ((E.words.length : Nat) : Int) % 18446744073709551616 = E.words.length := by omega
  go_enter Tryd.func116, Tryd.ntmps116
  go_wp2
  go_ret
  exact ⟨rfl, rfl⟩
/-- The word at a place, or the trap. -/
def WordPost (E : Env) (p : Int) (w : World) (e : Ending) (w' : World) : Prop :=
  (p < E.words.length → e = .returned (.int .u32 (E.words.getD p.toNat 0))) ∧ (¬ p < E.words.length → e = thrown 5) ∧ w' = w
set_option maxHeartbeats 4000000 in
set_option maxRecDepth 100000 in
theorem word_prog (h : St x E wk w w' m ad buf back pg) (hE : E.words.length ≤ 65536) (p : Int) (hp : 0 ≤ p ∧ p < 18446744073709551616) :
    Calls Tryd.prog 126 #[.pointer (some ⟨x.bm, 0, none⟩), .int .u64 p] w' (WordPost E p w') := by
  have HS := Lib.hid (stands_prog h hE p hp)
  obtain ⟨c0, f0⟩ := h.cell (k := 0) (by decide)
  change _ = some x.vw at c0
  have hw := h.wds
  by_cases hlt : p < E.words.length
  · obtain ⟨b, o, c, hvw, hc, hb, hat⟩ := SlR.form2 hw (by omega)
    have hx : E.words[p.toNat]? = some (E.words.getD p.toNat 0) := by
      rw [List.getD_eq_getElem?_getD, List.getElem?_eq_getElem (by omega)]; rfl
    have cw := hat p.toNat (by omega) _ hx
    rw [Nat.mul_one] at cw
    rw [hvw] at c0
    have i0 : (decide (p < (E.words.length : Int))) = true := by simp [hlt]
    rw [i0] at HS
    have HP := Lib.hid (show ∀ e w2, (e = Ending.returned (.int .u32 (E.words.getD p.toNat 0)) ∧ w2 = w') → WordPost E p w' e w2 from fun e w2 he => ⟨fun _ => he.1, fun hn => absurd hlt hn, he.2⟩)
    have i1 := hp.1
    generalize E.words.getD p.toNat 0 = u at *
    clear h hw hvw hat hx
    refine Calls.mono ?_ HP.out
    go_enter Tryd.func126, Tryd.ntmps126
    go_wp2_with (go_at_call 116; refine HS.out.mono ?_; rintro e w1 ⟨rfl, rfl⟩)
    go_ret
    exact ⟨rfl, rfl⟩
  · have i0 : (decide (p < (E.words.length : Int))) = false := by simp [hlt]
    rw [i0] at HS
    have HP := Lib.hid (show ∀ e w2, (e = thrown 5 ∧ w2 = w') → WordPost E p w' e w2 from fun e w2 he => ⟨fun hn => absurd hn hlt, fun _ => he.1, he.2⟩)
    clear h hw hlt
    refine Calls.mono ?_ HP.out
    go_enter Tryd.func126, Tryd.ntmps126
    go_wp2_with (go_at_call 116; refine HS.out.mono ?_; rintro e w1 ⟨rfl, rfl⟩)
    exact ⟨rfl, rfl, rfl⟩
end
end Go.Proofs.YtopceggmdieppaaDoor.Emu
namespace Go.Proofs.YtopceggmdieppaaDoor.Emu
open Go.RowKit Go.Proofs.YtopceggmdieppaaDoor.Enc Go.Proofs.YtopceggmdieppaaDoor.Graph

section
variable {x : Fz} {E : Env} {wk : Nat → Value} {w w' : World} {m : M} {ad buf back : Value} {pg : Nat → Option Nat}
theorem drop_one (c : UInt8) (t : List UInt8) : (⟨(c :: t).toArray⟩ : ByteArray).extract 1 (t.length + 1) = ⟨t.toArray⟩ := by
  apply ByteArray.ext
  simp [ByteArray.data_extract]
def u64 (p : Int) : Int := p % 18446744073709551616
theorem u64_lt {p : Int} {n : Nat} (hn : n ≤ 65536) (hp : -9223372036854775808 ≤ p ∧ p < 9223372036854775807) : u64 p < n ↔ 0 ≤ p ∧ p < n := by
  unfold u64; omega
/-- The word behind: read, and the place goes on; or the trap, and nothing has changed. -/
def BehindPost (x : Fz) (E : Env) (wk : Nat → Value) (w w' : World) (m : M) (ad buf back : Value) (pg : Nat → Option Nat) (e : Ending) (w2 : World) : Prop :=
  ((0 ≤ m.place ∧ m.place < E.words.length) ∧ e = .returned (.int .u32 (E.words.getD m.place.toNat 0)) ∧ St x E wk w w2 { m with place := m.place + 1 } ad buf back pg) ∨
  (¬ (0 ≤ m.place ∧ m.place < E.words.length) ∧ e = thrown 5 ∧ w2 = w')
set_option maxHeartbeats 4000000 in
set_option maxRecDepth 100000 in
theorem behind_prog (h : St x E wk w w' m ad buf back pg) (hE : E.words.length ≤ 65536) (hp : -4611686018427387904 ≤ m.place ∧ m.place < 4611686018427387904) :
    Calls Tryd.prog 108 #[.pointer (some ⟨x.bm, 0, none⟩)] w' (BehindPost x E wk w w' m ad buf back pg) := by
  have HW := Lib.hid (word_prog h hE (u64 m.place) (by unfold u64; omega))
  have hu := u64_lt hE ⟨by omega, by omega⟩ (p := m.place)
  obtain ⟨c19, f19⟩ := h.cell (k := 19) (by decide)
  change _ = some (Value.int .i64 m.place) at c19
  have H2 := Lib.hid (h.setPlace (m.place + 1))
  by_cases hlt : 0 ≤ m.place ∧ m.place < E.words.length
  · have h5 : u64 m.place = m.place := by unfold u64; omega
    have h6 : IntKind.i64.wrap (m.place + 1) = m.place + 1 := by rw [IntKind.wrap_i64]; omega
    have HP := Lib.hid (show ∀ e w2, (e = Ending.returned (.int .u32 (E.words.getD m.place.toNat 0)) ∧ w2 = w'.setCell ⟨x.bm, 19, none⟩ (.int .i64 (m.place + 1))) → BehindPost x E wk w w' m ad buf back pg e w2 from fun e w2 he => .inl ⟨hlt, he.1, by rw [he.2]; exact H2.out⟩)
    have HQ := Lib.hid (show ∀ e w2, WordPost E (u64 m.place) w' e w2 → e = Ending.returned (.int .u32 (E.words.getD m.place.toNat 0)) ∧ w2 = w' from fun e w2 he => ⟨by have := he.1 (hu.2 hlt); rw [h5] at this; exact this, he.2.2⟩)
    have i0 : u64 m.place = m.place % 18446744073709551616 := rfl
    rw [i0] at HW HQ
    generalize E.words.getD m.place.toNat 0 = u at *
    generalize m.place = p at *
    clear h hu h5 i0 hlt
    refine Calls.mono ?_ HP.out
    go_enter Tryd.func108, Tryd.ntmps108
    go_wp2_with (go_at_call 126; refine HW.out.mono ?_; intro e w1 hw1; obtain ⟨rfl, rfl⟩ := HQ.out e w1 hw1)
    go_ret
    exact ⟨rfl, rfl⟩
  · have HP := Lib.hid (show ∀ e w2, (e = thrown 5 ∧ w2 = w') → BehindPost x E wk w w' m ad buf back pg e w2 from fun e w2 he => .inr ⟨hlt, he.1, he.2⟩)
    have HQ := Lib.hid (show ∀ e w2, WordPost E (u64 m.place) w' e w2 → e = thrown 5 ∧ w2 = w' from fun e w2 he => ⟨he.2.1 (fun h => hlt (hu.1 h)), he.2.2⟩)
    have i0 : u64 m.place = m.place % 18446744073709551616 := rfl
    rw [i0] at HW HQ
    generalize m.place = p at *
    clear h hu i0 hlt
    refine Calls.mono ?_ HP.out
    go_enter Tryd.func108, Tryd.ntmps108
    go_wp2_with (go_at_call 126; refine HW.out.mono ?_; intro e w1 hw1; obtain ⟨rfl, rfl⟩ := HQ.out e w1 hw1)
    exact ⟨rfl, rfl, rfl⟩
set_option maxHeartbeats 4000000 in
set_option maxRecDepth 100000 in
theorem getc_prog (h : St x E wk w w' m ad buf back pg) (hl : E.input.length ≤ 10000) :
    Calls Tryd.prog 111 #[.pointer (some ⟨x.bm, 0, none⟩)] w' fun e w2 =>
      match E.input[m.at_]? with
      | none => e = .returned (.int .u32 4294967295) ∧ w2 = w'
      | some c => e = .returned (.int .u32 c.toNat) ∧ St x E wk w w2 { m with at_ := m.at_ + 1 } ad buf back pg := by
  obtain ⟨c15, f15⟩ := h.cell (k := 15) (by decide)
  change _ = some (Value.string ⟨(E.input.drop m.at_).toArray⟩) at c15
  have H2 := Lib.hid (h.setIn (m.at_ + 1))
  cases hin : E.input[m.at_]? with
  | none =>
    have e0 : E.input.drop m.at_ = [] := by
      rw [List.getElem?_eq_none_iff] at hin
      exact List.drop_eq_nil_of_le hin
    rw [e0] at c15
    clear h hin H2
    go_enter Tryd.func111, Tryd.ntmps111
    go_wp2
    go_ret
    exact ⟨rfl, rfl⟩
  | some c =>
    obtain ⟨t, ht⟩ : ∃ t, E.input.drop m.at_ = c :: t ∧ E.input.drop (m.at_ + 1) = t := by
      obtain ⟨hl, rfl⟩ := List.getElem?_eq_some_iff.1 hin
      exact ⟨_, List.drop_eq_getElem_cons hl, rfl⟩
    have htl : t.length ≤ 10000 := by rw [← ht.2, List.length_drop]; omega
    rw [ht.1] at c15
    rw [ht.2] at H2
    clear h hin ht
    go_enter Tryd.func111, Tryd.ntmps111
    go_wp2
    go_ret
    refine ⟨congrArg (fun z => Ending.returned (.int .u32 z)) (show ((c.toNat : Nat) : Int) % 4294967296 = c.toNat from by have := c.toNat_lt; omega), ?_⟩
    rw [drop_one c t]
    exact H2.out
end
end Go.Proofs.YtopceggmdieppaaDoor.Emu
namespace Go.Proofs.YtopceggmdieppaaDoor.Emu
open Go.RowKit Go.Proofs.YtopceggmdieppaaDoor.Enc Go.Proofs.YtopceggmdieppaaDoor.Graph

def isZ : Value → Bool
  | .int .u32 n => n == 0
  | _ => false
theorem isZ_eq {v : Value} (h : isZ v = true) : v = .int .u32 0 := by
  unfold isZ at h
  split at h
  · rw [eq_of_beq h]
  · cases h
theorem zero_all : Tryd.zeroCells136.toList.all isZ = true := by kernel_rfl
theorem zero_page {j : Nat} (hj : j < 4096) : Tryd.zeroCells136[j]? = some (.int .u32 0) := by
  have h1 : j < Tryd.zeroCells136.size := by rw [Tryd.zeroCells136_size]; exact hj
  rw [Array.getElem?_eq_getElem h1, isZ_eq (List.all_eq_true.1 zero_all _ (Array.getElem_mem_toList h1))]
section
variable {x : Fz} {E : Env} {wk : Nat → Value} {w w' : World} {m : M} {ad buf back : Value} {pg : Nat → Option Nat}
def LoadPost (l : List Int) (a : Int) (w : World) (e : Ending) (w2 : World) : Prop :=
  (a < 524288 → e = .returned (.int .u32 (l.getD a.toNat 0))) ∧ (¬ a < 524288 → e = thrown 6) ∧ w2 = w
set_option maxHeartbeats 4000000 in
set_option maxRecDepth 100000 in
theorem load_prog {mm : Nat} {l : List Int} (h : MemR w mm pg l) (a : Int) (h0 : 0 ≤ a) :
    Calls Tryd.prog 109 #[.pointer (some ⟨mm, 0, none⟩), .int .u32 a] w (LoadPost l a w) := by
  by_cases hlt : a < 524288
  · have hi : (a / 4096).toNat < 128 := by omega
    have hj : (a % 4096).toNat < 4096 := by omega
    have he : 4096 * (a / 4096).toNat + (a % 4096).toNat = a.toNat := by omega
    obtain ⟨cs, k1, k2, k3⟩ := h.tab
    have c1 := (cell_of_block k1 (k3 _ hi)).1
    have HP := Lib.hid (show ∀ e w2, (e = Ending.returned (.int .u32 (l.getD a.toNat 0)) ∧ w2 = w) → LoadPost l a w e w2 from fun e w2 he => ⟨fun _ => he.1, fun hn => absurd hlt hn, he.2⟩)
    have i2 : 0 ≤ a / 4096 := by omega
    have i3 : a / 4096 < 128 := by omega
    have i4 : 0 ≤ a % 4096 := by omega
    have i5 : a % 4096 < 4096 := by omega
    cases hpg : pg (a / 4096).toNat with
    | none =>
      have hv := h.none_ _ hi hpg _ hj
      rw [he] at hv
      rw [hv] at HP
      rw [hpg] at c1
      simp only [Option.map_none] at c1
      clear h hv k1 k2 k3 hpg he hi hj
      refine Calls.mono ?_ HP.out
      go_enter Tryd.func109, Tryd.ntmps109
      go_wp2
      go_ret
      exact ⟨rfl, rfl⟩
    | some g =>
      obtain ⟨cs2, j1, j2, j3⟩ := h.some_ _ g hi hpg
      have c2 := (cell_of_block j1 (j3 _ hj)).1
      rw [he] at c2
      rw [hpg] at c1
      simp only [Option.map_some] at c1
      generalize l.getD a.toNat 0 = u at *
      clear h k1 k2 k3 j1 j2 j3 hpg he hi hj
      refine Calls.mono ?_ HP.out
      go_enter Tryd.func109, Tryd.ntmps109
      go_wp2
      go_ret
      exact ⟨rfl, rfl⟩
  · have HP := Lib.hid (show ∀ e w2, (e = thrown 6 ∧ w2 = w) → LoadPost l a w e w2 from fun e w2 he => ⟨fun hn => absurd hn hlt, fun _ => he.1, he.2⟩)
    clear h
    refine Calls.mono ?_ HP.out
    go_enter Tryd.func109, Tryd.ntmps109
    go_wp2
    exact ⟨rfl, rfl, rfl⟩
/-- A word stored into a page that is there. -/
theorem St.hit (h : St x E wk w w' m ad buf back pg) {i j g : Nat} (hi : i < 128) (hj : j < 4096) (hpg : pg i = some g) (hl : m.mem.length = 524288) (v : Int) :
    St x E wk w (w'.setCell ⟨g, j, none⟩ (.int .u32 v)) { m with mem := m.mem.set (4096 * i + j) v } ad buf back pg := by
  obtain ⟨p1, p2, p3, p4, p5⟩ := h.pz i g hi hpg
  obtain ⟨cs, k1, k2⟩ := h.mach
  obtain ⟨ls, k3, k4⟩ := h.list
  obtain ⟨ts, t1, t2⟩ := h.mem.tab
  have hne : ∀ b, b ≠ g → (w'.setCell ⟨g, j, none⟩ (.int .u32 v)).heap[b]? = w'.heap[b]? := fun b hb => heap_setCell_other w' ⟨g, j, none⟩ b _ hb
  refine ⟨h.ok, h.below.setCell (p := ⟨g, j, none⟩) p1 _, by simpa using h.size, ⟨cs, (hne _ (fun e => p2 e.symm)).trans k1, k2⟩, h.words, h.wz, ⟨ls, (hne _ (fun e => p3 e.symm)).trans k3, k4⟩, ?_,
    own_same h.backR (fun b hb => hne b (fun e => p4 (by rw [hb, e]))), own_same h.bufR (fun b hb => hne b (fun e => p5 (by rw [hb, e]))), h.ads, h.bb, h.pz, h.nul, (hne _ (fun e => h.pzb i g hi hpg e.symm)).trans h.box, h.pzb⟩
  have hlen : 4096 * i + j < m.mem.length := by rw [hl]; omega
  have hget : ∀ i' j', i' < 128 → j' < 4096 → (i' ≠ i ∨ j' ≠ j) → (m.mem.set (4096 * i + j) v).getD (4096 * i' + j') 0 = m.mem.getD (4096 * i' + j') 0 := fun i' j' h1 h2 h3 => by
    rw [List.getD_eq_getElem?_getD, List.getElem?_set_ne (by omega), ← List.getD_eq_getElem?_getD]
  refine ⟨⟨ts, (hne _ (fun e => h.mem.off i g hi hpg e.symm)).trans t1, t2⟩, fun i' hi' hn j' hj' => ?_, fun i' g' hi' hg' => ?_, h.mem.one, h.mem.off⟩
  · rw [hget i' j' hi' hj' (.inl (fun e => by rw [e, hpg] at hn; cases hn))]; exact h.mem.none_ i' hi' hn j' hj'
  · obtain ⟨cs2, j1, j2, j3⟩ := h.mem.some_ i' g' hi' hg'
    by_cases e : i' = i
    · subst e
      have e2 : g' = g := by rw [hpg] at hg'; injection hg' with e2; exact e2.symm
      subst e2
      refine ⟨_, heap_setCell_same w' g' j _ _ _ j1, by simpa using j2, fun j' hj' => ?_⟩
      by_cases e3 : j' = j
      · subst e3
        rw [Array.getElem?_setIfInBounds_self_of_lt (by omega), List.getD_eq_getElem?_getD, List.getElem?_set_self hlen]; rfl
      · rw [Array.getElem?_setIfInBounds_ne (fun e => e3 e.symm), hget i' j' hi' hj' (.inr e3)]; exact j3 j' hj'
    · refine ⟨cs2, (hne g' (fun e2 => e (h.mem.one i' i g' hi' hi hg' (by rw [e2]; exact hpg)))).trans j1, j2, fun j' hj' => ?_⟩
      rw [hget i' j' hi' hj' (.inl e)]; exact j3 j' hj'
/-- A page laid where none was. -/
theorem St.page (h : St x E wk w w' m ad buf back pg) {i : Nat} (hi : i < 128) (hpg : pg i = none) (cs : Array Value) (hc : cs.size = 4096) (hz : ∀ j, j < 4096 → cs[j]? = some (.int .u32 0)) :
    St x E wk w ((w'.alloc (.cells cs 136)).setCell ⟨x.mm, i, none⟩ (.pointer (some ⟨w'.heap.size, 0, none⟩))) m ad buf back (fun k => if k = i then some w'.heap.size else pg k) := by
  have h0 := h.lmm
  have hbk := fun b hb => (h.backR.lt b hb).2
  have hbf := fun b hb => (h.bufR.lt b hb).2
  have hA := h.alloc (.cells cs 136)
  obtain ⟨ms, k1, k2⟩ := hA.mach
  obtain ⟨ls, k3, k4⟩ := hA.list
  obtain ⟨ts, t1, t2, t3⟩ := hA.mem.tab
  have hnew : (w'.alloc (.cells cs 136)).heap[w'.heap.size]? = some (.cells cs 136 (0, 0)) := heap_alloc_new w' _
  have hN : x.N ≤ w'.heap.size := h.size
  have hmm : x.mm ≠ w'.heap.size := Nat.ne_of_lt h0
  generalize hW : w'.alloc (.cells cs 136) = W at *
  have hne : ∀ b, b ≠ x.mm → (W.setCell ⟨x.mm, i, none⟩ (.pointer (some ⟨w'.heap.size, 0, none⟩))).heap[b]? = W.heap[b]? := fun b hb => heap_setCell_other W ⟨x.mm, i, none⟩ b _ hb
  have hlt : ∀ i' g, i' < 128 → pg i' = some g → g < w'.heap.size := fun i' g a b => h.mem.lt a b
  refine ⟨h.ok, hA.below.setCell (p := ⟨x.mm, i, none⟩) h.ok.zm _, by simpa using hA.size, ⟨ms, (hne _ h.ok.bm).trans k1, k2⟩, h.words, h.wz, ⟨ls, (hne _ h.ok.ml.symm).trans k3, k4⟩, ?_,
    own_same hA.backR (fun b hb => hne b (by have := (h.backR.lt b hb).1; have := h.ok.mn; omega)), own_same hA.bufR (fun b hb => hne b (by have := (h.bufR.lt b hb).1; have := h.ok.mn; omega)), h.ads, h.bb, ?_, h.nul, (hne _ h.ok.pm).trans hA.box, fun i' g hi' hg => by
    have hpl := h.lpb
    by_cases e : i' = i
    · rw [if_pos e] at hg
      injection hg with hg
      omega
    · rw [if_neg e] at hg; exact h.pzb i' g hi' hg⟩
  · refine ⟨⟨_, heap_setCell_same W x.mm i _ _ _ t1, by simpa using t2, fun i' hi' => ?_⟩, fun i' hi' hn => ?_, fun i' g hi' hg => ?_, fun i' j' g hi' hj' hg hg2 => ?_, fun i' g hi' hg => ?_⟩
    · by_cases e : i' = i
      · subst e; rw [Array.getElem?_setIfInBounds_self_of_lt (by omega), if_pos rfl]; rfl
      · rw [Array.getElem?_setIfInBounds_ne (fun e' => e e'.symm), if_neg e]; exact t3 i' hi'
    · by_cases e : i' = i
      · rw [if_pos e] at hn; cases hn
      · rw [if_neg e] at hn; exact h.mem.none_ i' hi' hn
    · by_cases e : i' = i
      · rw [if_pos e] at hg
        injection hg with hg
        subst hg e
        exact ⟨cs, (hne _ hmm.symm).trans hnew, hc, fun j hj => by rw [h.mem.none_ i' hi hpg j hj]; exact hz j hj⟩
      · rw [if_neg e] at hg
        obtain ⟨cs2, j1, j2, j3⟩ := hA.mem.some_ i' g hi' hg
        exact ⟨cs2, (hne _ (h.mem.off i' g hi' hg)).trans j1, j2, j3⟩
    · by_cases e : i' = i
      · by_cases e2 : j' = i
        · rw [e, e2]
        · rw [if_pos e] at hg
          rw [if_neg e2] at hg2
          injection hg with hg
          have := hlt j' g hj' hg2; omega
      · by_cases e2 : j' = i
        · rw [if_neg e] at hg
          rw [if_pos e2] at hg2
          injection hg2 with hg2
          have := hlt i' g hi' hg; omega
        · rw [if_neg e] at hg
          rw [if_neg e2] at hg2
          exact h.mem.one i' j' g hi' hj' hg hg2
    · by_cases e : i' = i
      · rw [if_pos e] at hg
        injection hg with hg
        omega
      · rw [if_neg e] at hg; exact h.mem.off i' g hi' hg
  · intro i' g hi' hg
    by_cases e : i' = i
    · rw [if_pos e] at hg
      injection hg with hg
      have a1 := h.ok.zb; have a2 := h.ok.bn; have a3 := h.ok.ln
      refine ⟨by omega, by omega, by omega, fun e2 => ?_, fun e2 => ?_⟩
      · have := hbk g e2; omega
      · have := hbf g e2; omega
    · rw [if_neg e] at hg; exact h.pz i' g hi' hg
def StorePost (x : Fz) (E : Env) (wk : Nat → Value) (w w' : World) (m : M) (ad buf back : Value) (_pg : Nat → Option Nat) (a v : Int) (e : Ending) (w2 : World) : Prop :=
  (a < 524288 → e = .returned (.tuple #[]) ∧ ∃ pg', St x E wk w w2 { m with mem := m.mem.set a.toNat v } ad buf back pg') ∧ (¬ a < 524288 → e = thrown 6 ∧ w2 = w')
set_option maxHeartbeats 4000000 in
set_option maxRecDepth 100000 in
theorem store_prog (h : St x E wk w w' m ad buf back pg) (hl : m.mem.length = 524288) (a v : Int) (h0 : 0 ≤ a) :
    Calls Tryd.prog 110 #[.pointer (some ⟨x.mm, 0, none⟩), .int .u32 a, .int .u32 v] w' (StorePost x E wk w w' m ad buf back pg a v) := by
  by_cases hlt : a < 524288
  · have hi : (a / 4096).toNat < 128 := by omega
    have hj : (a % 4096).toNat < 4096 := by omega
    have he : 4096 * (a / 4096).toNat + (a % 4096).toNat = a.toNat := by omega
    obtain ⟨cs, k1, k2, k3⟩ := h.mem.tab
    have c1 := cell_of_block k1 (k3 _ hi)
    have HP := Lib.hid (show ∀ e w2, (e = Ending.returned (.tuple #[]) ∧ ∃ pg', St x E wk w w2 { m with mem := m.mem.set a.toNat v } ad buf back pg') → StorePost x E wk w w' m ad buf back pg a v e w2 from fun e w2 he => ⟨fun _ => he, fun hn => absurd hlt hn⟩)
    have i2 : 0 ≤ a / 4096 := by omega
    have i3 : a / 4096 < 128 := by omega
    have i4 : 0 ≤ a % 4096 := by omega
    have i5 : a % 4096 < 4096 := by omega
    cases hpg : pg (a / 4096).toNat with
    | none =>
      rw [hpg] at c1
      simp only [Option.map_none] at c1
      obtain ⟨c1, f1⟩ := c1
      have hmm := h.lmm
      have HQ := Lib.hid (h.page hi hpg _ Tryd.zeroCells136_size (fun j hj => zero_page hj))
      rw [World.setCell_alloc_past _ _ _ _ hmm] at HQ
      clear h k1 k2 k3
      have HI := Lib.hid (And.intro hi (And.intro hj (And.intro hl he)))
      clear hi hj hpg hl he
      refine Calls.mono ?_ HP.out
      go_enter Tryd.func110, Tryd.ntmps110
      go_upto_region 5 with (fail)
      have hq := HQ.out
      obtain ⟨cs3, z1, z2, z3⟩ := hq.mem.tab
      have d1 := (cell_of_block z1 (z3 _ HI.out.1)).1
      rw [if_pos rfl] at d1
      simp only [Option.map_some] at d1
      obtain ⟨cs4, y1, y2, y3⟩ := hq.mem.some_ _ w'.heap.size HI.out.1 (if_pos rfl)
      obtain ⟨d2, g2⟩ := cell_of_block y1 (y3 _ HI.out.2.1)
      have HF := Lib.hid (hq.hit HI.out.1 HI.out.2.1 (if_pos rfl) HI.out.2.2.1 v)
      rw [HI.out.2.2.2] at HF
      clear hq z1 z2 z3 y1 y2 y3 HQ HI c1 f1
      generalize World.alloc _ _ = W at *
      generalize w'.heap.size = g at *
      go_wp2
      go_end0
      exact ⟨rfl, _, HF.out⟩
    | some g =>
      obtain ⟨cs2, j1, j2, j3⟩ := h.mem.some_ _ g hi hpg
      have c2 := (cell_of_block j1 (j3 _ hj))
      rw [he] at c2
      rw [hpg] at c1
      simp only [Option.map_some] at c1
      obtain ⟨c1, f1⟩ := c1
      obtain ⟨c2, f2⟩ := c2
      have HS := Lib.hid (h.hit hi hj hpg hl v)
      rw [he] at HS
      clear h k1 k2 k3 j1 j2 j3 hpg he hi hj hl
      refine Calls.mono ?_ HP.out
      go_enter Tryd.func110, Tryd.ntmps110
      go_wp2
      go_end0
      exact ⟨rfl, _, HS.out⟩
  · have HP := Lib.hid (show ∀ e w2, (e = thrown 6 ∧ w2 = w') → StorePost x E wk w w' m ad buf back pg a v e w2 from fun e w2 he => ⟨fun hn => absurd hn hlt, fun _ => he⟩)
    clear h hl
    refine Calls.mono ?_ HP.out
    go_enter Tryd.func110, Tryd.ntmps110
    go_wp2
    exact ⟨rfl, rfl, rfl⟩
end
end Go.Proofs.YtopceggmdieppaaDoor.Emu
namespace Go.Proofs.YtopceggmdieppaaDoor.Emu
open Go.RowKit Go.Proofs.YtopceggmdieppaaDoor.Enc Go.Proofs.YtopceggmdieppaaDoor.Graph

theorem info_builder : (Tryd.prog.info? 94).map (fun i => i.size) = some 2 := by kernel_rfl
theorem lies_builder : liesAt Tryd.prog Tryd.prog.depth 98 (48 / Tryd.prog.cellsOf 98) 16 94 1 = true := by kernel_rfl
theorem shape_of {w : World} {b : Nat} {cs : Array Value} {t : TypeId} (h : w.heap[b]? = some (.cells cs t (0, 0))) : w.shape? b = some (t, cs.size) := by
  simp [World.shape?, h]
theorem info_byte : (Tryd.prog.info? 5).map (fun i => (i.zero, i.size, i.bytes)) = some (some (.int .u8 0), 1, 1) := by kernel_rfl
section
variable {x : Fz} {E : Env} {wk : Nat → Value} {w w' w1 w2 : World} {m : M} {ad buf back : Value} {pg : Nat → Option Nat}
set_option maxHeartbeats 2000000 in
set_option maxRecDepth 100000 in
theorem copyCheck_st (h : St x E wk w w' m ad buf back pg) :
    Calls Tryd.prog 127 #[.pointer (some ⟨x.bm, 16, none⟩)] w' fun e w2 => e = .returned (.tuple #[]) ∧ ∃ ad', St x E wk w w2 m ad' buf back pg := by
  obtain ⟨j, hj, hjs⟩ := Option.map_eq_some_iff.1 info_builder
  have h2 := h.ads
  have hlm := h.lm
  have hsh : w'.shape? x.bm = some (98, 48) := by
    obtain ⟨cs, k1, k2⟩ := h.mach
    rw [← k2.size]; exact shape_of k1
  obtain ⟨a8, f8⟩ := h.cell (k := 16) (by decide)
  change _ = some ad at a8
  have hS := Lib.hid h
  rcases h2 with rfl | rfl
  · have HJ := Lib.hid hj
    have HJS := Lib.hid hjs
    have HSH := Lib.hid hsh
    clear h hj hjs hsh
    go_enter Tryd.func127, Tryd.ntmps127
    go_wp2
    rw [Lib.run_to_unsafe w' ⟨x.bm, 16, none⟩ Tryd.underlying91 Tryd.underlying166 HJ.out (by rw [HJS.out]; decide) HSH.out (by show 16 < 48; decide)]
    simp only [Result.andThen]
    rw [Oper.upon_value]
    go_wp2
    rw [run_callFunc_extern Tryd.func130 (by kernel_rfl) (by kernel_rfl) (by kernel_rfl) (e := Extern.AbiNoEscape.same) (by kernel_rfl)]
    rw [Lib.run_noEscape]
    simp only [Result.andThen]
    rw [Oper.upon_value]
    go_wp2
    rw [Lib.run_from_unsafe w' ⟨x.bm, 16, none⟩ Tryd.underlying166 Tryd.underlying91 HJ.out HSH.out lies_builder]
    simp only [Result.andThen]
    rw [Oper.upon_value]
    go_wp2
    go_end0
    exact ⟨rfl, _, hS.out.setAd⟩
  · have HJ := Lib.hid hj
    clear h hj hjs hsh
    go_enter Tryd.func127, Tryd.ntmps127
    go_wp2
    rw [Lib.run_neq_ptr_same w' _ Tryd.underlying91 HJ.out]
    go_wp2
    go_end0
    exact ⟨rfl, _, hS.out⟩
/-- A row that the machine owns has grown; its cell is told. -/
theorem St.buf' (h : St x E wk w w1 m ad buf back pg) (hb : w1.grownBy w2 buf.ownBlock) {buf' : Value} {b : UInt8} (hn : w2.ownsRow x.N 5 1 buf' (m.bytes.length + 1) ((m.bytes.map fun b => .int .u8 b.toNat) ++ [.int .u8 b.toNat])) (hgn : ∀ g, buf'.ownBlock = some g → buf.ownBlock = some g ∨ w1.heap.size ≤ g) :
    St x E wk w (w2.setCell ⟨x.bm, 17, none⟩ buf') { m with bytes := m.bytes ++ [b] } ad buf' back pg := by
  obtain ⟨cs, k1, k2⟩ := h.mach
  obtain ⟨ls, k3, k4⟩ := h.list
  have hnb : ∀ b, b < x.N → some b ≠ buf.ownBlock := fun b hb e => by have := (h.bufR.lt b e.symm).1; omega
  have hz : x.Z ≤ w1.heap.size := Nat.le_trans h.ok.zb (Nat.le_of_lt h.lm)
  have hzN : x.Z ≤ x.N := Nat.le_trans h.ok.zb (Nat.le_of_lt h.ok.bn)
  have hsz := hb.size
  have hne : ∀ b, b ≠ x.bm → (w2.setCell ⟨x.bm, 17, none⟩ buf').heap[b]? = w2.heap[b]? := fun b hb => heap_setCell_other w2 ⟨x.bm, 17, none⟩ b buf' hb
  have hlt : ∀ g, buf'.ownBlock = some g → x.N ≤ g := fun g hg => (hn.lt g hg).1
  refine ⟨h.ok, (h.below.grown hb hz (fun k hk => Nat.le_trans hzN (h.bufR.lt k hk).1)).setCell (p := ⟨x.bm, 17, none⟩) h.ok.zb _, by simpa using Nat.le_trans h.size hsz, ⟨_, heap_setCell_same w2 x.bm 17 _ _ _ ((hb.block x.bm h.lm (hnb _ h.ok.bn)).trans k1), k2.put 17 _ rfl (fun j hj hn => by unfold cellOf Fz.mv; simp only [hn, if_false])⟩, h.words, h.wz,
    ⟨ls, (hne _ h.ok.bl.symm).trans ((hb.block x.lb h.llb (hnb _ h.ok.ln)).trans k3), k4⟩, ?_, ?_, ?_, h.ads, ?_, ?_, fun e => by simp at e, (hne _ h.ok.pb).trans ((hb.block x.pb h.lpb (hnb _ h.ok.pn)).trans h.box), h.pzb⟩
  · refine h.mem.same ((hne _ h.ok.bm.symm).trans (hb.block x.mm h.lmm (hnb _ h.ok.mn))) (fun i g hi hg => (hne g (h.pz i g hi hg).2.1).trans (hb.block g (h.mem.lt hi hg) (fun e => (h.pz i g hi hg).2.2.2.2 e.symm)))
  · refine own_same h.backR (fun b hb2 => (hne b (by have := (h.backR.lt b hb2).1; have := h.ok.bn; omega)).trans (hb.block b (h.backR.lt b hb2).2 (fun e => h.bb b hb2 e.symm)))
  · show World.ownsRow _ x.N _ 1 buf' (m.bytes ++ [b]).length ((m.bytes ++ [b]).map _)
    rw [List.length_append, List.map_append]
    exact own_same hn (fun b hb2 => hne b (by have := hlt b hb2; have := h.ok.bn; omega))
  · intro g hg hg2
    rcases hgn g hg2 with h1 | h1
    · exact h.bb g hg h1
    · have := (h.backR.lt g hg).2; omega
  · intro i g hi hg
    obtain ⟨p1, p2, p3, p4, p5⟩ := h.pz i g hi hg
    refine ⟨p1, p2, p3, p4, fun e => ?_⟩
    rcases hgn g e with h1 | h1
    · exact p5 h1
    · have := h.mem.lt hi hg; omega
set_option maxHeartbeats 4000000 in
set_option maxRecDepth 100000 in
theorem writeByte_st (h : St x E wk w w' m ad buf back pg) (hl : m.bytes.length ≤ 1073741824) (b : UInt8) :
    Calls Tryd.prog 112 #[.pointer (some ⟨x.bm, 16, none⟩), .int .u8 b.toNat] w' fun e w2 => e = .returned .nilIface ∧ ∃ ad' buf', St x E wk w w2 { m with bytes := m.bytes ++ [b] } ad' buf' back pg := by
  obtain ⟨i0, hi, hz0, hz1, hz2⟩ := info_parts info_byte
  have HI := Lib.hid (And.intro hi (And.intro hz0 (And.intro hz1 hz2)))
  have hS := Lib.hid h
  have HL := Lib.hid hl
  have hn0 : m.bytes.length + 1 ≤ maxLen := by unfold maxLen; omega
  have hn1 : (m.bytes.length + 1) * 1 ≤ 140737488355328 := by omega
  have HN := Lib.hid (And.intro hn0 hn1)
  clear h hi hz0 hz1 hz2 hl hn0 hn1
  go_enter Tryd.func112, Tryd.ntmps112
  go_wp2_with (first
    | (have hlater := hS1
       (refine wpList_append_lies _ (by rfl) _ _ 92 (by rfl) x.N 5 i0 _ 1 1 Tryd.underlying92 HI.out.1 HI.out.2.1 HI.out.2.2.1 HI.out.2.2.2 rfl (by omega) _ m.bytes.length _ (by rfl) (hS1.out.bufR.alloc _) ⟨w1.heap.size, 0, none⟩ 1 1 [.int .u8 b.toNat] (by rfl) rfl (by intro j u hj; match j, hj with | 0, hj => simp at hj; subst hj; simp [Addr.add]) (by simp [Value.oneCell']) (by omega) HN.out.1 HN.out.2 (by have := hS1.out.size; simp; omega) _ rfl ?_))
    | (go_at_call 127; refine (copyCheck_st hS.out).mono ?_; rintro e w1 ⟨rfl, ad1, h1⟩; have hS1 := Lib.hid h1; obtain ⟨a17, f17⟩ := h1.cell (k := 17) (by decide); change _ = some buf at a17; have hlm := h1.lm; clear h1))
  intro g cap w2 h1 h2 h3 h4
  have hgb : w1.grownBy w2 buf.ownBlock := ⟨h2.os, h2.tape, h2.output, by have := h2.size; simp at this; omega, fun j hj hne => by rw [h2.block j (by simp; omega) hne]; exact Below.heap_alloc _ _ _ hj⟩
  have hne : some x.bm ≠ buf.ownBlock := fun e => by
    have := (hS1.out.bufR.lt _ e.symm).1
    have := hS1.out.ok.bn
    omega
  have f17' : w2.frozen? ⟨x.bm, 17, none⟩ = false := by
    unfold World.frozen? at f17 ⊢
    rw [hgb.block x.bm hlm hne]; exact f17
  have a17' : w2.cell? ⟨x.bm, 17, none⟩ = some buf := by
    unfold World.cell? at a17 ⊢
    rw [hgb.block x.bm hlm hne]; exact a17
  have HG := Lib.hid (hS1.out.buf' hgb h1 (fun g' e => by
    have e : some g = some g' := e
    injection e with e
    subst e
    rcases h3 with h3 | h3
    · exact .inl h3
    · right; rw [h3]; simp))
  clear h1 h2 h3 hgb a17 f17 hlater hne
  go_wp2
  go_ret
  exact ⟨rfl, _, _, HG.out⟩
theorem freeze_heap {w : World} {a : Addr} {n b : Nat} (h : b ≠ a.block) : (w.freeze a n).heap[b]? = w.heap[b]? := by
  unfold World.freeze
  split
  · rfl
  · simp [Array.getElem?_modify, Ne.symm h]
set_option maxHeartbeats 2000000 in
set_option maxRecDepth 100000 in
theorem string_st (h : St x E wk w w' m ad buf back pg) (hl : m.bytes.length ≤ 1073741824) :
    Calls Tryd.prog 44 #[.pointer (some ⟨x.bm, 16, none⟩)] w' fun e w2 => e = .returned (.string ⟨m.bytes.toArray⟩) ∧ Below x.Z w w2 ∧ w2.heap[x.bm]? = w'.heap[x.bm]? := by
  by_cases hb0 : m.bytes = []
  · have c17 : w'.drew.cell? ⟨x.bm, 17, none⟩ = some (.slice none 0 0) := by rw [← h.nul hb0]; exact (h.cell (k := 17) (by decide)).1
    rw [hb0]
    have hSD : ∀ w : World, (Builtin.unsafeSliceData_ #[92] 124 #[.slice none 0 0]).run Tryd.prog w = .ok (.pointer none) w := fun w => Lib.run_unsafeSliceData_nil _ _ _ _ _
    have hUS : ∀ w : World, (Builtin.unsafeString_ #[124, 3] 9 #[.pointer none, .int .i64 0]).run Tryd.prog w = .ok (.string .empty) w := fun w => Lib.run_unsafeString_none _ _ _ _ _
    have hS := Lib.hid h
    clear h hb0 hl
    go_enter Tryd.func44, Tryd.ntmps44
    go_wp2
    go_region
    all_goals
      go_wp2
      go_ret
      exact ⟨rfl, hS.out.drew.below, rfl⟩
  · obtain ⟨g, cap, cur, hv, hNg, hbg, hnc, hcm, hcs, htake⟩ : ∃ g cap cur, buf = .slice (some ⟨g, 0, none⟩) m.bytes.length cap ∧ x.N ≤ g ∧ w'.heap[g]? = some (.cells cur 5 (0, 0)) ∧ m.bytes.length ≤ cap ∧ cap ≤ maxLen ∧ cur.size = cap * 1 ∧ cur.toList.take (m.bytes.length * 1) = m.bytes.map fun b => .int .u8 b.toNat := by
      rcases h.bufR.2 with ⟨_, hz⟩ | ⟨g, cap, cur, hv, r⟩
      · exact absurd (List.length_eq_zero_iff.1 hz) hb0
      · exact ⟨g, cap, cur, hv, r⟩
    have hn0 : 0 < m.bytes.length := List.length_pos_iff.2 hb0
    have c17 : w'.drew.cell? ⟨x.bm, 17, none⟩ = some buf := (h.cell (k := 17) (by decide)).1
    have hown' : w'.drew.ownsRow x.N 5 1 buf m.bytes.length (m.bytes.map fun b => .int .u8 b.toNat) := h.bufR
    rw [hv] at c17 hown'
    have hSD : (Builtin.unsafeSliceData_ #[92] 124 #[.slice (some ⟨g, 0, none⟩) m.bytes.length cap]).run Tryd.prog w'.drew = .ok (.pointer (some ⟨g, 0, none⟩)) w'.drew :=
      Lib.run_unsafeSliceData_row _ _ _ _ _ _ (by omega)
    have hUS : (Builtin.unsafeString_ #[124, 3] 9 #[.pointer (some ⟨g, 0, none⟩), .int .i64 m.bytes.length]).run Tryd.prog w'.drew = .ok (.string ⟨m.bytes.toArray⟩) (w'.drew.freeze ⟨g, 0, none⟩ m.bytes.length) := by
      refine Lib.run_unsafeString_row (w := w'.drew) 124 3 9 5 Tryd.underlying124 (by kernel_rfl) g cur.size (by have hg' : w'.drew.heap[g]? = some (.cells cur 5 (0, 0)) := hbg; simp [World.shape?, hg']) m.bytes hb0 (by omega) (by omega) ?_
      intro j y hy
      refine hown'.cells (g := g) rfl j (.int .u8 y.toNat) ?_
      rw [List.getElem?_map, hy]; rfl
    have hMg : x.bm ≠ g := by have := h.ok.bn; omega
    have hbl : Below x.Z w (w'.drew.freeze ⟨g, 0, none⟩ m.bytes.length) := Lib.below_freeze h.drew.below (p := ⟨g, 0, none⟩) (Nat.le_trans (Nat.le_trans h.ok.zb (Nat.le_of_lt h.ok.bn)) hNg) _
    have hfr : (w'.drew.freeze ⟨g, 0, none⟩ m.bytes.length).heap[x.bm]? = w'.heap[x.bm]? := freeze_heap hMg
    have HB := Lib.hid (And.intro hbl hfr)
    generalize m.bytes.toArray = arr at *
    generalize m.bytes.length = n at *
    clear h hown' hbg hcs htake hbl hfr hb0 hv
    go_enter Tryd.func44, Tryd.ntmps44
    go_wp2
    go_region
    all_goals
      go_wp2
      go_ret
      exact ⟨rfl, HB.out.1, HB.out.2⟩
end
end Go.Proofs.YtopceggmdieppaaDoor.Emu
