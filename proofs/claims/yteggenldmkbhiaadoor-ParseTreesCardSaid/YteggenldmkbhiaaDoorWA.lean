/- The parser's small functions: what each returns, and what it leaves of memory. -/
import Derived.Test.YteggenldmkbhiaaDoorGB
import Derived.Test.YteggenldmkbhiaaDoorProg
import Derived.WalkKit
import Derived.WalkSpells
import Derived.WalkLawsBesides
import Derived.Lib.Hide
import Derived.OneCell
import Derived.RegionDies
import Derived.StillTactics
import Derived.OwnWalk
import Derived.BigQuiet
import Derived.Deep.QuietTactic
import Derived.Deep.RegionHeld3
import Derived.Deep.AppendLies
import Derived.KernelRfl
import Derived.BigFrame
import Derived.Test.YteggenldmkbhiaaDoorShelf
import Derived.Deep.RegionLaw
import Derived.Deep.LoopGhost
namespace Go.Proofs.YteggenldmkbhiaaDoor.Parse
open Go.RowKit

/-- What a parser is given: the tokens; where it lies, and where they lie. -/
structure Env where
  l : List PT
  g : Nat
  B : Nat
  tb : Nat
  cap : Nat
def Env.ok (E : Env) : Prop := E.tb < E.B ∧ E.B ≤ E.g ∧ E.l.length ≤ 4000 ∧ ∀ k, (tokAt E.l k).text.length ≤ 140737488355328 ∧ (tokAt E.l k).num ≤ 4294967295
def str (b : Bs) : Value := .string ⟨b.toArray⟩
abbrev aggP (t : PT) : Value := .agg #[.int .i64 t.kind, .int .i64 t.place, .string ⟨t.text.toArray⟩, .int .u32 t.num, .bool t.uns]
def tokV (E : Env) : Value := .slice (some ⟨E.tb, 0, none⟩) E.l.length E.cap
/-- The tokens, as they lie. -/
def TokCells (E : Env) (w : World) : Prop :=
  ∀ k, k < E.l.length → w.cell? ⟨E.tb, k * 5, none⟩ = some (.int .i64 (tokAt E.l k).kind) ∧ w.cell? ⟨E.tb, k * 5 + 1, none⟩ = some (.int .i64 (tokAt E.l k).place) ∧ w.cell? ⟨E.tb, k * 5 + 2, none⟩ = some (.string ⟨(tokAt E.l k).text.toArray⟩) ∧
    w.cell? ⟨E.tb, k * 5 + 3, none⟩ = some (.int .u32 (tokAt E.l k).num) ∧ w.cell? ⟨E.tb, k * 5 + 4, none⟩ = some (.bool (tokAt E.l k).uns)
/-- The operators' table, as it lies. -/
def opRow (p : Bs × Int × Int × Nat) : List Value := [.string ⟨p.1.toArray⟩, .int .i64 p.2.1, .int .i64 p.2.2.1, .int .i64 (p.2.2.2 : Int)]
def opCells : Array Value := (opL.flatMap opRow).toArray
def OpsAt (w : World) : Prop := ∃ t fr, w.heap[0]? = some (.cells opCells t fr)
def TokAt (E : Env) (w : World) : Prop := TokCells E w ∧ OpsAt w
/-- A list of kids. -/
def KidsAt (w : World) (B : Nat) (v : Value) (ks : List Nat) : Prop := w.ownsRow B 3 1 v ks.length (ks.map fun (k : Nat) => Value.int .i64 (k : Int))
def cellsN (n : PN) (kv : Value) : List Value := [.int .i64 n.kind, .int .i64 n.place, .int .i64 n.op, .int .i64 n.type, .int .i64 n.num, .int .i64 0, .string ⟨n.name.toArray⟩, kv]
def rowN (ns : List PN) (kvs : List Value) : List Value := (ns.zip kvs).flatMap fun p => cellsN p.1 p.2
def NodesAt (w : World) (B : Nat) (X : Nat → Prop) (v : Value) (ns : List PN) : Prop :=
  ∃ kvs : List Value, kvs.length = ns.length ∧ w.ownsRow B 34 8 v ns.length (rowN ns kvs) ∧ ∀ (i : Nat) (n : PN) (kv : Value), ns[i]? = some n → kvs[i]? = some kv → KidsAt w B kv n.kids ∧ ∀ b, kv.ownBlock = some b → ¬ X b
/-- The parser in a state, in a world. -/
def StV (E : Env) (X : Nat → Prop) (s : PS) (w : World) (v : Value) : Prop :=
  w.heap[E.g]? = some (.cells #[tokV E, .int .i64 (s.pos : Int), v] 49 (0, 0)) ∧ TokAt E w ∧ NodesAt w E.B X v s.nodes
def St (E : Env) (X : Nat → Prop) (s : PS) (w : World) : Prop := ∃ v, StV E X s w v
/-- Is a block one that the parser writes into? -/
def pish : Option Obj → Bool
  | some (.cells _ t _) => t == 49 || t == 34
  | _ => false
/-- From w to w' nothing was changed but the parser and its nodes. -/
structure Ext (B : Nat) (w w' : World) : Prop where
  os : w'.os = w.os
  tape : w'.tape = w.tape
  output : w'.output = w.output
  size : w.heap.size ≤ w'.heap.size
  block : ∀ k, k < w.heap.size → (k < B ∨ pish (w.heap[k]?) = false) → w'.heap[k]? = w.heap[k]?
theorem Ext.refl (B : Nat) (w : World) : Ext B w w := ⟨rfl, rfl, rfl, Nat.le_refl _, fun _ _ _ => rfl⟩
theorem Ext.trans {B : Nat} {a b c : World} (h : Ext B a b) (k : Ext B b c) : Ext B a c :=
  ⟨k.os.trans h.os, k.tape.trans h.tape, k.output.trans h.output, Nat.le_trans h.size k.size, fun i hi hp => by
    have h1 := h.block i hi hp
    exact (k.block i (Nat.lt_of_lt_of_le hi h.size) (by rw [h1]; exact hp)).trans h1⟩
theorem Ext.of_below {B : Nat} {w w' : World} (h : Below w.heap.size w w') : Ext B w w' := ⟨h.os, h.tape, h.output, h.size, fun k hk _ => h.block k hk⟩
theorem Ext.drew {B : Nat} {a w : World} (h : Ext B a w) : Ext B a w.drew := ⟨h.os, h.tape, h.output, h.size, h.block⟩
theorem ownsRow_ext {w w' : World} {B b : Nat} {e : TypeId} {size : Nat} {v : Value} {n : Nat} {xs : List Value} (h : w.ownsRow B e size v n xs) (hx : Ext b w w') (he : e ≠ 49 ∧ e ≠ 34) : w'.ownsRow B e size v n xs := by
  refine ⟨h.1, ?_⟩
  rcases h.2 with hn | ⟨g, cap, cur, rfl, hb, hgg, rest⟩
  · exact .inl hn
  · refine .inr ⟨g, cap, cur, rfl, hb, ?_, rest⟩
    rw [hx.block g (Array.getElem?_eq_some_iff.1 hgg).1 (.inr (by rw [hgg]; simp [pish, he.1, he.2]))]
    exact hgg
theorem ownsRow_below {w w' : World} {B : Nat} {e : TypeId} {size : Nat} {v : Value} {n : Nat} {xs : List Value} (h : w.ownsRow B e size v n xs) (hx : Below w.heap.size w w') : w'.ownsRow B e size v n xs := by
  refine ⟨h.1, ?_⟩
  rcases h.2 with hn | ⟨g, cap, cur, rfl, hb, hgg, rest⟩
  · exact .inl hn
  · refine .inr ⟨g, cap, cur, rfl, hb, ?_, rest⟩
    rw [hx.block g (Array.getElem?_eq_some_iff.1 hgg).1]
    exact hgg
theorem KidsAt.ext {w w' : World} {B b : Nat} {v : Value} {ks : List Nat} (h : KidsAt w B v ks) (hx : Ext b w w') : KidsAt w' B v ks := ownsRow_ext h hx (by decide)
theorem NodesAt.below {w w' : World} {B : Nat} {X : Nat → Prop} {v : Value} {ns : List PN} (h : NodesAt w B X v ns) (hx : Below w.heap.size w w') : NodesAt w' B X v ns := by
  obtain ⟨kvs, h1, h2, h3⟩ := h
  exact ⟨kvs, h1, ownsRow_below h2 hx, fun i n kv hn hk => ⟨(h3 i n kv hn hk).1.ext (B := B) (b := 0) (.of_below hx), (h3 i n kv hn hk).2⟩⟩
theorem TokAt.ext {E : Env} {w w' : World} (h : TokAt E w) (hE : E.ok) (hg : E.g < w.heap.size) (hx : Ext E.B w w') : TokAt E w' := by
  have hb : w'.heap[E.tb]? = w.heap[E.tb]? := hx.block E.tb (by have := hE.1; have := hE.2.1; omega) (.inl hE.1)
  refine ⟨fun k hk => ?_, ?_⟩
  · obtain ⟨a, b, c, d, e⟩ := h.1 k hk
    have hc : ∀ j, w'.cell? ⟨E.tb, j, none⟩ = w.cell? ⟨E.tb, j, none⟩ := fun j => World.cell?_of_block (a := ⟨E.tb, j, none⟩) hb
    exact ⟨(hc _).trans a, (hc _).trans b, (hc _).trans c, (hc _).trans d, (hc _).trans e⟩
  · obtain ⟨t, fr, h0⟩ := h.2
    exact ⟨t, fr, (hx.block 0 (lt_of_block h0) (.inl (by have := hE.1; omega))).trans h0⟩
theorem StV.lt {E : Env} {X : Nat → Prop} {s : PS} {w : World} {v : Value} (h : StV E X s w v) : E.g < w.heap.size := lt_of_block h.1
/-- What makes new memory alone leaves the state. -/
theorem StV.below {E : Env} {X : Nat → Prop} {s : PS} {w w' : World} {v : Value} (h : StV E X s w v) (hE : E.ok) (hx : Below w.heap.size w w') : StV E X s w' v :=
  ⟨by rw [hx.block E.g h.lt]; exact h.1, h.2.1.ext hE h.lt (.of_below hx), h.2.2.below hx⟩
theorem St.below {E : Env} {X : Nat → Prop} {s : PS} {w w' : World} (h : St E X s w) (hE : E.ok) (hx : Below w.heap.size w w') : St E X s w' := let ⟨v, hv⟩ := h; ⟨v, hv.below hE hx⟩
theorem StV.cells {E : Env} {X : Nat → Prop} {s : PS} {w : World} {v : Value} (h : StV E X s w v) : w.cell? ⟨E.g, 0, none⟩ = some (tokV E) ∧ w.cell? ⟨E.g, 1, none⟩ = some (.int .i64 (s.pos : Int)) ∧ w.cell? ⟨E.g, 2, none⟩ = some v ∧
    w.frozen? ⟨E.g, 1, none⟩ = false ∧ w.frozen? ⟨E.g, 2, none⟩ = false := by
  refine ⟨?_, ?_, ?_, ?_, ?_⟩ <;> simp [World.cell?, World.frozen?, h.1]
theorem ret_bool {a b : Bool} (h : a = b) : Ending.returned (.bool a) = .returned (.bool b) := by rw [h]
theorem below_one (w : World) (o : Obj) : Below w.heap.size w (w.alloc o) := (Below.refl _ _).alloc (Nat.le_refl _) o
def isT (t : PT) (kind : Int) (text : Bs) : Bool := decide (t.kind = kind ∧ t.text = text)

set_option maxHeartbeats 1000000 in
theorem is_any (t : PT) (kind : Int) (text : Bs) (w : World) :
    Calls Tryd.prog 40 #[aggP t, .int .i64 kind, .string ⟨text.toArray⟩] w fun e w' => e = .returned (.bool (isT t kind text)) ∧ Below w.heap.size w w' := by
  unfold aggP
  go_enter Tryd.func40, Tryd.ntmps40
  go_wp2
  all_goals go_ret
  all_goals refine ⟨ret_bool ?_, below_one _ _⟩
  all_goals (rw [Bool.eq_iff_iff]; simp_all [isT])

set_option maxHeartbeats 1000000 in
theorem peek_any {E : Env} {X : Nat → Prop} (hE : E.ok) {s : PS} {w : World} (hs : St E X s w) (hp : s.pos < E.l.length) :
    Calls Tryd.prog 24 #[.pointer (some ⟨E.g, 0, none⟩)] w fun e w' => e = .returned (aggP (tokAt E.l s.pos)) ∧ Below w.heap.size w w' := by
  obtain ⟨v, hv⟩ := hs
  obtain ⟨c0, c1, c2, f1, f2⟩ := hv.cells
  obtain ⟨t0, t1, t2, t3, t4⟩ := hv.2.1.1 s.pos hp
  have hg := hv.lt
  have htb : E.tb < w.heap.size := by have := hE.1; have := hE.2.1; omega
  unfold tokV at c0
  have i0 : (0 : Int) ≤ s.pos := by omega
  have i1 : (s.pos : Int) < E.l.length := by omega
  unfold aggP
  go_enter Tryd.func24, Tryd.ntmps24
  go_wp2
  go_region
  go_wp2
  exact bodyPost_ret (v := aggP (tokAt E.l s.pos)) (by simp [results, Tryd.results24, go_sem, aggP]) rfl ⟨rfl, (below_one _ _).drew⟩

/-! A move of the parser: its place is stored, and new blocks are made. -/
structure Mv (E : Env) (p v : Value) (w0 w : World) : Prop where
  os : w.os = w0.os
  tape : w.tape = w0.tape
  output : w.output = w0.output
  size : w0.heap.size ≤ w.heap.size
  block : ∀ k, k < w0.heap.size → k ≠ E.g → w.heap[k]? = w0.heap[k]?
  own : w.heap[E.g]? = some (.cells #[tokV E, p, v] 49 (0, 0))
theorem Mv.start {E : Env} {X : Nat → Prop} {s : PS} {w : World} {v : Value} (h : StV E X s w v) : Mv E (.int .i64 (s.pos : Int)) v w w := ⟨rfl, rfl, rfl, Nat.le_refl _, fun _ _ _ => rfl, h.1⟩
theorem Mv.lt {E : Env} {p v : Value} {w0 w : World} (h : Mv E p v w0 w) : E.g < w.heap.size := lt_of_block h.own
theorem Mv.drew {E : Env} {p v : Value} {w0 w : World} (h : Mv E p v w0 w) : Mv E p v w0 w.drew := ⟨h.os, h.tape, h.output, h.size, h.block, h.own⟩
theorem Mv.alloc {E : Env} {p v : Value} {w0 w : World} (h : Mv E p v w0 w) (o : Obj) : Mv E p v w0 (w.alloc o) :=
  ⟨h.os, h.tape, h.output, by rw [World.size_alloc]; have := h.size; omega, fun k hk hn => (Below.heap_alloc _ _ _ (by have := h.size; omega)).trans (h.block k hk hn), (Below.heap_alloc _ _ _ h.lt).trans h.own⟩
theorem Mv.new {E : Env} {p v : Value} {w0 w : World} (h : Mv E p v w0 w) (hE : E.g < w0.heap.size) {a : Addr} (ha : w0.heap.size ≤ a.block) (u : Value) : Mv E p v w0 (w.setCell a u) :=
  ⟨h.os, h.tape, h.output, by simpa [World.setCell] using h.size, fun k hk hn => (Below.heap_setCell _ _ _ _ (by omega)).trans (h.block k hk hn), (Below.heap_setCell _ _ _ _ (by omega)).trans h.own⟩
theorem Mv.put {E : Env} {p v : Value} {w0 w : World} (h : Mv E p v w0 w) (q : Value) : Mv E q v w0 (w.setCell ⟨E.g, 1, none⟩ q) := by
  refine ⟨h.os, h.tape, h.output, by simpa [World.setCell] using h.size, fun k hk hn => (Below.heap_setCell _ _ _ _ (by simpa using hn)).trans (h.block k hk hn), ?_⟩
  have hlt := h.lt
  have h' : w.heap[E.g] = .cells #[tokV E, p, v] 49 (0, 0) := by have := h.own; simpa [Array.getElem?_eq_getElem hlt] using this
  show (w.heap.modify E.g _)[E.g]? = _
  rw [Array.getElem?_eq_getElem (by simpa using hlt), Array.getElem_modify_self, h']
  rfl
theorem ownsRow_but {w w' : World} {B g : Nat} {e : TypeId} {size : Nat} {v : Value} {n : Nat} {xs : List Value} (h : w.ownsRow B e size v n xs) (hx : ∀ k, k < w.heap.size → k ≠ g → w'.heap[k]? = w.heap[k]?)
    {c : Array Value} (hg : w.heap[g]? = some (.cells c 49 (0, 0))) (he : e ≠ 49) : w'.ownsRow B e size v n xs := by
  refine ⟨h.1, ?_⟩
  rcases h.2 with hn | ⟨b, cap, cur, rfl, hb, hgg, rest⟩
  · exact .inl hn
  · refine .inr ⟨b, cap, cur, rfl, hb, ?_, rest⟩
    rw [hx b (Array.getElem?_eq_some_iff.1 hgg).1 (fun e0 => by subst e0; rw [hg] at hgg; simp at hgg; exact he hgg.2.symm)]
    exact hgg
theorem Mv.done {E : Env} {X : Nat → Prop} (hE : E.ok) {s : PS} {w0 w : World} {v p : Value} (hs : StV E X s w0 v) (h : Mv E p v w0 w) (q : Nat) (hq : p = .int .i64 (q : Int)) : StV E X ⟨q, s.nodes⟩ w v ∧ Ext E.B w0 w := by
  subst hq
  have hx : Ext E.B w0 w := ⟨h.os, h.tape, h.output, h.size, fun k hk hp => h.block k hk (fun e => by
    subst e
    rcases hp with h1 | h1
    · have := hE.2.1; omega
    · rw [hs.1] at h1; simp [pish] at h1)⟩
  refine ⟨⟨h.own, hs.2.1.ext hE hs.lt hx, ?_⟩, hx⟩
  obtain ⟨kvs, h1, h2, h3⟩ := hs.2.2
  exact ⟨kvs, h1, ownsRow_but h2 h.block hs.1 (by decide), fun i n kv hn hk => ⟨ownsRow_but (h3 i n kv hn hk).1 h.block hs.1 (by decide), (h3 i n kv hn hk).2⟩⟩

theorem Mv.fin {E : Env} {X : Nat → Prop} (hE : E.ok) {s : PS} {w0 w : World} {v p : Value} (hs : StV E X s w0 v) (h : Mv E p v w0 w) (q : Nat) (hq : p = .int .i64 (q : Int)) : St E X ⟨q, s.nodes⟩ w ∧ Ext E.B w0 w :=
  ⟨⟨v, (h.done hE hs q hq).1⟩, (h.done hE hs q hq).2⟩

set_option maxHeartbeats 1000000 in
theorem take_any {E : Env} {X : Nat → Prop} (hE : E.ok) {s : PS} {w : World} (hs : St E X s w) (hp : s.pos < E.l.length) :
    Calls Tryd.prog 41 #[.pointer (some ⟨E.g, 0, none⟩)] w fun e w' => e = .returned (aggP (tokAt E.l s.pos)) ∧ St E X ⟨s.pos + 1, s.nodes⟩ w' ∧ Ext E.B w w' := by
  obtain ⟨v, hv⟩ := hs
  obtain ⟨c0, c1, c2, f1, f2⟩ := hv.cells
  obtain ⟨t0, t1, t2, t3, t4⟩ := hv.2.1.1 s.pos hp
  have hg := hv.lt
  have htb : E.tb < w.heap.size := by have := hE.1; have := hE.2.1; omega
  have hl := hE.2.2.1
  have i0 : (0 : Int) ≤ s.pos := by omega
  have i1 : (s.pos : Int) < E.l.length := by omega
  have i2 : (s.pos : Int) ≤ 4000 := by omega
  have HV := Lib.hid hv
  have HE := Lib.hid hE
  clear hv hE
  unfold tokV at c0
  unfold aggP
  go_enter Tryd.func41, Tryd.ntmps41
  go_wp2
  go_region
  go_wp2
  exact bodyPost_ret (v := aggP (tokAt E.l s.pos)) (by simp [results, Tryd.results41, go_sem, aggP]) rfl ⟨rfl, Mv.fin HE.out HV.out (((((Mv.start HV.out).put (.int .i64 (s.pos + 1))).alloc _).alloc _).drew) (s.pos + 1) (by simp)⟩

set_option maxHeartbeats 1000000 in
theorem fail_any {E : Env} {X : Nat → Prop} (hE : E.ok) {s : PS} {w : World} (hs : St E X s w) (hp : s.pos < E.l.length) :
    Calls Tryd.prog 51 #[.pointer (some ⟨E.g, 0, none⟩)] w fun e w' => e = .panicked [{ v := .iface 55 (.agg #[.int .i64 (tokAt E.l s.pos).place]), recovered := false }] ∧ Below w.heap.size w w' := by
  obtain ⟨v, hv⟩ := hs
  obtain ⟨c0, c1, c2, f1, f2⟩ := hv.cells
  obtain ⟨t0, t1, t2, t3, t4⟩ := hv.2.1.1 s.pos hp
  have hg := hv.lt
  have htb : E.tb < w.heap.size := by have := hE.1; have := hE.2.1; omega
  have i0 : (0 : Int) ≤ s.pos := by omega
  have i1 : (s.pos : Int) < E.l.length := by omega
  unfold tokV at c0
  go_enter Tryd.func51, Tryd.ntmps51
  go_wp2
  go_region_dies
  all_goals exact ⟨rfl, rfl, (Below.refl _ _).drew⟩
end Go.Proofs.YteggenldmkbhiaaDoor.Parse
namespace Go.Proofs.YteggenldmkbhiaaDoor.Parse
open Go.RowKit

theorem St.lt {E : Env} {X : Nat → Prop} {s : PS} {w : World} (h : St E X s w) : E.g < w.heap.size := let ⟨_, hv⟩ := h; hv.lt
def thrown (E : Env) (k : Nat) : Ending := .panicked [{ v := .iface 55 (.agg #[.int .i64 (tokAt E.l k).place]), recovered := false }]

theorem field0 (a b c d e : Value) (w : World) : (Instr.field 41 (.agg #[a, b, c, d, e]) 0).run Tryd.prog w = .ok a w := by kernel_rfl
theorem field1 (a b c d e : Value) (w : World) : (Instr.field 41 (.agg #[a, b, c, d, e]) 1).run Tryd.prog w = .ok b w := by kernel_rfl
theorem field2 (a b c d e : Value) (w : World) : (Instr.field 41 (.agg #[a, b, c, d, e]) 2).run Tryd.prog w = .ok c w := by kernel_rfl
theorem field3 (a b c d e : Value) (w : World) : (Instr.field 41 (.agg #[a, b, c, d, e]) 3).run Tryd.prog w = .ok d w := by kernel_rfl
theorem field4 (a b c d e : Value) (w : World) : (Instr.field 41 (.agg #[a, b, c, d, e]) 4).run Tryd.prog w = .ok e w := by kernel_rfl
theorem peek_agg {E : Env} {X : Nat → Prop} (hE : E.ok) {s : PS} {w : World} (hs : St E X s w) (hp : s.pos < E.l.length) :
    Calls Tryd.prog 24 #[.pointer (some ⟨E.g, 0, none⟩)] w fun e w' => e = .returned (.agg #[.int .i64 (tokAt E.l s.pos).kind, .int .i64 (tokAt E.l s.pos).place, .string ⟨(tokAt E.l s.pos).text.toArray⟩, .int .u32 (tokAt E.l s.pos).num, .bool (tokAt E.l s.pos).uns]) ∧ Below w.heap.size w w' :=
  peek_any hE hs hp
theorem take_agg {E : Env} {X : Nat → Prop} (hE : E.ok) {s : PS} {w : World} (hs : St E X s w) (hp : s.pos < E.l.length) :
    Calls Tryd.prog 41 #[.pointer (some ⟨E.g, 0, none⟩)] w fun e w' => e = .returned (.agg #[.int .i64 (tokAt E.l s.pos).kind, .int .i64 (tokAt E.l s.pos).place, .string ⟨(tokAt E.l s.pos).text.toArray⟩, .int .u32 (tokAt E.l s.pos).num, .bool (tokAt E.l s.pos).uns]) ∧
      St E X ⟨s.pos + 1, s.nodes⟩ w' ∧ Ext E.B w w' :=
  take_any hE hs hp

set_option maxHeartbeats 1000000 in
theorem sees_any {E : Env} {X : Nat → Prop} (hE : E.ok) {s : PS} {w : World} (hs : St E X s w) (hp : s.pos < E.l.length) (kind : Int) (text : Bs) :
    Calls Tryd.prog 34 #[.pointer (some ⟨E.g, 0, none⟩), .int .i64 kind, .string ⟨text.toArray⟩] w fun e w' => e = .returned (.bool (isT (tokAt E.l s.pos) kind text)) ∧ Below w.heap.size w w' := by
  have HS := Lib.hid hs
  have HE := Lib.hid hE
  clear hs hE
  go_enter Tryd.func34, Tryd.ntmps34
  go_wp2_with fail
  refine (peek_any HE.out HS.out hp).mono ?_
  rintro e w1 ⟨rfl, hb⟩
  go_wp2_with fail
  refine (is_any _ _ _ _).mono ?_
  rintro e w2 ⟨rfl, hb2⟩
  go_wp2
  go_ret
  exact ⟨rfl, hb.trans (hb2.mono hb.size)⟩

set_option maxHeartbeats 1000000 in
theorem accept_no {E : Env} {X : Nat → Prop} (hE : E.ok) {s : PS} {w : World} (hs : St E X s w) (hp : s.pos < E.l.length) (kind : Int) (text : Bs) (hb : isT (tokAt E.l s.pos) kind text = false) :
    Calls Tryd.prog 44 #[.pointer (some ⟨E.g, 0, none⟩), .int .i64 kind, .string ⟨text.toArray⟩] w fun e w' => e = .returned (.bool false) ∧ Below w.heap.size w w' := by
  have hc := sees_any hE hs hp kind text
  rw [hb] at hc
  have HC := Lib.hid hc
  clear hc hb hs hE
  go_enter Tryd.func44, Tryd.ntmps44
  go_wp2_with fail
  refine HC.out.mono ?_
  rintro e w1 ⟨rfl, hb⟩
  go_wp2
  go_ret
  exact ⟨rfl, hb⟩

set_option maxHeartbeats 1000000 in
theorem accept_yes {E : Env} {X : Nat → Prop} (hE : E.ok) {s : PS} {w : World} (hs : St E X s w) (hp : s.pos < E.l.length) (kind : Int) (text : Bs) (hb : isT (tokAt E.l s.pos) kind text = true) :
    Calls Tryd.prog 44 #[.pointer (some ⟨E.g, 0, none⟩), .int .i64 kind, .string ⟨text.toArray⟩] w fun e w' => e = .returned (.bool true) ∧ St E X ⟨s.pos + 1, s.nodes⟩ w' ∧ Ext E.B w w' := by
  have hc := sees_any hE hs hp kind text
  rw [hb] at hc
  have HC := Lib.hid hc
  have HS := Lib.hid hs
  have HE := Lib.hid hE
  have hl := hE.2.2.1
  clear hc hb hs hE
  go_enter Tryd.func44, Tryd.ntmps44
  go_wp2_with fail
  refine HC.out.mono ?_
  rintro e w1 ⟨rfl, hb⟩
  obtain ⟨v, hv⟩ := HS.out.below HE.out hb
  obtain ⟨c0, c1, c2, f1, f2⟩ := hv.cells
  have hg := hv.lt
  have HV := Lib.hid hv
  have HB := Lib.hid hb
  clear hv hb
  have i0 : (0 : Int) ≤ s.pos := by omega
  have i2 : (s.pos : Int) ≤ 4000 := by omega
  go_wp2
  go_ret
  have hd := Mv.done HE.out HV.out ((Mv.start HV.out).put (.int .i64 (s.pos + 1))) (s.pos + 1) (by simp)
  exact ⟨rfl, ⟨v, hd.1⟩, (Ext.of_below HB.out).trans hd.2⟩

set_option maxHeartbeats 1000000 in
theorem sign_no {E : Env} {X : Nat → Prop} (hE : E.ok) {s : PS} {w : World} (hs : St E X s w) (hp : s.pos < E.l.length) (text : Bs) (hb : isT (tokAt E.l s.pos) 4 text = false) :
    Calls Tryd.prog 42 #[.pointer (some ⟨E.g, 0, none⟩), .string ⟨text.toArray⟩] w fun e w' => e = thrown E s.pos ∧ Ext E.B w w' := by
  have HC := Lib.hid (accept_no hE hs hp 4 text hb)
  have HS := Lib.hid hs
  have HE := Lib.hid hE
  clear hb hs hE
  go_enter Tryd.func42, Tryd.ntmps42
  go_wp2_with fail
  refine HC.out.mono ?_
  rintro e w1 ⟨rfl, hb⟩
  go_wp2_with fail
  refine (fail_any HE.out (HS.out.below HE.out hb) hp).mono ?_
  rintro e w2 ⟨rfl, hb2⟩
  exact ⟨rfl, rfl, (Ext.of_below hb).trans (.of_below hb2)⟩

set_option maxHeartbeats 1000000 in
theorem sign_yes {E : Env} {X : Nat → Prop} (hE : E.ok) {s : PS} {w : World} (hs : St E X s w) (hp : s.pos < E.l.length) (text : Bs) (hb : isT (tokAt E.l s.pos) 4 text = true) :
    Calls Tryd.prog 42 #[.pointer (some ⟨E.g, 0, none⟩), .string ⟨text.toArray⟩] w fun e w' => e = .returned (.tuple #[]) ∧ St E X ⟨s.pos + 1, s.nodes⟩ w' ∧ Ext E.B w w' := by
  have HC := Lib.hid (accept_yes hE hs hp 4 text hb)
  clear hb hs hE
  go_enter Tryd.func42, Tryd.ntmps42
  go_wp2_with fail
  refine HC.out.mono ?_
  rintro e w1 ⟨rfl, hs, hx⟩
  have HS := Lib.hid hs
  clear hs
  go_wp2
  go_end0
  exact ⟨rfl, HS.out, hx⟩
end Go.Proofs.YteggenldmkbhiaaDoor.Parse
namespace Go.Proofs.YteggenldmkbhiaaDoor.Parse
open Go.RowKit

set_option maxHeartbeats 400000 in
theorem clone_any (b : Bs) (w : World) (hs : b.length ≤ 140737488355328) :
    Calls Tryd.prog 53 #[.string ⟨b.toArray⟩] w fun e w' => e = .returned (.string ⟨b.toArray⟩) ∧ Below w.heap.size w w' := by
  have hl : (⟨b.toArray⟩ : ByteArray).size ≤ 281474976710656 := by show b.toArray.size ≤ _; simp; omega
  go_enter Tryd.func53, Tryd.ntmps53
  go_wp2_with (go_at_call 59; refine (Tryd.stringslite_Clone _ _ hl).mono ?_; rintro e w' ⟨rfl, hb⟩)
  go_ret
  exact ⟨rfl, hb⟩

set_option maxHeartbeats 1000000 in
theorem word_no {E : Env} {X : Nat → Prop} (hE : E.ok) {s : PS} {w : World} (hs : St E X s w) (hp : s.pos < E.l.length) (text : Bs) (hb : isT (tokAt E.l s.pos) 3 text = false) :
    Calls Tryd.prog 77 #[.pointer (some ⟨E.g, 0, none⟩), .string ⟨text.toArray⟩] w fun e w' => e = thrown E s.pos ∧ Ext E.B w w' := by
  have HC := Lib.hid (accept_no hE hs hp 3 text hb)
  have HS := Lib.hid hs
  have HE := Lib.hid hE
  clear hb hs hE
  go_enter Tryd.func77, Tryd.ntmps77
  go_wp2_with fail
  refine HC.out.mono ?_
  rintro e w1 ⟨rfl, hb⟩
  go_wp2_with fail
  refine (fail_any HE.out (HS.out.below HE.out hb) hp).mono ?_
  rintro e w2 ⟨rfl, hb2⟩
  exact ⟨rfl, rfl, (Ext.of_below hb).trans (.of_below hb2)⟩

set_option maxHeartbeats 1000000 in
theorem word_yes {E : Env} {X : Nat → Prop} (hE : E.ok) {s : PS} {w : World} (hs : St E X s w) (hp : s.pos < E.l.length) (text : Bs) (hb : isT (tokAt E.l s.pos) 3 text = true) :
    Calls Tryd.prog 77 #[.pointer (some ⟨E.g, 0, none⟩), .string ⟨text.toArray⟩] w fun e w' => e = .returned (.tuple #[]) ∧ St E X ⟨s.pos + 1, s.nodes⟩ w' ∧ Ext E.B w w' := by
  have HC := Lib.hid (accept_yes hE hs hp 3 text hb)
  clear hb hs hE
  go_enter Tryd.func77, Tryd.ntmps77
  go_wp2_with fail
  refine HC.out.mono ?_
  rintro e w1 ⟨rfl, hs, hx⟩
  have HS := Lib.hid hs
  clear hs
  go_wp2
  go_end0
  exact ⟨rfl, HS.out, hx⟩

set_option maxHeartbeats 1000000 in
theorem name_no {E : Env} {X : Nat → Prop} (hE : E.ok) {s : PS} {w : World} (hs : St E X s w) (hp : s.pos < E.l.length) (hk : (tokAt E.l s.pos).kind ≠ 1) :
    Calls Tryd.prog 47 #[.pointer (some ⟨E.g, 0, none⟩)] w fun e w' => e = thrown E s.pos ∧ Ext E.B w w' := by
  have HC := Lib.hid (peek_agg hE hs hp)
  have HS := Lib.hid hs
  have HE := Lib.hid hE
  have hb : ((tokAt E.l s.pos).kind != 1) = true := by simpa using hk
  clear hk hs hE
  have hf0 := field0
  go_enter Tryd.func47, Tryd.ntmps47
  go_wp2_with fail
  refine HC.out.mono ?_
  rintro e w1 ⟨rfl, hb⟩
  go_wp2_with fail
  refine (fail_any HE.out (HS.out.below HE.out hb) hp).mono ?_
  rintro e w2 ⟨rfl, hb2⟩
  exact ⟨rfl, rfl, (Ext.of_below hb).trans (.of_below hb2)⟩

set_option maxHeartbeats 2000000 in
theorem name_yes {E : Env} {X : Nat → Prop} (hE : E.ok) {s : PS} {w : World} (hs : St E X s w) (hp : s.pos < E.l.length) (hk : (tokAt E.l s.pos).kind = 1) :
    Calls Tryd.prog 47 #[.pointer (some ⟨E.g, 0, none⟩)] w fun e w' => e = .returned (.tuple #[.string ⟨(tokAt E.l s.pos).text.toArray⟩, .int .i64 (tokAt E.l s.pos).place]) ∧ St E X ⟨s.pos + 1, s.nodes⟩ w' ∧ Ext E.B w w' := by
  have HC := Lib.hid (peek_agg hE hs hp)
  have HS := Lib.hid hs
  have HE := Lib.hid hE
  have hb : ((tokAt E.l s.pos).kind != 1) = false := by simpa using hk
  have hlen := (hE.2.2.2 s.pos).1
  have HT := Lib.hid (fun (w : World) (h : St E X s w) => take_agg hE h hp)
  clear hk hs hE
  have hf0 := field0
  go_enter Tryd.func47, Tryd.ntmps47
  go_wp2_with fail
  refine HC.out.mono ?_
  rintro e w1 ⟨rfl, hb1⟩
  go_wp2_with fail
  refine (HT.out _ (HS.out.below HE.out hb1)).mono ?_
  rintro e w2 ⟨rfl, hs2, hx2⟩
  have HS2 := Lib.hid hs2
  have HX2 := Lib.hid ((Ext.of_below hb1).trans hx2)
  clear hs2 hx2 hb1 hb
  go_wp2_with fail
  have hsz : w2.heap.size < (w2.alloc (.cells #[.int .i64 (tokAt E.l s.pos).kind, .int .i64 (tokAt E.l s.pos).place, .string ⟨(tokAt E.l s.pos).text.toArray⟩, .int .u32 (tokAt E.l s.pos).num, .bool (tokAt E.l s.pos).uns] 41)).heap.size := by rw [World.size_alloc]; omega
  go_region_held3 (fun w' => w'.cell? ⟨w2.heap.size, 1, none⟩ = some (.int .i64 (tokAt E.l s.pos).place) ∧ w'.cell? ⟨w2.heap.size, 2, none⟩ = some (.string ⟨(tokAt E.l s.pos).text.toArray⟩))
    (first
      | go_keep
      | (refine ⟨?_, ?_⟩ <;> (rw [hb3.cell (by simp [World.size_alloc])]; simp [World.cell?_alloc_new])))
    ((go_at_call 53; refine (clone_any _ _ hlen).mono ?_; rintro e w3 ⟨rfl, hb3⟩))
  all_goals
    have HB := Lib.hid ((below_one w2 _).drew.trans (hb3.mono (by simp [World.size_alloc])))
    clear hb3
    go_wp2
    go_ret2
    exact ⟨rfl, HS2.out.below HE.out HB.out, HX2.out.trans (.of_below HB.out)⟩

set_option maxHeartbeats 1000000 in
theorem typeOf_gen (t : PT) (w : World) :
    Calls Tryd.prog 45 #[aggP t] w fun e w' => e = .returned (.tuple #[.int .i64 ((typeT t.kind t.text).getD 0), .bool (typeT t.kind t.text).isSome]) ∧ Below w.heap.size w w' := by
  unfold aggP
  go_enter Tryd.func45, Tryd.ntmps45
  go_wp2
  all_goals go_ret2
  all_goals refine ⟨?_, below_one _ _⟩
  all_goals simp_all [typeT]
theorem typeOf_some (t : PT) (w : World) {n : Int} (h : typeT t.kind t.text = some n) :
    Calls Tryd.prog 45 #[aggP t] w fun e w' => e = .returned (.tuple #[.int .i64 n, .bool true]) ∧ Below w.heap.size w w' := by
  have := typeOf_gen t w
  rw [h] at this; exact this
theorem typeOf_none (t : PT) (w : World) (h : typeT t.kind t.text = none) :
    Calls Tryd.prog 45 #[aggP t] w fun e w' => e = .returned (.tuple #[.int .i64 0, .bool false]) ∧ Below w.heap.size w w' := by
  have := typeOf_gen t w
  rw [h] at this; exact this

set_option maxHeartbeats 1000000 in
theorem typeWord_no {E : Env} {X : Nat → Prop} (hE : E.ok) {s : PS} {w : World} (hs : St E X s w) (hp : s.pos < E.l.length) (ht : typeT (tokAt E.l s.pos).kind (tokAt E.l s.pos).text = none) :
    Calls Tryd.prog 46 #[.pointer (some ⟨E.g, 0, none⟩)] w fun e w' => e = thrown E s.pos ∧ Ext E.B w w' := by
  have HC := Lib.hid (peek_any hE hs hp)
  have HS := Lib.hid hs
  have HE := Lib.hid hE
  have HT := Lib.hid ht
  clear ht hs hE
  go_enter Tryd.func46, Tryd.ntmps46
  go_wp2_with fail
  refine HC.out.mono ?_
  rintro e w1 ⟨rfl, hb⟩
  go_wp2_with fail
  refine (typeOf_none _ _ HT.out).mono ?_
  rintro e w2 ⟨rfl, hb2⟩
  have HB := Lib.hid (hb.trans (hb2.mono hb.size))
  clear hb hb2
  go_wp2_with fail
  refine (fail_any HE.out (HS.out.below HE.out HB.out) hp).mono ?_
  rintro e w3 ⟨rfl, hb3⟩
  exact ⟨rfl, rfl, (Ext.of_below HB.out).trans (.of_below hb3)⟩

set_option maxHeartbeats 1000000 in
theorem typeWord_yes {E : Env} {X : Nat → Prop} (hE : E.ok) {s : PS} {w : World} (hs : St E X s w) (hp : s.pos < E.l.length) {n : Int} (ht : typeT (tokAt E.l s.pos).kind (tokAt E.l s.pos).text = some n) :
    Calls Tryd.prog 46 #[.pointer (some ⟨E.g, 0, none⟩)] w fun e w' => e = .returned (.tuple #[.int .i64 n, .int .i64 (tokAt E.l s.pos).place]) ∧ St E X ⟨s.pos + 1, s.nodes⟩ w' ∧ Ext E.B w w' := by
  have HC := Lib.hid (peek_any hE hs hp)
  have HS := Lib.hid hs
  have HE := Lib.hid hE
  have HT := Lib.hid ht
  clear ht hs hE
  have hf1 := field1
  go_enter Tryd.func46, Tryd.ntmps46
  go_wp2_with fail
  refine HC.out.mono ?_
  rintro e w1 ⟨rfl, hb⟩
  go_wp2_with fail
  refine (typeOf_some _ _ HT.out).mono ?_
  rintro e w2 ⟨rfl, hb2⟩
  have HB := Lib.hid (hb.trans (hb2.mono hb.size))
  clear hb hb2
  go_wp2_with fail
  refine (take_agg HE.out (HS.out.below HE.out HB.out) hp).mono ?_
  rintro e w3 ⟨rfl, hs3, hx3⟩
  have HS3 := Lib.hid hs3
  clear hs3
  go_wp2
  go_ret2
  exact ⟨rfl, HS3.out, (Ext.of_below HB.out).trans hx3⟩

set_option maxHeartbeats 2000000 in
theorem assignOp_gen (t : PT) (w : World) :
    Calls Tryd.prog 62 #[aggP t] w fun e w' => e = .returned (.tuple #[.int .i64 ((assignT t.kind t.text).getD 0), .bool (assignT t.kind t.text).isSome]) ∧ Below w.heap.size w w' := by
  unfold aggP
  go_enter Tryd.func62, Tryd.ntmps62
  go_wp2
  all_goals go_ret2
  all_goals refine ⟨?_, below_one _ _⟩
  all_goals first
    | (simp_all [assignT, List.lookup]; done)
    | ((have h0 : assignT t.kind t.text = none := by (simp only [assignT, ite_eq_right_iff, List.lookup_eq_none_iff]; simp_all)); rw [h0]; rfl)
theorem assignOp_some (t : PT) (w : World) {n : Int} (h : assignT t.kind t.text = some n) :
    Calls Tryd.prog 62 #[aggP t] w fun e w' => e = .returned (.tuple #[.int .i64 n, .bool true]) ∧ Below w.heap.size w w' := by
  have := assignOp_gen t w
  rw [h] at this; exact this
theorem assignOp_none (t : PT) (w : World) (h : assignT t.kind t.text = none) :
    Calls Tryd.prog 62 #[aggP t] w fun e w' => e = .returned (.tuple #[.int .i64 0, .bool false]) ∧ Below w.heap.size w w' := by
  have := assignOp_gen t w
  rw [h] at this; exact this

set_option maxHeartbeats 2000000 in
theorem prefixNode_gen (t : PT) (w : World) :
    Calls Tryd.prog 74 #[aggP t] w fun e w' => e = .returned (.tuple #[.int .i64 ((prefixT t.kind t.text).getD (0, 0)).1, .int .i64 ((prefixT t.kind t.text).getD (0, 0)).2, .bool (prefixT t.kind t.text).isSome]) ∧ Below w.heap.size w w' := by
  unfold aggP
  go_enter Tryd.func74, Tryd.ntmps74
  go_wp2
  all_goals go_ret3
  all_goals refine ⟨?_, below_one _ _⟩
  all_goals first
    | (simp_all [prefixT, List.lookup]; done)
    | ((have h0 : prefixT t.kind t.text = none := by (simp only [prefixT, ite_eq_right_iff, List.lookup_eq_none_iff]; simp_all)); rw [h0]; rfl)
theorem prefixNode_some (t : PT) (w : World) {n m : Int} (h : prefixT t.kind t.text = some (n, m)) :
    Calls Tryd.prog 74 #[aggP t] w fun e w' => e = .returned (.tuple #[.int .i64 n, .int .i64 m, .bool true]) ∧ Below w.heap.size w w' := by
  have := prefixNode_gen t w
  rw [h] at this; exact this
theorem prefixNode_none (t : PT) (w : World) (h : prefixT t.kind t.text = none) :
    Calls Tryd.prog 74 #[aggP t] w fun e w' => e = .returned (.tuple #[.int .i64 0, .int .i64 0, .bool false]) ∧ Below w.heap.size w w' := by
  have := prefixNode_gen t w
  rw [h] at this; exact this
end Go.Proofs.YteggenldmkbhiaaDoor.Parse
namespace Go.Proofs.YteggenldmkbhiaaDoor.Parse
open Go.RowKit

theorem info34 : (Tryd.prog.info? 34).map (fun i => (i.zero, i.size, i.bytes)) = some (some (.agg #[.int .i64 0, .int .i64 0, .int .i64 0, .int .i64 0, .int .i64 0, .int .i64 0, .string ⟨#[]⟩, .slice none 0 0]), 8, 88) := by kernel_rfl
theorem rowN_len (ns : List PN) : ∀ kvs : List Value, kvs.length = ns.length → (rowN ns kvs).length = ns.length * 8 := by
  induction ns with
  | nil => intro kvs h; simp [rowN]
  | cons n ns ih =>
    intro kvs h
    cases kvs with
    | nil => simp at h
    | cons v kvs =>
      have := ih kvs (by simpa using h)
      simp only [rowN, List.zip_cons_cons, List.flatMap_cons, List.length_append] at this ⊢
      rw [this]; simp [cellsN]; omega
theorem rowN_snoc (ns : List PN) (kvs : List Value) (h : kvs.length = ns.length) (n : PN) (kv : Value) : rowN (ns ++ [n]) (kvs ++ [kv]) = rowN ns kvs ++ cellsN n kv := by
  unfold rowN
  rw [List.zip_append h.symm]; simp

/-- Behind the append and the store of what it gave. -/
theorem StV.added {E : Env} {X : Nat → Prop} (hE : E.ok) {s : PS} {w w1 w2 : World} {v : Value} (hv : StV E X s w v) {n : PN} {kv : Value} (hk : KidsAt w E.B kv n.kids) {gg cap : Nat} {kvs : List Value} (hl : kvs.length = s.nodes.length)
    (hks : ∀ (i : Nat) (n : PN) (kv : Value), s.nodes[i]? = some n → kvs[i]? = some kv → KidsAt w E.B kv n.kids ∧ ∀ b, kv.ownBlock = some b → ¬ X b) (hX : ∀ b, kv.ownBlock = some b → ¬ X b) (hb1 : Below w.heap.size w w1)
    (hown : w2.ownsRow E.B 34 8 (.slice (some ⟨gg, 0, none⟩) (s.nodes.length + 1) cap) (s.nodes.length + 1) (rowN s.nodes kvs ++ cellsN n kv)) (hg : w1.grownBy w2 v.ownBlock)
    (hv34 : ∀ b, v.ownBlock = some b → E.B ≤ b ∧ ∃ c, w.heap[b]? = some (.cells c 34 (0, 0))) :
    St E X ⟨s.pos, s.nodes ++ [n]⟩ (w2.setCell ⟨E.g, 2, none⟩ (.slice (some ⟨gg, 0, none⟩) (s.nodes.length + 1) cap)) ∧ Ext E.B w (w2.setCell ⟨E.g, 2, none⟩ (.slice (some ⟨gg, 0, none⟩) (s.nodes.length + 1) cap)) := by
  have hne : v.ownBlock ≠ some E.g := by
    intro h
    obtain ⟨_, c, hc⟩ := hv34 _ h
    rw [hv.1] at hc; simp at hc
  have hgl := hv.lt
  have hg2 : w2.heap[E.g]? = some (.cells #[tokV E, .int .i64 (s.pos : Int), v] 49 (0, 0)) := by
    rw [hg.block E.g (Nat.lt_of_lt_of_le hgl hb1.size) (Ne.symm hne), hb1.block E.g hgl]; exact hv.1
  have hlt2 : E.g < w2.heap.size := lt_of_block hg2
  have hblk : ∀ k, k < w.heap.size → (k < E.B ∨ pish (w.heap[k]?) = false) → w2.heap[k]? = w.heap[k]? := fun k hk hp => by
    rw [hg.block k (Nat.lt_of_lt_of_le hk hb1.size) (fun e => by
      obtain ⟨h1, c, hc⟩ := hv34 _ e.symm
      rcases hp with hp | hp
      · omega
      · rw [hc] at hp; simp [pish] at hp), hb1.block k hk]
  have hx : Ext E.B w (w2.setCell ⟨E.g, 2, none⟩ (.slice (some ⟨gg, 0, none⟩) (s.nodes.length + 1) cap)) := by
    refine ⟨hg.os.trans hb1.os, hg.tape.trans hb1.tape, hg.output.trans hb1.output, ?_, fun k hk hp => ?_⟩
    · have := hg.size; have := hb1.size; simp [World.setCell]; omega
    · refine (Below.heap_setCell _ _ _ _ (fun e => ?_)).trans (hblk k hk hp)
      simp only at e
      subst e
      rcases hp with hp | hp
      · have := hE.2.1; omega
      · rw [hv.1] at hp; simp [pish] at hp
  refine ⟨⟨.slice (some ⟨gg, 0, none⟩) (s.nodes.length + 1) cap, ?_, hv.2.1.ext hE hgl hx, kvs ++ [kv], by simp [hl], ?_, fun i m mv hm hmv => ?_⟩, hx⟩
  · have h' : w2.heap[E.g] = .cells #[tokV E, .int .i64 (s.pos : Int), v] 49 (0, 0) := by simpa [Array.getElem?_eq_getElem hlt2] using hg2
    show (w2.heap.modify E.g _)[E.g]? = _
    rw [Array.getElem?_eq_getElem (by simpa using hlt2), Array.getElem_modify_self, h']
    rfl
  · rw [rowN_snoc _ _ hl]
    have h1 : gg ≠ E.g := by
      intro e
      rcases hown.2 with ⟨h0, _⟩ | ⟨g0, c0, cur, h0, _, hh, _⟩
      · cases h0
      · simp at h0
        rw [← h0.1, e, hg2] at hh
        simp at hh
    have h2 := ownsRow_setCell_other hown (a := ⟨E.g, 2, none⟩) (by simp [Value.ownBlock, h1]) (.slice (some ⟨gg, 0, none⟩) (s.nodes.length + 1) cap)
    simpa using h2
  · rcases Nat.lt_or_ge i s.nodes.length with hi | hi
    · rw [List.getElem?_append_left hi] at hm
      rw [List.getElem?_append_left (by omega)] at hmv
      exact ⟨(hks i m mv hm hmv).1.ext hx, (hks i m mv hm hmv).2⟩
    · rw [List.getElem?_append_right hi] at hm
      rw [List.getElem?_append_right (by omega), hl] at hmv
      have h0 : i - s.nodes.length = 0 := by
        rcases Nat.eq_zero_or_pos (i - s.nodes.length) with h0 | h0
        · exact h0
        · rw [List.getElem?_eq_none (by simp; omega)] at hm; cases hm
      rw [h0] at hm hmv
      simp only [List.getElem?_cons_zero, Option.some.injEq] at hm hmv
      subst hm hmv
      exact ⟨hk.ext hx, hX⟩

theorem heap_second (w : World) (a b : Obj) : ((w.alloc a).alloc b).drew.heap[w.heap.size + 1]? = some b := by
  have := heap_alloc_new (w.alloc a) b; rwa [World.size_alloc] at this
theorem KidsAt.one {w : World} {B : Nat} {kv : Value} {ks : List Nat} (h : KidsAt w B kv ks) (n : PN) : ∀ u ∈ cellsN n kv, u.oneCell' = true := by
  have hk : kv.oneCell' = true := by
    rcases h.2 with ⟨rfl, _⟩ | ⟨_, _, _, rfl, _⟩ <;> rfl
  intro u hu
  simp only [cellsN, List.mem_cons, List.not_mem_nil, or_false] at hu
  rcases hu with rfl | rfl | rfl | rfl | rfl | rfl | rfl | rfl <;> first | rfl | exact hk

set_option maxHeartbeats 4000000 in
set_option maxRecDepth 100000 in
theorem add_any {E : Env} {X : Nat → Prop} (hE : E.ok) {s : PS} {w : World} (hs : St E X s w) (hn : s.nodes.length ≤ 100000) (n : PN) (kv : Value) (hk : KidsAt w E.B kv n.kids) (hX : ∀ b, kv.ownBlock = some b → ¬ X b) :
    Calls Tryd.prog 26 #[.pointer (some ⟨E.g, 0, none⟩), .agg #[.int .i64 n.kind, .int .i64 n.place, .int .i64 n.op, .int .i64 n.type, .int .i64 n.num, .int .i64 0, .string ⟨n.name.toArray⟩, kv]] w
      fun e w' => e = .returned (.int .i64 (s.nodes.length : Int)) ∧ St E X ⟨s.pos, s.nodes ++ [n]⟩ w' ∧ Ext E.B w w' := by
  obtain ⟨v, hv⟩ := hs
  obtain ⟨c0, c1, c2, f1, f2⟩ := hv.cells
  have hg := hv.lt
  obtain ⟨kvs, hl, hown, hks⟩ := hv.2.2
  obtain ⟨i0, hi0, hz0, hz1, hz2⟩ := info_parts info34
  have hvb : ∀ b, v.ownBlock = some b → E.B ≤ b ∧ ∃ c, w.heap[b]? = some (.cells c 34 (0, 0)) := by
    intro b hb
    rcases hown.2 with ⟨rfl, _⟩ | ⟨g0, c0, cur, rfl, h1, h2, _⟩
    · simp [Value.ownBlock] at hb
    · simp [Value.ownBlock] at hb; subst hb; exact ⟨h1, _, h2⟩
  have hBg := hE.2.1
  have H1 : Hid (v.ownBlock ≠ some E.g) := Lib.hid (fun h => by obtain ⟨_, c, hc⟩ := hvb _ h; rw [hv.1] at hc; simp at hc)
  have HV := Lib.hid hv
  have HE := Lib.hid hE
  have HL := Lib.hid hl
  have HKS := Lib.hid hks
  have HVB := Lib.hid hvb
  have HK := Lib.hid hk
  have HX := Lib.hid hX
  have HO := Lib.hid hown
  have hB : E.B ≤ w.heap.size := by omega
  clear hv hE hl hks hvb hk hX hown c0 c1 f1
  have i1 : (0 : Int) ≤ s.nodes.length := by omega
  have i2 : (s.nodes.length : Int) ≤ 100000 := by omega
  go_enter Tryd.func26, Tryd.ntmps26
  go_wp2
  go_region_law (refine step_append_lies _ (by rfl) (.tmp 9) (.tmp 11) 26 (by rfl) E.B 34 i0 _ 8 88 Tryd.underlying26 hi0 hz0 hz1 hz2 rfl (by omega) v s.nodes.length (rowN s.nodes kvs) (by rfl) (((HO.out.alloc _).alloc _).drew) ⟨w.heap.size + 1, 0, none⟩ 1 1 (cellsN n kv) (by rfl) (by rfl) (World.news_of_block (cs := (cellsN n kv).toArray) (t := 34) (fr := (0, 0)) (heap_second _ _ _)) (HK.out.one n) (by omega) (by unfold maxLen; omega) (by omega) (by simp; omega) (w.heap.size + 2) (by simp) ?_; intro gg cap w1 hown1 hgrow hat hlt; have hblk : w1.heap[E.g]? = w.heap[E.g]? := (hgrow.block E.g (by simp; omega) H1.out.symm).trans (((((Below.refl w.heap.size w).alloc (Nat.le_refl _) _).alloc (by simp) _).drew).block E.g hg); have d2 := (World.cell?_of_block (a := ⟨E.g, 2, none⟩) hblk).trans c2; have e2 := (World.frozen?_of_block (a := ⟨E.g, 2, none⟩) hblk).trans f2)
  all_goals
    have HG := Lib.hid hgrow
    have HO1 := Lib.hid hown1
    clear hgrow hown1 hblk e2
    have d3 : (w1.setCell ⟨E.g, 2, none⟩ (.slice (some ⟨gg, 0, none⟩) (s.nodes.length + 1) cap)).cell? ⟨E.g, 2, none⟩ = some (.slice (some ⟨gg, 0, none⟩) (s.nodes.length + 1) cap) := World.cell?_setCell_same _ _ _ d2
    clear d2
    go_wp2
    go_ret
    refine ⟨by simp, ?_⟩
    exact StV.added HE.out HV.out HK.out HL.out HKS.out HX.out (((Below.refl w.heap.size w).alloc (Nat.le_refl _) _).alloc (by simp) _).drew HO1.out HG.out HVB.out
end Go.Proofs.YteggenldmkbhiaaDoor.Parse
namespace Go.Proofs.YteggenldmkbhiaaDoor.Parse
open Go.RowKit

def opAt (k : Nat) : Bs × Int × Int × Nat := opL.getD k ([], 0, 0, 0)
theorem op_index : ∀ (k : Nat), k < 18 → ∀ w : World, (Instr.index 86 (.agg opCells) (.int .i64 (k : Int))).run Tryd.prog w = .ok (.agg #[.string ⟨(opAt k).1.toArray⟩, .int .i64 (opAt k).2.1, .int .i64 (opAt k).2.2.1, .int .i64 ((opAt k).2.2.2 : Int)]) w
  | 0, _, _ => by kernel_rfl
  | 1, _, _ => by kernel_rfl
  | 2, _, _ => by kernel_rfl
  | 3, _, _ => by kernel_rfl
  | 4, _, _ => by kernel_rfl
  | 5, _, _ => by kernel_rfl
  | 6, _, _ => by kernel_rfl
  | 7, _, _ => by kernel_rfl
  | 8, _, _ => by kernel_rfl
  | 9, _, _ => by kernel_rfl
  | 10, _, _ => by kernel_rfl
  | 11, _, _ => by kernel_rfl
  | 12, _, _ => by kernel_rfl
  | 13, _, _ => by kernel_rfl
  | 14, _, _ => by kernel_rfl
  | 15, _, _ => by kernel_rfl
  | 16, _, _ => by kernel_rfl
  | 17, _, _ => by kernel_rfl
  | k + 18, h, _ => absurd h (by omega)
theorem lookup_at {α : Type} : ∀ (L : List (Bs × α)) (k : Nat) (p : Bs × α), L[k]? = some p → (∀ j, j < k → ∀ q, L[j]? = some q → q.1 ≠ p.1) → L.lookup p.1 = some p.2 := by
  intro L
  induction L with
  | nil => intro k p h; simp at h
  | cons x L ih =>
    intro k p h hn
    cases k with
    | zero => simp at h; subst h; simp [List.lookup]
    | succ k =>
      have h0 := hn 0 (by omega) x rfl
      rw [List.lookup_cons]
      have : (p.1 == x.1) = false := by simpa using fun e => h0 e.symm
      rw [this]
      exact ih k p (by simpa using h) (fun j hj q hq => hn (j + 1) (by omega) q (by simpa using hq))
theorem opT_hit {t : PT} {k : Nat} (hk : k < 18) (hn : ∀ j, j < k → isT t 4 (opAt j).1 = false) (h : isT t 4 (opAt k).1 = true) : opT t.kind t.text = some (opAt k).2 := by
  simp only [isT, decide_eq_true_eq] at h
  have hl : opL.length = 18 := rfl
  have hp : opL[k]? = some (opAt k) := by
    rw [List.getElem?_eq_getElem (by omega)]; simp [opAt, List.getD, List.getElem?_eq_getElem (show k < opL.length by omega)]
  unfold opT
  rw [if_pos h.1, h.2]
  refine lookup_at opL k (opAt k) hp fun j hj q hq e => ?_
  have hj2 : opAt j = q := by simp [opAt, List.getD, hq]
  have := hn j hj
  simp only [isT, decide_eq_false_iff_not, not_and] at this
  exact this h.1 (by rw [h.2, hj2, e])
theorem opT_miss {t : PT} (hn : ∀ j, j < 18 → isT t 4 (opAt j).1 = false) : opT t.kind t.text = none := by
  unfold opT
  split
  · rename_i hk
    rw [List.lookup_eq_none_iff]
    intro p hp
    obtain ⟨j, hj, hjp⟩ := List.getElem_of_mem hp
    have h1 := hn j (by simpa [opL] using hj)
    have hj2 : opAt j = p := by simp [opAt, List.getD, List.getElem?_eq_getElem hj, hjp]
    simp only [isT, decide_eq_false_iff_not, not_and, hj2] at h1
    simpa using h1 hk
  · rfl
/-- What the function answers. -/
def opVal (t : PT) : Value := match opT t.kind t.text with
  | some (k, o, n) => .agg #[.string ⟨t.text.toArray⟩, .int .i64 k, .int .i64 o, .int .i64 (n : Int)]
  | none => .agg #[.string ⟨#[]⟩, .int .i64 0, .int .i64 0, .int .i64 0]

theorem bcell {W w1 : World} (hb : Below W.heap.size W w1) : (∀ b o, b < W.heap.size → w1.cell? ⟨b, o, none⟩ = W.cell? ⟨b, o, none⟩) ∧ (∀ b o, b < W.heap.size → w1.frozen? ⟨b, o, none⟩ = W.frozen? ⟨b, o, none⟩) :=
  ⟨fun b o h => hb.cell (p := ⟨b, o, none⟩) h, fun b o h => hb.frozen (p := ⟨b, o, none⟩) h⟩

set_option maxHeartbeats 4000000 in
set_option maxRecDepth 100000 in
theorem operatorOf_any (t : PT) (w : World) (hw : OpsAt w) :
    Calls Tryd.prog 64 #[aggP t] w fun e w' => e = .returned (opVal t) ∧ Below w.heap.size w w' := by
  obtain ⟨ty, fr, hg⟩ := hw
  have h0 : 0 < w.heap.size := lt_of_block hg
  have HG := Lib.hid hg
  clear hg
  unfold aggP
  go_enter Tryd.func64, Tryd.ntmps64
  go_wp2_with (refine wpList_load_row (by rfl) 86 _ (by rfl) 0 (by rfl) _ opCells _ _ ((Below.heap_alloc _ _ _ (by simp)).trans ((Below.heap_alloc _ _ _ h0).trans HG.out)) Tryd.underlying86 (by rfl) (by kernel_rfl) ?_)
  have hidx := Lib.hid op_index
  obtain ⟨w2, hw2⟩ : ∃ w2, w2 = (w.alloc (Obj.cells #[.int .i64 t.kind, .int .i64 t.place, .string ⟨t.text.toArray⟩, .int .u32 t.num, .bool t.uns] 41)).alloc (Obj.cells #[.string ⟨#[]⟩, .int .i64 0, .int .i64 0, .int .i64 0] 80) := ⟨_, rfl⟩
  have hs2 : w2.heap.size = w.heap.size + 2 := by rw [hw2]; simp
  have hB2 : Below w.heap.size w w2 := by rw [hw2]; exact ((Below.refl _ _).alloc (Nat.le_refl _) _).alloc (by simp) _
  have a0 : w2.cell? ⟨w.heap.size, 0, none⟩ = some (.int .i64 t.kind) := by rw [hw2]; go_simp
  have a1 : w2.cell? ⟨w.heap.size, 1, none⟩ = some (.int .i64 t.place) := by rw [hw2]; go_simp
  have a2 : w2.cell? ⟨w.heap.size, 2, none⟩ = some (.string ⟨t.text.toArray⟩) := by rw [hw2]; go_simp
  have a3 : w2.cell? ⟨w.heap.size, 3, none⟩ = some (.int .u32 t.num) := by rw [hw2]; go_simp
  have a4 : w2.cell? ⟨w.heap.size, 4, none⟩ = some (.bool t.uns) := by rw [hw2]; go_simp
  have b0 : ∀ j, j < 4 → w2.cell? ⟨w.heap.size + 1, j, none⟩ = some (#[Value.string ⟨#[]⟩, .int .i64 0, .int .i64 0, .int .i64 0].getD j undef) := by
    intro j hj; rw [hw2]
    match j, hj with
    | 0, _ => go_simp
    | 1, _ => go_simp
    | 2, _ => go_simp
    | 3, _ => go_simp
    | j + 4, h => omega
  have f0 : ∀ j, w2.frozen? ⟨w.heap.size + 1, j, none⟩ = false := by
    intro j; rw [hw2]; go_simp
  rw [← hw2]
  have HA := Lib.hid (And.intro a0 (And.intro a1 (And.intro a2 (And.intro a3 (And.intro a4 (And.intro b0 f0))))))
  have HB2 := Lib.hid hB2
  have HS2 := Lib.hid hs2
  clear hw2 a0 a1 a2 a3 a4 b0 f0 hB2 h0
  have hsz : w.heap.size + 1 < w2.heap.size := by omega
  clear hs2
  go_loopw [6] (fun i wr => ∃ k : Nat, k ≤ 18 ∧ i = .int .i64 k ∧ Hid (∀ j, j < k → isT t 4 (opAt j).1 = false) ∧ Below w2.heap.size w2 wr) (fun i _ => 18 - (intOf i).toNat)
  case atStart => exact ⟨0, by omega, rfl, Lib.hid (fun j hj => by omega), Below.refl _ _⟩
  case round =>
    obtain ⟨k, hk, rfl, HN, hbw⟩ := hrel
    have i0 : (0 : Int) ≤ k := by omega
    by_cases hlt : k < 18
    · have hbs := hbw.size
      have i1 : (k : Int) < 18 := by omega
      have hix := fun w => hidx.out k hlt w
      obtain ⟨a0, a1, a2, a3, a4, b0, f0⟩ := HA.out
      have c0 := (hbw.cell (p := ⟨w.heap.size, 0, none⟩) (by simp; omega)).trans a0
      have c1 := (hbw.cell (p := ⟨w.heap.size, 1, none⟩) (by simp; omega)).trans a1
      have c2 := (hbw.cell (p := ⟨w.heap.size, 2, none⟩) (by simp; omega)).trans a2
      have c3 := (hbw.cell (p := ⟨w.heap.size, 3, none⟩) (by simp; omega)).trans a3
      have c4 := (hbw.cell (p := ⟨w.heap.size, 4, none⟩) (by simp; omega)).trans a4
      have d0 := (hbw.cell (p := ⟨w.heap.size + 1, 0, none⟩) (by simp; omega)).trans (b0 0 (by omega))
      have d1 := (hbw.cell (p := ⟨w.heap.size + 1, 1, none⟩) (by simp; omega)).trans (b0 1 (by omega))
      have d2 := (hbw.cell (p := ⟨w.heap.size + 1, 2, none⟩) (by simp; omega)).trans (b0 2 (by omega))
      have d3 := (hbw.cell (p := ⟨w.heap.size + 1, 3, none⟩) (by simp; omega)).trans (b0 3 (by omega))
      have e0 := (hbw.frozen (p := ⟨w.heap.size + 1, 0, none⟩) (by simp; omega)).trans (f0 0)
      have e1 := (hbw.frozen (p := ⟨w.heap.size + 1, 1, none⟩) (by simp; omega)).trans (f0 1)
      have e2 := (hbw.frozen (p := ⟨w.heap.size + 1, 2, none⟩) (by simp; omega)).trans (f0 2)
      have e3 := (hbw.frozen (p := ⟨w.heap.size + 1, 3, none⟩) (by simp; omega)).trans (f0 3)
      clear a0 a1 a2 a3 a4 b0 f0
      simp only [List.getElem?_toArray, Array.getD_eq_getD_getElem?, List.getElem?_cons_zero, List.getElem?_cons_succ, Option.getD_some] at d0 d1 d2 d3
      have hl0 : w.heap.size < wr.heap.size := by omega
      have hl1 : w.heap.size + 1 < wr.heap.size := by omega
      have HBW := Lib.hid hbw
      clear hbw
      obtain ⟨sg, hsg⟩ : ∃ sg, sg = (opAt k).1 := ⟨_, rfl⟩
      obtain ⟨kk, hkk⟩ : ∃ kk, kk = (opAt k).2.1 := ⟨_, rfl⟩
      obtain ⟨oo, hoo⟩ : ∃ oo, oo = (opAt k).2.2.1 := ⟨_, rfl⟩
      obtain ⟨nn, hnn⟩ : ∃ nn, nn = (opAt k).2.2.2 := ⟨_, rfl⟩
      have hrow : (opAt k).2 = (kk, oo, nn) := by rw [hkk, hoo, hnn]
      simp only [← hsg, ← hkk, ← hoo, ← hnn] at hix
      have HROW := Lib.hid hrow
      have HSG := Lib.hid hsg
      clear hsg hkk hoo hnn hrow
      cases hb : isT t 4 sg with
      | true =>
        have hc := fun w => is_any t 4 sg w
        rw [hb] at hc
        unfold aggP at hc
        have HC := Lib.hid hc
        have HV : Hid (opVal t = .agg #[.string ⟨t.text.toArray⟩, .int .i64 kk, .int .i64 oo, .int .i64 (nn : Int)]) := Lib.hid (by unfold opVal; rw [opT_hit hlt HN.out (by rw [← HSG.out]; exact hb), HROW.out])
        have hst : sg = t.text := by simp only [isT, decide_eq_true_eq] at hb; exact hb.2.symm
        subst hst
        clear hc hb
        go_wp2_with fail
        refine (HC.out _).mono ?_
        rintro e w3 ⟨rfl, hb3⟩
        obtain ⟨hq, hf⟩ := bcell hb3
        have hz := hb3.size
        simp only [World.size_alloc] at hz
        have hlb : w.heap.size + 1 < (wr.alloc (Obj.cells #[.string ⟨t.text.toArray⟩, .int .i64 kk, .int .i64 oo, .int .i64 (nn : Int)] 80)).heap.size := by rw [World.size_alloc]; omega
        have g0 := (hq (w.heap.size + 1) 0 (by rw [World.size_alloc]; omega)).trans ((World.cell?_of_block (a := ⟨w.heap.size + 1, 0, none⟩) (Below.heap_alloc wr _ _ hl1)).trans d0)
        have g1 := (hq (w.heap.size + 1) 1 (by rw [World.size_alloc]; omega)).trans ((World.cell?_of_block (a := ⟨w.heap.size + 1, 1, none⟩) (Below.heap_alloc wr _ _ hl1)).trans d1)
        have g2 := (hq (w.heap.size + 1) 2 (by rw [World.size_alloc]; omega)).trans ((World.cell?_of_block (a := ⟨w.heap.size + 1, 2, none⟩) (Below.heap_alloc wr _ _ hl1)).trans d2)
        have g3 := (hq (w.heap.size + 1) 3 (by rw [World.size_alloc]; omega)).trans ((World.cell?_of_block (a := ⟨w.heap.size + 1, 3, none⟩) (Below.heap_alloc wr _ _ hl1)).trans d3)
        go_wp2
        refine bodyPost_ret (v := .agg #[.string ⟨t.text.toArray⟩, .int .i64 kk, .int .i64 oo, .int .i64 (nn : Int)]) (by simp [results, Tryd.results64, go_sem, World.cell?_setCell_same _ _ _ g0, g1, g2, g3]) rfl ⟨by rw [HV.out], ?_⟩
        have hbb : Below w.heap.size w w3 := (HB2.out.trans (HBW.out.mono (by rw [HS2.out]; omega))).trans (((Below.refl _ _).alloc (by omega) _).trans (hb3.mono (by rw [World.size_alloc]; omega)))
        exact (((hbb.setCell (by simp) _).setCell (by simp) _).setCell (by simp) _).setCell (by simp) _
      | false =>
        have hc := fun w => is_any t 4 sg w
        rw [hb] at hc
        unfold aggP at hc
        have HC := Lib.hid hc
        have HN2 : Hid (∀ j, j < k + 1 → isT t 4 (opAt j).1 = false) := Lib.hid (fun j hj => by
          rcases Nat.lt_or_ge j k with h | h
          · exact HN.out j h
          · obtain rfl : j = k := by omega
            rw [← HSG.out]; exact hb)
        clear hc hb
        go_wp2_with fail
        refine (HC.out _).mono ?_
        rintro e w3 ⟨rfl, hb3⟩
        have HB3 := Lib.hid hb3
        clear hb3
        go_wp2
        go_roundw
        case rel => exact ⟨k + 1, by omega, by go_num, HN2, HBW.out.trans (((Below.refl _ _).alloc (by omega) _).trans (HB3.out.mono (by rw [World.size_alloc]; have := HBW.out.size; omega)))⟩
        case measure => simp [intOf]; omega
    · obtain rfl : k = 18 := by omega
      have HV : Hid (opVal t = .agg #[.string ⟨#[]⟩, .int .i64 0, .int .i64 0, .int .i64 0]) := Lib.hid (by unfold opVal; rw [opT_miss HN.out])
      obtain ⟨a0, a1, a2, a3, a4, b0, f0⟩ := HA.out
      have d0 := (hbw.cell (p := ⟨w.heap.size + 1, 0, none⟩) (by simp; omega)).trans (b0 0 (by omega))
      have d1 := (hbw.cell (p := ⟨w.heap.size + 1, 1, none⟩) (by simp; omega)).trans (b0 1 (by omega))
      have d2 := (hbw.cell (p := ⟨w.heap.size + 1, 2, none⟩) (by simp; omega)).trans (b0 2 (by omega))
      have d3 := (hbw.cell (p := ⟨w.heap.size + 1, 3, none⟩) (by simp; omega)).trans (b0 3 (by omega))
      have e0 := (hbw.frozen (p := ⟨w.heap.size + 1, 0, none⟩) (by simp; omega)).trans (f0 0)
      have e1 := (hbw.frozen (p := ⟨w.heap.size + 1, 1, none⟩) (by simp; omega)).trans (f0 1)
      have e2 := (hbw.frozen (p := ⟨w.heap.size + 1, 2, none⟩) (by simp; omega)).trans (f0 2)
      have e3 := (hbw.frozen (p := ⟨w.heap.size + 1, 3, none⟩) (by simp; omega)).trans (f0 3)
      clear a0 a1 a2 a3 a4 b0 f0
      simp only [List.getElem?_toArray, Array.getD_eq_getD_getElem?, List.getElem?_cons_zero, List.getElem?_cons_succ, Option.getD_some] at d0 d1 d2 d3
      have HBW := Lib.hid hbw
      clear hbw
      have hbld : ∀ w : World, (Instr.build 80 #[]).run Tryd.prog w = .ok (.agg #[.string ⟨#[]⟩, .int .i64 0, .int .i64 0, .int .i64 0]) w := fun _ => by kernel_rfl
      go_wp2
      refine bodyPost_ret (v := .agg #[.string ⟨#[]⟩, .int .i64 0, .int .i64 0, .int .i64 0]) (by simp [results, Tryd.results64, go_sem, d0, d1, d2, d3]) rfl ⟨by rw [HV.out], ?_⟩
      have hbb : Below w.heap.size w wr := HB2.out.trans (HBW.out.mono (by rw [HS2.out]; omega))
      exact (((hbb.setCell (by simp) _).setCell (by simp) _).setCell (by simp) _).setCell (by simp) _
end Go.Proofs.YteggenldmkbhiaaDoor.Parse
namespace Go.Proofs.YteggenldmkbhiaaDoor.Parse
open Go.RowKit

/-! Which blocks are nobody's kids -/
theorem St.sep {E : Env} {X Y : Nat → Prop} {s : PS} {w : World} (h : St E X s w) (hY : ∀ b, Y b → X b ∨ w.heap.size ≤ b) : St E Y s w := by
  obtain ⟨v, h1, h2, kvs, h3, h4, h5⟩ := h
  refine ⟨v, h1, h2, kvs, h3, h4, fun i n kv hn hk => ?_⟩
  obtain ⟨h6, h7⟩ := h5 i n kv hn hk
  refine ⟨h6, fun b hb hyb => ?_⟩
  rcases hY b hyb with h8 | h8
  · exact h7 b hb h8
  · have := (h6.lt b hb).2; omega
theorem ownsRow_mono {w : World} {B B' : Nat} {e : TypeId} {size : Nat} {v : Value} {n : Nat} {xs : List Value} (h : w.ownsRow B e size v n xs) (hB : B' ≤ B) : w.ownsRow B' e size v n xs := by
  refine ⟨h.1, ?_⟩
  rcases h.2 with hn | ⟨g, cap, cur, rfl, hb, rest⟩
  · exact .inl hn
  · exact .inr ⟨g, cap, cur, rfl, Nat.le_trans hB hb, rest⟩
theorem KidsAt.mono {w : World} {B B' : Nat} {v : Value} {ks : List Nat} (h : KidsAt w B v ks) (hB : B' ≤ B) : KidsAt w B' v ks := ownsRow_mono h hB
theorem KidsAt.form {w : World} {B : Nat} {v : Value} {ks : List Nat} (h : KidsAt w B v ks) : ∃ (p : Option Addr) (n d : Nat), v = .slice p n d := by
  rcases h.2 with ⟨rfl, _⟩ | ⟨g, cap, cur, rfl, _⟩
  · exact ⟨_, _, _, rfl⟩
  · exact ⟨_, _, _, rfl⟩
theorem ownsRow_far {w w' : World} {B : Nat} {e : TypeId} {size : Nat} {v : Value} {n : Nat} {xs : List Value} {row : Option Nat} (h : w.ownsRow B e size v n xs) (hg : w.grownBy w' row) (hne : ∀ b, v.ownBlock = some b → row ≠ some b) : w'.ownsRow B e size v n xs :=
  h.kept hg (by
    cases hv : v.ownBlock with
    | none => exact .inl rfl
    | some b => exact .inr (fun e => hne b hv e.symm))
theorem block_type {w : World} {B : Nat} {e : TypeId} {size : Nat} {v : Value} {n : Nat} {xs : List Value} (h : w.ownsRow B e size v n xs) {b : Nat} (hb : v.ownBlock = some b) : ∃ c, w.heap[b]? = some (.cells c e (0, 0)) := by
  rcases h.2 with ⟨rfl, _⟩ | ⟨g, cap, cur, rfl, h1, h2, _⟩
  · simp [Value.ownBlock] at hb
  · simp [Value.ownBlock] at hb; subst hb; exact ⟨_, h2⟩
/-- Behind an append to a list of kids of the caller's own. -/
theorem St.grown {E : Env} {X : Nat → Prop} {s : PS} {w w' : World} {av : Value} {acc : List Nat} {B0 : Nat} (hE : E.ok) (h : St E X s w) (hk : KidsAt w B0 av acc) (hB : E.B ≤ B0) (hX : ∀ b, av.ownBlock = some b → X b)
    (hg : w.grownBy w' av.ownBlock) : St E X s w' := by
  obtain ⟨v, h1, h2, kvs, h3, h4, h5⟩ := h
  have hgl : E.g < w.heap.size := lt_of_block h1
  have hgt : ∀ k, k < w.heap.size → (∀ c, w.heap[k]? ≠ some (.cells c 3 (0, 0))) → w'.heap[k]? = w.heap[k]? := fun k hk0 hc => hg.block k hk0 (fun e => by
    obtain ⟨c, h0⟩ := block_type hk e.symm
    exact hc c h0)
  have hlow : ∀ k, k < E.B → k < w.heap.size → w'.heap[k]? = w.heap[k]? := fun k hk0 hk1 => hg.block k hk1 (fun e => by
    have := (hk.lt k e.symm).1; omega)
  refine ⟨v, ?_, ⟨fun k hk0 => ?_, ?_⟩, kvs, h3, ?_, fun i n kv hn hkv => ?_⟩
  · rw [hgt E.g hgl (fun c h0 => by rw [h1] at h0; simp at h0)]; exact h1
  · have hb : w'.heap[E.tb]? = w.heap[E.tb]? := hlow _ hE.1 (by have := hE.1; have := hE.2.1; omega)
    have hc : ∀ j, w'.cell? ⟨E.tb, j, none⟩ = w.cell? ⟨E.tb, j, none⟩ := fun j => World.cell?_of_block (a := ⟨E.tb, j, none⟩) hb
    obtain ⟨a, b, c, d, e⟩ := h2.1 k hk0
    exact ⟨(hc _).trans a, (hc _).trans b, (hc _).trans c, (hc _).trans d, (hc _).trans e⟩
  · obtain ⟨t, fr, h0⟩ := h2.2
    exact ⟨t, fr, (hlow 0 (by have := hE.1; omega) (lt_of_block h0)).trans h0⟩
  · refine ownsRow_far h4 hg (fun b hb e => ?_)
    obtain ⟨c, hc⟩ := block_type h4 hb
    obtain ⟨c', hc'⟩ := block_type hk e
    rw [hc] at hc'; simp at hc'
  · obtain ⟨h6, h7⟩ := h5 i n kv hn hkv
    exact ⟨ownsRow_far h6 hg (fun b hb e => h7 b hb (hX b e)), h7⟩

/-- In the middle of a function that began in w0 and is going to answer R: c is left, m tokens were taken without a node; av is a list of kids of its own. -/
structure Mid (E : Env) (X : Nat → Prop) (av : Value) (acc : List Nat) (w0 : World) (R : Res) (f m : Nat) (c : Code) (x : Loc) (s : PS) (w : World) : Prop where
  ok : E.ok
  ends : endsOnce E.l = true
  sep : ∀ b, X b → b < w0.heap.size
  base0 : E.B ≤ w0.heap.size
  ka : KidsAt w w0.heap.size av acc
  st : St E (fun b => X b ∨ av.ownBlock = some b) s w
  ext : Ext E.B w0 w
  pos : s.pos < E.l.length
  cnt : s.nodes.length + m ≤ s.pos
  res : R = exec E.l (run E.l f) c x s
  ne : R ≠ .out
  xlen : x.ks.length ≤ s.nodes.length
def nilV : Value := .slice none 0 0
def Post1 (E : Env) (X : Nat → Prop) (w0 : World) (R : Res) (e : Ending) (w' : World) : Prop :=
  (∃ k, R = .bad k ∧ e = thrown E k ∧ Ext E.B w0 w') ∨ (∃ (k : Nat) (s' : PS), R = .ok [k] s' ∧ e = .returned (.int .i64 (k : Int)) ∧ St E X s' w' ∧ Ext E.B w0 w')
def PostL (E : Env) (X : Nat → Prop) (w0 : World) (R : Res) (e : Ending) (w' : World) : Prop :=
  (∃ k, R = .bad k ∧ e = thrown E k ∧ Ext E.B w0 w') ∨ (∃ (ks : List Nat) (s' : PS) (v : Value), R = .ok ks s' ∧ e = .returned v ∧ KidsAt w' w0.heap.size v ks ∧ St E (fun b => X b ∨ v.ownBlock = some b) s' w' ∧ Ext E.B w0 w')
/-- A function's contract at so much fuel. -/
def C (E : Env) (fid : Nat) (args : Array Value) (nt : NT) (x : Loc) (f : Nat) : Prop :=
  ∀ (X : Nat → Prop) (w : World) (s : PS), (∀ b, X b → b < w.heap.size) → St E X s w → s.pos < E.l.length → s.nodes.length ≤ s.pos → (needs nt = true → (tokAt E.l s.pos).kind ≠ 0) → run E.l f nt x s ≠ .out → Calls Tryd.prog fid args w (Post1 E X w (run E.l f nt x s))
def CL (E : Env) (fid : Nat) (args : Array Value) (nt : NT) (x : Loc) (f : Nat) : Prop :=
  ∀ (X : Nat → Prop) (w : World) (s : PS), (∀ b, X b → b < w.heap.size) → St E X s w → s.pos < E.l.length → s.nodes.length ≤ s.pos → run E.l f nt x s ≠ .out → Calls Tryd.prog fid args w (PostL E X w (run E.l f nt x s))
def ptr (E : Env) : Value := .pointer (some ⟨E.g, 0, none⟩)
section
variable {E : Env} {X : Nat → Prop} {av : Value} {acc : List Nat} {w0 : World} {R : Res} {f m : Nat} {c d : Code} {x : Loc} {s : PS} {w : World}

theorem Mid.below (M : Mid E X av acc w0 R f m c x s w) {w' : World} (hb : Below w.heap.size w w') : Mid E X av acc w0 R f m c x s w' :=
  ⟨M.ok, M.ends, M.sep, M.base0, M.ka.ext (.of_below (B := 0) hb), M.st.below M.ok hb, M.ext.trans (.of_below hb), M.pos, M.cnt, M.res, M.ne, M.xlen⟩
theorem Mid.alloc (M : Mid E X av acc w0 R f m c x s w) (o : Obj) : Mid E X av acc w0 R f m c x s (w.alloc o) := M.below (below_one w o)
theorem Mid.drew (M : Mid E X av acc w0 R f m c x s w) : Mid E X av acc w0 R f m c x s w.drew := M.below (Below.refl _ _).drew
theorem Mid.base (M : Mid E X av acc w0 R f m c x s w) : E.B ≤ w.heap.size := by have := M.st.lt; have := M.ok.2.1; omega
theorem Mid.len (M : Mid E X av acc w0 R f m c x s w) : s.nodes.length ≤ 100000 := by have := M.cnt; have := M.pos; have := M.ok.2.2.1; omega
theorem Mid.post (M : Mid E X av acc w0 R f m .ret x s w) {k : Nat} (hk : x.ks = [k]) : Post1 E X w0 R (.returned (.int .i64 (k : Int))) w := .inr ⟨k, s, by rw [M.res, exec, hk], rfl, M.st.sep (fun b h => .inl (.inl h)), M.ext⟩
theorem Mid.postL (M : Mid E X av acc w0 R f m .ret x s w) (hk : x.ks = acc) : PostL E X w0 R (.returned av) w := .inr ⟨acc, s, av, by rw [M.res, exec, hk], rfl, M.ka, M.st, M.ext⟩
theorem Post1.bad {k : Nat} (h : R = .bad k) (hx : Ext E.B w0 w) : Post1 E X w0 R (thrown E k) w := .inl ⟨k, h, rfl, hx⟩
theorem PostL.bad {k : Nat} (h : R = .bad k) (hx : Ext E.B w0 w) : PostL E X w0 R (thrown E k) w := .inl ⟨k, h, rfl, hx⟩

theorem Mid.here (M : Mid E X av acc w0 R f m (.here c) x s w) : Mid E X av acc w0 R f m c { x with place := (tokAt E.l s.pos).place } s w := ⟨M.ok, M.ends, M.sep, M.base0, M.ka, M.st, M.ext, M.pos, M.cnt, M.res, M.ne, M.xlen⟩
theorem Mid.named (M : Mid E X av acc w0 R f m (.named c) x s w) : Mid E X av acc w0 R f m c { x with name := (tokAt E.l s.pos).text } s w := ⟨M.ok, M.ends, M.sep, M.base0, M.ka, M.st, M.ext, M.pos, M.cnt, M.res, M.ne, M.xlen⟩
theorem Mid.typ {t : Int} (M : Mid E X av acc w0 R f m (.typ t c) x s w) : Mid E X av acc w0 R f m c { x with typ := t } s w := ⟨M.ok, M.ends, M.sep, M.base0, M.ka, M.st, M.ext, M.pos, M.cnt, M.res, M.ne, M.xlen⟩
theorem Mid.op {o : Int} (M : Mid E X av acc w0 R f m (.op o c) x s w) : Mid E X av acc w0 R f m c { x with op := o } s w := ⟨M.ok, M.ends, M.sep, M.base0, M.ka, M.st, M.ext, M.pos, M.cnt, M.res, M.ne, M.xlen⟩
theorem Mid.numd (M : Mid E X av acc w0 R f m (.numd c) x s w) : Mid E X av acc w0 R f m c { x with num := (tokAt E.l s.pos).num, typ := if (tokAt E.l s.pos).uns then 2 else 1 } s w := ⟨M.ok, M.ends, M.sep, M.base0, M.ka, M.st, M.ext, M.pos, M.cnt, M.res, M.ne, M.xlen⟩
theorem Mid.look {i : Nat} {g : Int → Bs → Code} (M : Mid E X av acc w0 R f m (.look i g) x s w) : Mid E X av acc w0 R f m (g (tokAt E.l (s.pos + i)).kind (tokAt E.l (s.pos + i)).text) x s w := ⟨M.ok, M.ends, M.sep, M.base0, M.ka, M.st, M.ext, M.pos, M.cnt, M.res, M.ne, M.xlen⟩
theorem Mid.sees_yes {kind : Int} {text : Bs} (M : Mid E X av acc w0 R f m (sees kind text c d) x s w) (h : isT (tokAt E.l s.pos) kind text = true) : Mid E X av acc w0 R f m c x s w := by
  have h1 := M.look
  simp only [isT, decide_eq_true_eq] at h
  simp only [Nat.add_zero, if_pos h] at h1; exact h1
theorem Mid.sees_no {kind : Int} {text : Bs} (M : Mid E X av acc w0 R f m (sees kind text c d) x s w) (h : isT (tokAt E.l s.pos) kind text = false) : Mid E X av acc w0 R f m d x s w := by
  have h1 := M.look
  simp only [isT, decide_eq_false_iff_not] at h
  simp only [Nat.add_zero, if_neg h] at h1; exact h1
theorem Mid.bad (M : Mid E X av acc w0 R f m .fail x s w) : R = .bad s.pos := by rw [M.res, exec]
theorem isT_kind {t : PT} {kind : Int} {text : Bs} (h : isT t kind text = true) : t.kind = kind := by simp only [isT, decide_eq_true_eq] at h; exact h.1
/-- A token was taken: in the new world. -/
theorem Mid.took (M : Mid E X av acc w0 R f m (.take c) x s w) (hk : (tokAt E.l s.pos).kind ≠ 0) {w' : World} (hs : St E (fun b => X b ∨ av.ownBlock = some b) ⟨s.pos + 1, s.nodes⟩ w') (hx : Ext E.B w w') : Mid E X av acc w0 R f (m + 1) c x ⟨s.pos + 1, s.nodes⟩ w' :=
  ⟨M.ok, M.ends, M.sep, M.base0, M.ka.ext hx, hs, M.ext.trans hx, next_lt (endsOnce_last M.ends) M.pos hk, by have := M.cnt; simp only []; omega, by rw [M.res, exec, if_neg hk], M.ne, M.xlen⟩

/-! The helpers -/
theorem Mid.accept_no {kind : Int} {text : Bs} (M : Mid E X av acc w0 R f m c x s w) (h : isT (tokAt E.l s.pos) kind text = false) :
    Calls Tryd.prog 44 #[ptr E, .int .i64 kind, .string ⟨text.toArray⟩] w fun e w' => e = .returned (.bool false) ∧ Mid E X av acc w0 R f m c x s w' :=
  (Parse.accept_no M.ok M.st M.pos kind text h).mono fun _ _ ⟨he, hb⟩ => ⟨he, M.below hb⟩
theorem Mid.accept_yes {kind : Int} {text : Bs} (M : Mid E X av acc w0 R f m (.take c) x s w) (h : isT (tokAt E.l s.pos) kind text = true) (hk : kind ≠ 0) :
    Calls Tryd.prog 44 #[ptr E, .int .i64 kind, .string ⟨text.toArray⟩] w fun e w' => e = .returned (.bool true) ∧ Mid E X av acc w0 R f (m + 1) c x ⟨s.pos + 1, s.nodes⟩ w' :=
  (Parse.accept_yes M.ok M.st M.pos kind text h).mono fun _ _ ⟨he, hs, hx⟩ => ⟨he, M.took (by rw [isT_kind h]; exact hk) hs hx⟩
theorem Mid.sees (M : Mid E X av acc w0 R f m c x s w) (kind : Int) (text : Bs) :
    Calls Tryd.prog 34 #[ptr E, .int .i64 kind, .string ⟨text.toArray⟩] w fun e w' => e = .returned (.bool (isT (tokAt E.l s.pos) kind text)) ∧ Mid E X av acc w0 R f m c x s w' :=
  (sees_any M.ok M.st M.pos kind text).mono fun _ _ ⟨he, hb⟩ => ⟨he, M.below hb⟩
theorem Mid.peek (M : Mid E X av acc w0 R f m c x s w) :
    Calls Tryd.prog 24 #[ptr E] w fun e w' => e = .returned (.agg #[.int .i64 (tokAt E.l s.pos).kind, .int .i64 (tokAt E.l s.pos).place, .string ⟨(tokAt E.l s.pos).text.toArray⟩, .int .u32 (tokAt E.l s.pos).num, .bool (tokAt E.l s.pos).uns]) ∧ Mid E X av acc w0 R f m c x s w' :=
  (peek_any M.ok M.st M.pos).mono fun _ _ ⟨he, hb⟩ => ⟨he, M.below hb⟩
theorem Mid.take (M : Mid E X av acc w0 R f m (.take c) x s w) (hk : (tokAt E.l s.pos).kind ≠ 0) :
    Calls Tryd.prog 41 #[ptr E] w fun e w' => e = .returned (.agg #[.int .i64 (tokAt E.l s.pos).kind, .int .i64 (tokAt E.l s.pos).place, .string ⟨(tokAt E.l s.pos).text.toArray⟩, .int .u32 (tokAt E.l s.pos).num, .bool (tokAt E.l s.pos).uns]) ∧
      Mid E X av acc w0 R f (m + 1) c x ⟨s.pos + 1, s.nodes⟩ w' :=
  (take_any M.ok M.st M.pos).mono fun _ _ ⟨he, hs, hx⟩ => ⟨he, M.took hk hs hx⟩
def Either (E : Env) (w0 : World) (R : Res) (P : Ending → World → Prop) (e : Ending) (w' : World) : Prop := (∃ k, R = .bad k ∧ e = thrown E k ∧ Ext E.B w0 w') ∨ P e w'
theorem Mid.sign {text : Bs} (M : Mid E X av acc w0 R f m (sg text c) x s w) :
    Calls Tryd.prog 42 #[ptr E, .string ⟨text.toArray⟩] w (Either E w0 R fun e w' => e = .returned (.tuple #[]) ∧ isT (tokAt E.l s.pos) 4 text = true ∧ Mid E X av acc w0 R f (m + 1) c x ⟨s.pos + 1, s.nodes⟩ w') := by
  cases h : isT (tokAt E.l s.pos) 4 text with
  | true => exact (sign_yes M.ok M.st M.pos text h).mono fun _ _ ⟨he, hs, hx⟩ => .inr ⟨he, rfl, (M.sees_yes h).took (by rw [isT_kind h]; decide) hs hx⟩
  | false => exact (sign_no M.ok M.st M.pos text h).mono fun _ _ ⟨he, hx⟩ => .inl ⟨s.pos, (M.sees_no h).bad, he, M.ext.trans hx⟩
theorem Mid.word {text : Bs} (M : Mid E X av acc w0 R f m (wd text c) x s w) :
    Calls Tryd.prog 77 #[ptr E, .string ⟨text.toArray⟩] w (Either E w0 R fun e w' => e = .returned (.tuple #[]) ∧ isT (tokAt E.l s.pos) 3 text = true ∧ Mid E X av acc w0 R f (m + 1) c x ⟨s.pos + 1, s.nodes⟩ w') := by
  cases h : isT (tokAt E.l s.pos) 3 text with
  | true => exact (word_yes M.ok M.st M.pos text h).mono fun _ _ ⟨he, hs, hx⟩ => .inr ⟨he, rfl, (M.sees_yes h).took (by rw [isT_kind h]; decide) hs hx⟩
  | false => exact (word_no M.ok M.st M.pos text h).mono fun _ _ ⟨he, hx⟩ => .inl ⟨s.pos, (M.sees_no h).bad, he, M.ext.trans hx⟩
theorem Mid.name (M : Mid E X av acc w0 R f m (nameC c) x s w) :
    Calls Tryd.prog 47 #[ptr E] w (Either E w0 R fun e w' => e = .returned (.tuple #[.string ⟨(tokAt E.l s.pos).text.toArray⟩, .int .i64 (tokAt E.l s.pos).place]) ∧
      Mid E X av acc w0 R f (m + 1) c { x with place := (tokAt E.l s.pos).place, name := (tokAt E.l s.pos).text } ⟨s.pos + 1, s.nodes⟩ w') := by
  have h1 := M.look
  simp only [Nat.add_zero] at h1
  by_cases h : (tokAt E.l s.pos).kind = 1
  · rw [if_pos h] at h1
    exact (name_yes M.ok M.st M.pos h).mono fun _ _ ⟨he, hs, hx⟩ => .inr ⟨he, h1.here.named.took (by rw [h]; decide) hs hx⟩
  · rw [if_neg h] at h1
    exact (name_no M.ok M.st M.pos h).mono fun _ _ ⟨he, hx⟩ => .inl ⟨s.pos, h1.bad, he, M.ext.trans hx⟩
theorem Mid.nameO (M : Mid E X av acc w0 R f m (nameO c) x s w) :
    Calls Tryd.prog 47 #[ptr E] w (Either E w0 R fun e w' => e = .returned (.tuple #[.string ⟨(tokAt E.l s.pos).text.toArray⟩, .int .i64 (tokAt E.l s.pos).place]) ∧
      Mid E X av acc w0 R f (m + 1) c { x with name := (tokAt E.l s.pos).text } ⟨s.pos + 1, s.nodes⟩ w') := by
  have h1 := M.look
  simp only [Nat.add_zero] at h1
  by_cases h : (tokAt E.l s.pos).kind = 1
  · rw [if_pos h] at h1
    exact (name_yes M.ok M.st M.pos h).mono fun _ _ ⟨he, hs, hx⟩ => .inr ⟨he, h1.named.took (by rw [h]; decide) hs hx⟩
  · rw [if_neg h] at h1
    exact (name_no M.ok M.st M.pos h).mono fun _ _ ⟨he, hx⟩ => .inl ⟨s.pos, h1.bad, he, M.ext.trans hx⟩
theorem Mid.typeWord (M : Mid E X av acc w0 R f m (typeWord c) x s w) :
    Calls Tryd.prog 46 #[ptr E] w (Either E w0 R fun e w' => ∃ n : Int, e = .returned (.tuple #[.int .i64 n, .int .i64 (tokAt E.l s.pos).place]) ∧
      Mid E X av acc w0 R f (m + 1) c { x with place := (tokAt E.l s.pos).place, typ := n } ⟨s.pos + 1, s.nodes⟩ w') := by
  have h1 := M.look
  simp only [Nat.add_zero] at h1
  cases h : typeT (tokAt E.l s.pos).kind (tokAt E.l s.pos).text with
  | some n =>
    simp only [h] at h1
    exact (typeWord_yes M.ok M.st M.pos h).mono fun _ _ ⟨he, hs, hx⟩ => .inr ⟨n, he, h1.here.typ.took (by rw [typeT_kind h]; decide) hs hx⟩
  | none =>
    simp only [h] at h1
    exact (typeWord_no M.ok M.st M.pos h).mono fun _ _ ⟨he, hx⟩ => .inl ⟨s.pos, h1.bad, he, M.ext.trans hx⟩
theorem Mid.drop (M : Mid E X av acc w0 R f m c x s w) : Mid E X nilV [] w0 R f m c x s w :=
  ⟨M.ok, M.ends, M.sep, M.base0, World.ownsRow_nil w _ 3 1, M.st.sep (fun b h => by rcases h with h | h; exact .inl (.inl h); simp [nilV, Value.ownBlock] at h), M.ext, M.pos, M.cnt, M.res, M.ne, M.xlen⟩
theorem Mid.add {kind : Int} (M : Mid E X av acc w0 R f (m + 1) (.add kind c) x s w) (hk : x.ks = acc) :
    Calls Tryd.prog 26 #[ptr E, .agg #[.int .i64 kind, .int .i64 x.place, .int .i64 x.op, .int .i64 x.typ, .int .i64 x.num, .int .i64 0, .string ⟨x.name.toArray⟩, av]] w fun e w' =>
      ∃ k : Nat, e = .returned (.int .i64 (k : Int)) ∧ Mid E X nilV [] w0 R f m c { x with ks := [k] } ⟨s.pos, s.nodes ++ [⟨kind, x.place, x.op, x.typ, x.num, x.name, x.ks⟩]⟩ w' :=
  (add_any M.ok (M.drop.st) M.len ⟨kind, x.place, x.op, x.typ, x.num, x.name, x.ks⟩ av (by rw [hk]; exact M.ka.mono M.base0) (fun b hb h => by
    rcases h with h | h
    · have := M.sep b h; have := (M.ka.lt b hb).1; omega
    · simp [nilV, Value.ownBlock] at h)).mono fun _ w' ⟨he, hs, hx⟩ =>
    ⟨s.nodes.length, he, M.ok, M.ends, M.sep, M.base0, World.ownsRow_nil w' _ 3 1, hs, M.ext.trans hx, M.pos, by have := M.cnt; simp; omega, M.res, M.ne, by simp⟩
theorem Mid.xlt (M : Mid E X av acc w0 R f m c x s w) : ∀ b, (X b ∨ av.ownBlock = some b) → b < w.heap.size := fun b h => by
  rcases h with h | h
  · have := M.sep b h; have := M.ext.size; omega
  · exact (M.ka.lt b h).2
theorem Mid.call {fid : Nat} {args : Array Value} {nt : NT} {p : Bool} (M : Mid E X av acc w0 R f m (.call nt p c) x s w) (hc : C E fid args nt { typ := if p then x.typ else 0 } f) (hsp : spare nt = 0) (hk : needs nt = true → (tokAt E.l s.pos).kind ≠ 0) :
    Calls Tryd.prog fid args w (Either E w0 R fun e w' => ∃ (k : Nat) (s' : PS), e = .returned (.int .i64 (k : Int)) ∧ Mid E X av acc w0 R f m c { x with ks := x.ks ++ [k] } s' w') := by
  have hres := M.res
  simp only [exec] at hres
  have hne : run E.l f nt { typ := if p then x.typ else 0 } s ≠ .out := fun h => by rw [h] at hres; exact M.ne hres
  refine (hc _ w s M.xlt M.st M.pos (by have := M.cnt; omega) hk hne).mono ?_
  rintro e w' (⟨k, h1, he, hx⟩ | ⟨k, s', h1, he, hs, hx⟩)
  · exact .inl ⟨k, by rw [hres, h1]; rfl, he, M.ext.trans hx⟩
  · have hl := endsOnce_last M.ends
    have hp := run_pos hl _ _ _ _ _ _ h1
    have hn := run_count _ _ _ _ _ _ h1
    have hq := run_len _ _ _ _ _ _ h1
    refine .inr ⟨k, s', he, M.ok, M.ends, M.sep, M.base0, M.ka.ext hx, hs, M.ext.trans hx, hp.2.2 M.pos, by have := M.cnt; omega, by rw [hres, h1]; rfl, M.ne, by have := M.xlen; simp at hq ⊢; omega⟩
theorem Mid.callL {fid : Nat} {args : Array Value} {nt : NT} {p : Bool} (M : Mid E X nilV [] w0 R f m (.call nt p c) x s w) (hc : CL E fid args nt { typ := if p then x.typ else 0 } f) (hsp : spare nt = 0) (hx0 : x.ks = []) :
    Calls Tryd.prog fid args w (Either E w0 R fun e w' => ∃ (ks : List Nat) (s' : PS) (p : Option Addr) (n d : Nat), e = .returned (.slice p n d) ∧ Mid E X (.slice p n d) ks w0 R f m c { x with ks := ks } s' w') := by
  have hres := M.res
  simp only [exec] at hres
  have hne : run E.l f nt { typ := if p then x.typ else 0 } s ≠ .out := fun h => by rw [h] at hres; exact M.ne hres
  refine (hc X w s (fun b h => M.xlt b (.inl h)) (M.st.sep (fun b h => .inl (.inl h))) M.pos (by have := M.cnt; omega) hne).mono ?_
  rintro e w' (⟨k, h1, he, hx⟩ | ⟨ks, s', v, h1, he, hv, hs, hx⟩)
  · exact .inl ⟨k, by rw [hres, h1]; rfl, he, M.ext.trans hx⟩
  · have hl := endsOnce_last M.ends
    have hp := run_pos hl _ _ _ _ _ _ h1
    have hn := run_count _ _ _ _ _ _ h1
    have hq := run_len _ _ _ _ _ _ h1
    obtain ⟨p, n, d, rfl⟩ := hv.form
    refine .inr ⟨ks, s', p, n, d, he, M.ok, M.ends, M.sep, M.base0, hv.mono M.ext.size, hs, M.ext.trans hx, hp.2.2 M.pos, by have := M.cnt; omega, by rw [hres, h1, hx0]; rfl, M.ne, by have := M.xlen; simp at hq ⊢; omega⟩
/-- A function of its own goes on in the place of this one. -/
theorem Mid.tailC {fid : Nat} {args : Array Value} {nt : NT} (M : Mid E X av acc w0 R f m (.tail nt) x s w) (hc : C E fid args nt x f) (hk : needs nt = true → (tokAt E.l s.pos).kind ≠ 0) :
    Calls Tryd.prog fid args w (Post1 E X w0 R) := by
  have hres := M.res
  simp only [exec] at hres
  refine (hc X w s (fun b h => M.xlt b (.inl h)) (M.st.sep (fun b h => .inl (.inl h))) M.pos (by have := M.cnt; omega) hk (by rw [← hres]; exact M.ne)).mono ?_
  rw [← hres]
  rintro e w' (⟨k, h1, he, hx⟩ | ⟨k, s', h1, he, hs, hx⟩)
  · exact .inl ⟨k, h1, he, M.ext.trans hx⟩
  · exact .inr ⟨k, s', h1, he, hs, M.ext.trans hx⟩
/-- A loop goes on. -/
theorem Mid.tail {nt : NT} (M : Mid E X av acc w0 R f m (.tail nt) x s w) : ∃ f', f = f' + 1 ∧ Mid E X av acc w0 R f' 0 (code nt) x s w := by
  cases f with
  | zero => exact absurd (by rw [M.res]; rfl) M.ne
  | succ f => exact ⟨f, rfl, M.ok, M.ends, M.sep, M.base0, M.ka, M.st, M.ext, M.pos, by have := M.cnt; omega, M.res, M.ne, M.xlen⟩
theorem Mid.start (hE : E.ok) (he : endsOnce E.l = true) (hX : ∀ b, X b → b < w.heap.size) (hs : St E X s w) (hp : s.pos < E.l.length) (hn : s.nodes.length ≤ s.pos) {nt : NT} (hne : run E.l (f + 1) nt x s ≠ .out) (hx0 : x.ks = []) :
    Mid E X nilV [] w (run E.l (f + 1) nt x s) f 0 (code nt) x s w :=
  ⟨hE, he, hX, by have := hs.lt; have := hE.2.1; omega, World.ownsRow_nil w _ 3 1, hs.sep (fun b h => by rcases h with h | h; exact .inl h; simp [nilV, Value.ownBlock] at h), Ext.refl _ _, hp, by omega, rfl, hne, by rw [hx0]; simp⟩
/-- A new list of kids. -/
theorem Mid.kids (M : Mid E X nilV [] w0 R f m c x s w) (cs : Array Value) (n : Nat) (ks : List Nat) (hks : cs.toList = ks.map fun (k : Nat) => Value.int .i64 (k : Int)) (hn : ks.length = n) (hm : n ≤ 100000) :
    Mid E X (.slice (some ⟨w.heap.size, 0, none⟩) n n) ks w0 R f m c x s (w.alloc (.cells cs 3)) := by
  have hcs : cs.size = n := by rw [← hn, ← List.length_map (f := fun (k : Nat) => Value.int .i64 (k : Int)), ← hks]; simp
  have hk : KidsAt (w.alloc (.cells cs 3)) w0.heap.size (.slice (some ⟨w.heap.size, 0, none⟩) n n) ks := by
    have := World.ownsRow_lit (base := w0.heap.size) (e := 3) (size := 1) w cs n M.ext.size (by unfold maxLen; omega) (by omega)
    rw [hks] at this; unfold KidsAt; rw [hn]; exact this
  refine ⟨M.ok, M.ends, M.sep, M.base0, hk, ?_, M.ext.trans (.of_below (below_one w _)), M.pos, M.cnt, M.res, M.ne, M.xlen⟩
  exact (M.st.sep (fun b h => by
    rcases h with h | h
    · exact .inl (.inl h)
    · simp [Value.ownBlock] at h; omega)).below M.ok (below_one w _)
theorem Mid.kids1 (M : Mid E X nilV [] w0 R f m c x s w) (a : Nat) : Mid E X (.slice (some ⟨w.heap.size, 0, none⟩) 1 1) [a] w0 R f m c x s (w.alloc (.cells #[.int .i64 (a : Int)] 3)) := M.kids _ 1 [a] rfl rfl (by omega)
theorem Mid.kids2 (M : Mid E X nilV [] w0 R f m c x s w) (a b : Nat) : Mid E X (.slice (some ⟨w.heap.size, 0, none⟩) 2 2) [a, b] w0 R f m c x s (w.alloc (.cells #[.int .i64 (a : Int), .int .i64 (b : Int)] 3)) := M.kids _ 2 [a, b] rfl rfl (by omega)
theorem Mid.kids3 (M : Mid E X nilV [] w0 R f m c x s w) (a b d : Nat) : Mid E X (.slice (some ⟨w.heap.size, 0, none⟩) 3 3) [a, b, d] w0 R f m c x s (w.alloc (.cells #[.int .i64 (a : Int), .int .i64 (b : Int), .int .i64 (d : Int)] 3)) := M.kids _ 3 [a, b, d] rfl rfl (by omega)
theorem Mid.kids4 (M : Mid E X nilV [] w0 R f m c x s w) (a b d g : Nat) : Mid E X (.slice (some ⟨w.heap.size, 0, none⟩) 4 4) [a, b, d, g] w0 R f m c x s (w.alloc (.cells #[.int .i64 (a : Int), .int .i64 (b : Int), .int .i64 (d : Int), .int .i64 (g : Int)] 3)) := M.kids _ 4 [a, b, d, g] rfl rfl (by omega)
/-- The list of kids has grown. -/
theorem Mid.grow (M : Mid E X av acc w0 R f m c x s w) {w' : World} {g cap k : Nat} (hown : w'.ownsRow w0.heap.size 3 1 (.slice (some ⟨g, 0, none⟩) (acc.length + 1) cap) (acc.length + 1) ((acc.map fun (k : Nat) => Value.int .i64 (k : Int)) ++ [.int .i64 (k : Int)]))
    (hg : w.grownBy w' av.ownBlock) (hat : av.ownBlock = some g ∨ g = w.heap.size) : Mid E X (.slice (some ⟨g, 0, none⟩) (acc.length + 1) cap) (acc ++ [k]) w0 R f m c x s w' := by
  have hx : Ext E.B w0 w' := by
    refine ⟨hg.os.trans M.ext.os, hg.tape.trans M.ext.tape, hg.output.trans M.ext.output, Nat.le_trans M.ext.size hg.size, fun i hi hp => ?_⟩
    rw [hg.block i (Nat.lt_of_lt_of_le hi M.ext.size) (fun e => by have := (M.ka.lt i e.symm).1; omega)]
    exact M.ext.block i hi hp
  refine ⟨M.ok, M.ends, M.sep, M.base0, by unfold KidsAt; simpa using hown, ?_, hx, M.pos, M.cnt, M.res, M.ne, M.xlen⟩
  have h1 : St E (fun b => X b ∨ av.ownBlock = some b ∨ b = g) s w := M.st.sep (fun b h => by
    rcases h with h | h | h
    · exact .inl (.inl h)
    · exact .inl (.inr h)
    · subst h
      rcases hat with h0 | h0
      · exact .inl (.inr h0)
      · exact .inr (by omega))
  exact (h1.grown M.ok M.ka M.base0 (fun b h => .inr (.inl h)) hg).sep (fun b h => by
    rcases h with h | h
    · exact .inl (.inl h)
    · simp [Value.ownBlock] at h; exact .inl (.inr (.inr h.symm)))
theorem Mid.acceptB {kind : Int} {text : Bs} (M : Mid E X av acc w0 R f m (Parse.sees kind text (.take c) d) x s w) (hk : kind ≠ 0) :
    Calls Tryd.prog 44 #[ptr E, .int .i64 kind, .string ⟨text.toArray⟩] w fun e w' => (e = .returned (.bool true) ∧ isT (tokAt E.l s.pos) kind text = true ∧ Mid E X av acc w0 R f (m + 1) c x ⟨s.pos + 1, s.nodes⟩ w') ∨ (e = .returned (.bool false) ∧ Mid E X av acc w0 R f m d x s w') := by
  cases h : isT (tokAt E.l s.pos) kind text with
  | true => exact ((M.sees_yes h).accept_yes h hk).mono fun _ _ ⟨he, M1⟩ => .inl ⟨he, rfl, M1⟩
  | false => exact ((M.sees_no h).accept_no h).mono fun _ _ ⟨he, M1⟩ => .inr ⟨he, M1⟩
theorem Mid.seesB {kind : Int} {text : Bs} (M : Mid E X av acc w0 R f m (Parse.sees kind text c d) x s w) :
    Calls Tryd.prog 34 #[ptr E, .int .i64 kind, .string ⟨text.toArray⟩] w fun e w' => (e = .returned (.bool true) ∧ isT (tokAt E.l s.pos) kind text = true ∧ Mid E X av acc w0 R f m c x s w') ∨ (e = .returned (.bool false) ∧ isT (tokAt E.l s.pos) kind text = false ∧ Mid E X av acc w0 R f m d x s w') := by
  cases h : isT (tokAt E.l s.pos) kind text with
  | true => exact (Mid.sees (M.sees_yes h) kind text).mono fun _ _ ⟨he, M1⟩ => .inl ⟨by rw [he, h], rfl, M1⟩
  | false => exact (Mid.sees (M.sees_no h) kind text).mono fun _ _ ⟨he, M1⟩ => .inr ⟨by rw [he, h], rfl, M1⟩
end
theorem info3 : (Tryd.prog.info? 3).map (fun i => (i.zero, i.size, i.bytes)) = some (some (.int .i64 0), 1, 8) := by kernel_rfl
/-- The append to a list of kids, in a walk. -/
theorem wpList_kids {E : Env} {X : Nat → Prop} {av : Value} {acc : List Nat} {w0 : World} {R : Res} {f m : Nat} {c : Code} {x : Loc} {s : PS} {w : World} {ops : Array Oper} {rest : List Oper} {o : Oper} {a : Act} {Q : Exit → Act → World → Prop} (hgd : o.guard = none) (p q : Operand)
    (ho : o.op = .call { callee := .builtin .append, args := #[p, q], argTypes := #[32, 32] }) (M : Mid E X av acc w0 R f m c x s w) (hp : a.eval p = av) (k : Nat) (hxk : x.ks = acc ++ [k])
    (hq : a.eval q = .slice (some ⟨w.heap.size, 0, none⟩) 1 1)
    (h : ∀ (p : Option Addr) (n d : Nat) w', Mid E X (.slice p n d) (acc ++ [k]) w0 R f m c x s w' → wpList Tryd.prog ops Q rest (a.put o.dst (.slice p n d)) w') : wpList Tryd.prog ops Q (o :: rest) a (w.alloc (.cells #[.int .i64 (k : Int)] 3)) := by
  obtain ⟨i0, hi, hz0, hz1, hz2⟩ := info_parts info3
  have M1 := M.alloc (.cells #[.int .i64 (k : Int)] 3)
  have hl : acc.length ≤ 100000 := by have h1 := M.xlen; have h2 := M.len; rw [hxk] at h1; simp at h1; omega
  have hka := M1.ka
  unfold KidsAt at hka
  refine wpList_append_lies _ hgd p q 32 ho w0.heap.size 3 i0 _ 1 8 Tryd.underlying32 hi hz0 hz1 hz2 rfl (by omega) av acc.length _ hp hka ⟨w.heap.size, 0, none⟩ 1 1 [.int .i64 (k : Int)] hq rfl
    (World.news_of_block (cs := #[.int .i64 (k : Int)]) (t := 3) (fr := (0, 0)) (heap_alloc_new w _)) (by simp [Value.oneCell']) (by omega) (by unfold maxLen; omega) (by omega) M1.ext.size _ rfl ?_
  intro g cap w' hown hg hat hlt
  exact h _ _ _ _ (M1.grow hown hg hat)
/-- What a walk of a function's code gives. -/
theorem C.mk {E : Env} (hE : E.ok) (he : endsOnce E.l = true) {fid : Nat} {args : Array Value} {nt : NT} {x : Loc} {f : Nat}
    (h : ∀ (X : Nat → Prop) (w : World) (s : PS) (R : Res), Mid E X nilV [] w R f 0 (code nt) x s w → (needs nt = true → (tokAt E.l s.pos).kind ≠ 0) → Calls Tryd.prog fid args w (Post1 E X w R)) (hx0 : x.ks = [] := by rfl) : C E fid args nt x (f + 1) :=
  fun X w s hX hs hp hn hk hne => h X w s _ (Mid.start hE he hX hs hp hn hne hx0) hk
theorem CL.mk {E : Env} (hE : E.ok) (he : endsOnce E.l = true) {fid : Nat} {args : Array Value} {nt : NT} {x : Loc} {f : Nat}
    (h : ∀ (X : Nat → Prop) (w : World) (s : PS) (R : Res), Mid E X nilV [] w R f 0 (code nt) x s w → Calls Tryd.prog fid args w (PostL E X w R)) (hx0 : x.ks = [] := by rfl) : CL E fid args nt x (f + 1) :=
  fun X w s hX hs hp hn hne => h X w s _ (Mid.start hE he hX hs hp hn hne hx0)
end Go.Proofs.YteggenldmkbhiaaDoor.Parse
namespace Go.Proofs.YteggenldmkbhiaaDoor.Parse
open Go.RowKit

/-- The contracts of all functions that call one another, at so much fuel. -/
structure Cs (E : Env) (f : Nat) : Prop where
  item : C E 25 #[ptr E] .item {} f
  enum : C E 35 #[ptr E] .enum {} f
  entry : C E 43 #[ptr E] .entry {} f
  func : C E 37 #[ptr E] .func {} f
  params : CL E 48 #[ptr E] .params {} f
  param : C E 54 #[ptr E] .param {} f
  decl : C E 38 #[ptr E] .decl {} f
  vard : ∀ t : Int, C E 50 #[ptr E, .int .i64 t] .vard { typ := t } f
  block : C E 49 #[ptr E] .block {} f
  stmt : C E 55 #[ptr E] .stmt {} f
  wordS : C E 60 #[ptr E] .wordS {} f
  label : C E 61 #[ptr E] .label {} f
  bracketed : C E 76 #[ptr E] .bracketed {} f
  ifS : C E 65 #[ptr E] .ifS {} f
  decided : ∀ k : Int, C E 66 #[ptr E, .int .i64 k] (.decided k) {} f
  doS : C E 67 #[ptr E] .doS {} f
  forS : C E 68 #[ptr E] .forS {} f
  forFirst : C E 78 #[ptr E] .forFirst {} f
  upTo : ∀ b : Bool, C E 79 #[ptr E, .string ⟨(stopOf b).toArray⟩] (.upTo b) {} f
  leave : ∀ k : Int, C E 69 #[ptr E, .int .i64 k] (.leave k) {} f
  returnS : C E 70 #[ptr E] .returnS {} f
  gotoS : C E 71 #[ptr E] .gotoS {} f
  caseS : C E 72 #[ptr E] .caseS {} f
  defaultS : C E 73 #[ptr E] .defaultS {} f
  expr : C E 58 #[ptr E] .expr {} f
  assign : C E 56 #[ptr E] .assign {} f
  cond : C E 52 #[ptr E] .cond {} f
  climb : ∀ n : Nat, 1 ≤ n → n ≤ 11 → C E 57 #[ptr E, .int .i64 (n : Int)] (.climb n) {} f
  unary : C E 63 #[ptr E] .unary {} f
  posts : C E 75 #[ptr E] .posts {} f
  primary : C E 80 #[ptr E] .primary {} f
  num : C E 81 #[ptr E] .num {} f
  named : C E 82 #[ptr E] .named {} f
  args : CL E 83 #[ptr E] .args {} f

set_option maxHeartbeats 4000000 in
set_option maxRecDepth 100000 in
theorem expr_c {E : Env} (hE : E.ok) (he : endsOnce E.l = true) {f : Nat} (IH : ∀ f', f' ≤ f → Cs E f') : C E 58 #[ptr E] .expr {} (f + 1) := by
  refine C.mk hE he fun X w s R M _ => ?_
  have HM := Lib.hid M
  have HI := Lib.hid IH
  clear M IH he hE
  have hf1 := field1
  unfold ptr
  go_enter Tryd.func58, Tryd.ntmps58
  go_wp2_with fail
  refine (Mid.call HM.out (HI.out f (Nat.le_refl _)).assign rfl (by simp [needs])).mono ?_
  rintro e w1 (⟨k, hk, rfl, hx⟩ | ⟨k, s1, rfl, M1⟩)
  · exact ⟨rfl, Post1.bad hk hx⟩
  obtain ⟨f1, hf, M2⟩ := M1.tail
  have HM1 := Lib.hid M2
  have HF := Lib.hid hf
  clear M1 M2 hf HM
  go_wp2
  go_loopg [3] f1 (fun f' v wr => ∃ (k : Nat) (pl : Int) (s : PS), v = .int .i64 k ∧ Hid (f' ≤ f1 ∧ Mid E X nilV [] w R f' 0 (code .exprL) { place := pl, ks := [k] } s wr))
  case atStart => exact ⟨k, _, s1, rfl, Lib.hid ⟨Nat.le_refl _, HM1.out⟩⟩
  case round =>
    obtain ⟨k, pl, s, rfl, HR⟩ := hrel
    obtain ⟨hle, M⟩ := HR.out
    clear HR
    have HL := Lib.hid hle
    clear hle HM1
    cases hb : isT (tokAt E.l s.pos) 4 [44] with
    | true =>
      have M1 := (M.sees_yes hb).here
      have hc := M1.sees 4 [44]
      rw [hb] at hc
      have HC := Lib.hid hc
      have HB := Lib.hid hb
      clear hc hb M M1
      go_wp2_with fail
      refine HC.out.mono ?_
      rintro e w2 ⟨rfl, M2⟩
      have HM2 := Lib.hid M2
      clear M2
      go_wp2_with fail
      refine (Mid.take HM2.out (by rw [isT_kind HB.out]; decide)).mono ?_
      rintro e w3 ⟨rfl, M3⟩
      have HM3 := Lib.hid M3
      clear M3 HM2
      go_wp2_with fail
      refine (Mid.call HM3.out (HI.out _ (by have := HF.out; have := HL.out; omega)).assign rfl (by simp [needs])).mono ?_
      rintro e w4 (⟨k4, hk, rfl, hx⟩ | ⟨k4, s4, rfl, M4⟩)
      · exact ⟨rfl, Post1.bad hk hx⟩
      have HM4 := Lib.hid M4
      clear M4 HM3
      go_wp2_with fail
      refine (Mid.add (HM4.out.kids2 k k4) rfl).mono ?_
      rintro e w5 ⟨k5, rfl, M5⟩
      obtain ⟨f2, hf2, M6⟩ := M5.tail
      have HM6 := Lib.hid M6
      have HF2 := Lib.hid hf2
      clear M5 M6 hf2 HM4
      go_wp2
      go_roundg f2
      case rel => exact ⟨k5, _, _, rfl, Lib.hid ⟨by have := HF2.out; have := HL.out; omega, HM6.out⟩⟩
      case measure => have := HF2.out; omega
    | false =>
      have M1 := M.sees_no hb
      have hc := M1.sees 4 [44]
      rw [hb] at hc
      have HC := Lib.hid hc
      clear hc hb M M1
      go_wp2_with fail
      refine HC.out.mono ?_
      rintro e w2 ⟨rfl, M2⟩
      have HM2 := Lib.hid M2
      clear M2
      go_wp2
      go_ret
      exact HM2.out.post rfl
end Go.Proofs.YteggenldmkbhiaaDoor.Parse
