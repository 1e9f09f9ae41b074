/- Modules, plainly, and how they lie in memory. -/
import Derived.WalkKit
import Derived.WalkSpells
import Derived.WalkLawsBesides
import Derived.Lib.Hide
import Derived.OwnWalk
import Derived.RowKit
namespace Go.Proofs.YthojmbljlehpbaaGreatDoor.Graph
open Go.RowKit

structure PIns where
  op : Int
  d : Int
  a : Int
  b : Int
  f : Int
  n : Int
  args : List Int
  arrs : List Int
deriving DecidableEq
structure PCase where
  n : Int
  to : Int
deriving DecidableEq
structure PEnd where
  kind : Int
  op : Int
  a : Int
  b : Int
  n : Int
  to : Int
  els : Int
  cases : List PCase
  targets : List Int
deriving DecidableEq
structure PBlk where
  code : List PIns
  fin : PEnd
deriving DecidableEq
structure PArr where
  kind : Int
  n : Int
deriving DecidableEq
structure PGr where
  params : List Int
  temps : Int
  arrays : List PArr
  blocks : List PBlk
deriving DecidableEq
structure PMod where
  globals : List Int
  arrays : List Int
  funcs : List PGr
  main : Int
deriving DecidableEq

/-- A slice of n elements of so many cells; of each P says how it lies. -/
def SlR (w : World) (sz : Nat) (v : Value) (n : Nat) (P : Nat → Nat → Nat → Prop) : Prop :=
  (n = 0 ∧ ∃ p c, v = .slice p 0 c) ∨ ∃ b o c, v = .slice (some ⟨b, o, none⟩) n c ∧ 0 < n ∧ (n ≤ c ∧ c ≤ 9223372036854775807) ∧ b < w.heap.size ∧ ∀ i, i < n → P i b (o + i * sz)
theorem SlR.form {w : World} {sz : Nat} {v : Value} {n : Nat} {P : Nat → Nat → Nat → Prop} (h : SlR w sz v n P) : ∃ p c, v = .slice p n c := by
  rcases h with ⟨rfl, p, c, rfl⟩ | ⟨b, o, c, rfl, _⟩
  · exact ⟨p, c, rfl⟩
  · exact ⟨_, _, rfl⟩
theorem SlR.form2 {w : World} {sz : Nat} {v : Value} {n : Nat} {P : Nat → Nat → Nat → Prop} (h : SlR w sz v n P) (hn : 0 < n) :
    ∃ b o c, v = .slice (some ⟨b, o, none⟩) n c ∧ (n ≤ c ∧ c ≤ 9223372036854775807) ∧ b < w.heap.size ∧ ∀ i, i < n → P i b (o + i * sz) := by
  rcases h with ⟨rfl, _⟩ | ⟨b, o, c, rfl, _, h1, h2, h3⟩
  · omega
  · exact ⟨b, o, c, rfl, h1, h2, h3⟩
theorem SlR.at_ {w : World} {sz : Nat} {n m b o c : Nat} {P : Nat → Nat → Nat → Prop} (h : SlR w sz (.slice (some ⟨b, o, none⟩) m c) n P) {i : Nat} (hi : i < n) : P i b (o + i * sz) ∧ b < w.heap.size := by
  rcases h with ⟨rfl, _⟩ | ⟨b', o', c', h1, _, _, h2, h3⟩
  · omega
  · injection h1 with h1 _ _
    injection h1 with h1
    injection h1 with h1 h4
    subst h1 h4
    exact ⟨h3 i hi, h2⟩
theorem SlR.below {w w' : World} {sz : Nat} {v : Value} {n : Nat} {P P' : Nat → Nat → Nat → Prop} (h : SlR w sz v n P) (hb : Below w.heap.size w w') (hP : ∀ i b o, b < w.heap.size → P i b o → P' i b o) : SlR w' sz v n P' := by
  rcases h with h | ⟨b, o, c, h1, h2, h3, h4, h5⟩
  · exact .inl h
  · exact .inr ⟨b, o, c, h1, h2, h3, Nat.lt_of_lt_of_le h4 hb.size, fun i hi => hP i b _ h4 (h5 i hi)⟩
theorem cell_below {w w' : World} (hb : Below w.heap.size w w') {b : Nat} (hl : b < w.heap.size) (o : Nat) : w'.cell? ⟨b, o, none⟩ = w.cell? ⟨b, o, none⟩ := hb.cell (p := ⟨b, o, none⟩) hl

def IntsR (w : World) (v : Value) (l : List Int) : Prop := SlR w 1 v l.length fun i b o => ∀ x, l[i]? = some x → w.cell? ⟨b, o, none⟩ = some (.int .i64 x)
def WordsR (w : World) (v : Value) (l : List Int) : Prop := SlR w 1 v l.length fun i b o => ∀ x, l[i]? = some x → w.cell? ⟨b, o, none⟩ = some (.int .u32 x)
def CasesR (w : World) (v : Value) (l : List PCase) : Prop := SlR w 2 v l.length fun i b o => ∀ x, l[i]? = some x → w.cell? ⟨b, o, none⟩ = some (.int .u32 x.n) ∧ w.cell? ⟨b, o + 1, none⟩ = some (.int .i64 x.to)
def ArrsR (w : World) (v : Value) (l : List PArr) : Prop := SlR w 2 v l.length fun i b o => ∀ x, l[i]? = some x → w.cell? ⟨b, o, none⟩ = some (.int .i64 x.kind) ∧ w.cell? ⟨b, o + 1, none⟩ = some (.int .i64 x.n)
theorem IntsR.below {w w' : World} {v : Value} {l : List Int} (h : IntsR w v l) (hb : Below w.heap.size w w') : IntsR w' v l := SlR.below h hb fun _ _ _ hl hP x hx => (cell_below hb hl _).trans (hP x hx)
theorem WordsR.below {w w' : World} {v : Value} {l : List Int} (h : WordsR w v l) (hb : Below w.heap.size w w') : WordsR w' v l := SlR.below h hb fun _ _ _ hl hP x hx => (cell_below hb hl _).trans (hP x hx)
theorem CasesR.below {w w' : World} {v : Value} {l : List PCase} (h : CasesR w v l) (hb : Below w.heap.size w w') : CasesR w' v l :=
  SlR.below h hb fun _ _ _ hl hP x hx => ⟨(cell_below hb hl _).trans (hP x hx).1, (cell_below hb hl _).trans (hP x hx).2⟩
theorem ArrsR.below {w w' : World} {v : Value} {l : List PArr} (h : ArrsR w v l) (hb : Below w.heap.size w w') : ArrsR w' v l :=
  SlR.below h hb fun _ _ _ hl hP x hx => ⟨(cell_below hb hl _).trans (hP x hx).1, (cell_below hb hl _).trans (hP x hx).2⟩

/-- An instruction's two lists. -/
structure InsL (w : World) (va vr : Value) (x : PIns) : Prop where
  args : IntsR w va x.args
  arrs : IntsR w vr x.arrs
  wn : 0 ≤ x.n ∧ x.n ≤ 4294967295
def insV (x : PIns) (va vr : Value) : Value := .agg #[.int .i64 x.op, .int .i64 x.d, .int .i64 x.a, .int .i64 x.b, .int .i64 x.f, .int .u32 x.n, va, vr]
/-- An instruction at a place. -/
structure InsR (w : World) (b o : Nat) (x : PIns) (va vr : Value) : Prop where
  op : w.cell? ⟨b, o, none⟩ = some (.int .i64 x.op)
  d : w.cell? ⟨b, o + 1, none⟩ = some (.int .i64 x.d)
  fa : w.cell? ⟨b, o + 2, none⟩ = some (.int .i64 x.a)
  fb : w.cell? ⟨b, o + 3, none⟩ = some (.int .i64 x.b)
  f : w.cell? ⟨b, o + 4, none⟩ = some (.int .i64 x.f)
  n : w.cell? ⟨b, o + 5, none⟩ = some (.int .u32 x.n)
  ca : w.cell? ⟨b, o + 6, none⟩ = some va
  cr : w.cell? ⟨b, o + 7, none⟩ = some vr
  l : InsL w va vr x
theorem InsL.below {w w' : World} {va vr : Value} {x : PIns} (h : InsL w va vr x) (hb : Below w.heap.size w w') : InsL w' va vr x := ⟨h.args.below hb, h.arrs.below hb, h.wn⟩
theorem InsR.below {w w' : World} {b o : Nat} {x : PIns} {va vr : Value} (h : InsR w b o x va vr) (hl : b < w.heap.size) (hb : Below w.heap.size w w') : InsR w' b o x va vr :=
  ⟨(cell_below hb hl _).trans h.op, (cell_below hb hl _).trans h.d, (cell_below hb hl _).trans h.fa, (cell_below hb hl _).trans h.fb, (cell_below hb hl _).trans h.f, (cell_below hb hl _).trans h.n, (cell_below hb hl _).trans h.ca, (cell_below hb hl _).trans h.cr, h.l.below hb⟩
def CodeR (w : World) (v : Value) (l : List PIns) : Prop := SlR w 8 v l.length fun i b o => ∀ x, l[i]? = some x → ∃ va vr, InsR w b o x va vr
theorem CodeR.below {w w' : World} {v : Value} {l : List PIns} (h : CodeR w v l) (hb : Below w.heap.size w w') : CodeR w' v l :=
  SlR.below h hb fun _ _ _ hl hP x hx => let ⟨va, vr, h⟩ := hP x hx; ⟨va, vr, h.below hl hb⟩

/-- An end's two lists. -/
structure EndL (w : World) (vc vt : Value) (x : PEnd) : Prop where
  cases : CasesR w vc x.cases
  targets : IntsR w vt x.targets
  wn : 0 ≤ x.n ∧ x.n ≤ 4294967295
def endV (x : PEnd) (vc vt : Value) : Value := .agg #[.int .i64 x.kind, .int .i64 x.op, .int .i64 x.a, .int .i64 x.b, .int .u32 x.n, .int .i64 x.to, .int .i64 x.els, vc, vt]
structure EndR (w : World) (b o : Nat) (x : PEnd) (vc vt : Value) : Prop where
  kind : w.cell? ⟨b, o, none⟩ = some (.int .i64 x.kind)
  op : w.cell? ⟨b, o + 1, none⟩ = some (.int .i64 x.op)
  fa : w.cell? ⟨b, o + 2, none⟩ = some (.int .i64 x.a)
  fb : w.cell? ⟨b, o + 3, none⟩ = some (.int .i64 x.b)
  n : w.cell? ⟨b, o + 4, none⟩ = some (.int .u32 x.n)
  to : w.cell? ⟨b, o + 5, none⟩ = some (.int .i64 x.to)
  els : w.cell? ⟨b, o + 6, none⟩ = some (.int .i64 x.els)
  cc : w.cell? ⟨b, o + 7, none⟩ = some vc
  ct : w.cell? ⟨b, o + 8, none⟩ = some vt
  l : EndL w vc vt x
theorem EndL.below {w w' : World} {vc vt : Value} {x : PEnd} (h : EndL w vc vt x) (hb : Below w.heap.size w w') : EndL w' vc vt x := ⟨h.cases.below hb, h.targets.below hb, h.wn⟩
theorem EndR.below {w w' : World} {b o : Nat} {x : PEnd} {vc vt : Value} (h : EndR w b o x vc vt) (hl : b < w.heap.size) (hb : Below w.heap.size w w') : EndR w' b o x vc vt :=
  ⟨(cell_below hb hl _).trans h.kind, (cell_below hb hl _).trans h.op, (cell_below hb hl _).trans h.fa, (cell_below hb hl _).trans h.fb, (cell_below hb hl _).trans h.n, (cell_below hb hl _).trans h.to, (cell_below hb hl _).trans h.els, (cell_below hb hl _).trans h.cc, (cell_below hb hl _).trans h.ct, h.l.below hb⟩
/-- A block at a place. -/
structure BlkR (w : World) (b o : Nat) (x : PBlk) (vk vc vt : Value) : Prop where
  ck : w.cell? ⟨b, o, none⟩ = some vk
  code : CodeR w vk x.code
  fin : EndR w b (o + 1) x.fin vc vt
def BlksR (w : World) (v : Value) (l : List PBlk) : Prop := SlR w 10 v l.length fun i b o => ∀ x, l[i]? = some x → ∃ vk vc vt, BlkR w b o x vk vc vt
theorem BlkR.below {w w' : World} {b o : Nat} {x : PBlk} {vk vc vt : Value} (h : BlkR w b o x vk vc vt) (hl : b < w.heap.size) (hb : Below w.heap.size w w') : BlkR w' b o x vk vc vt :=
  ⟨(cell_below hb hl _).trans h.ck, h.code.below hb, h.fin.below hl hb⟩
theorem BlksR.below {w w' : World} {v : Value} {l : List PBlk} (h : BlksR w v l) (hb : Below w.heap.size w w') : BlksR w' v l :=
  SlR.below h hb fun _ _ _ hl hP x hx => let ⟨vk, vc, vt, h⟩ := hP x hx; ⟨vk, vc, vt, h.below hl hb⟩
/-- A graph's three lists. -/
structure GrL (w : World) (vp va vb : Value) (x : PGr) : Prop where
  params : IntsR w vp x.params
  arrays : ArrsR w va x.arrays
  blocks : BlksR w vb x.blocks
def grV (x : PGr) (vp va vb : Value) : Value := .agg #[vp, .int .i64 x.temps, va, vb]
structure GrR (w : World) (b o : Nat) (x : PGr) (vp va vb : Value) : Prop where
  cp : w.cell? ⟨b, o, none⟩ = some vp
  temps : w.cell? ⟨b, o + 1, none⟩ = some (.int .i64 x.temps)
  ca : w.cell? ⟨b, o + 2, none⟩ = some va
  cb : w.cell? ⟨b, o + 3, none⟩ = some vb
  l : GrL w vp va vb x
theorem GrL.below {w w' : World} {vp va vb : Value} {x : PGr} (h : GrL w vp va vb x) (hb : Below w.heap.size w w') : GrL w' vp va vb x := ⟨h.params.below hb, h.arrays.below hb, h.blocks.below hb⟩
theorem GrR.below {w w' : World} {b o : Nat} {x : PGr} {vp va vb : Value} (h : GrR w b o x vp va vb) (hl : b < w.heap.size) (hb : Below w.heap.size w w') : GrR w' b o x vp va vb :=
  ⟨(cell_below hb hl _).trans h.cp, (cell_below hb hl _).trans h.temps, (cell_below hb hl _).trans h.ca, (cell_below hb hl _).trans h.cb, h.l.below hb⟩
def GrsR (w : World) (v : Value) (l : List PGr) : Prop := SlR w 4 v l.length fun i b o => ∀ x, l[i]? = some x → ∃ vp va vb, GrR w b o x vp va vb
theorem GrsR.below {w w' : World} {v : Value} {l : List PGr} (h : GrsR w v l) (hb : Below w.heap.size w w') : GrsR w' v l :=
  SlR.below h hb fun _ _ _ hl hP x hx => let ⟨vp, va, vb, h⟩ := hP x hx; ⟨vp, va, vb, h.below hl hb⟩
/-- A module's three lists. -/
structure ModL (w : World) (vg va vf : Value) (x : PMod) : Prop where
  globals : WordsR w vg x.globals
  arrays : IntsR w va x.arrays
  funcs : GrsR w vf x.funcs
def modV (x : PMod) (vg va vf : Value) : Value := .agg #[vg, va, vf, .int .i64 x.main]
theorem ModL.below {w w' : World} {vg va vf : Value} {x : PMod} (h : ModL w vg va vf x) (hb : Below w.heap.size w w') : ModL w' vg va vf x := ⟨h.globals.below hb, h.arrays.below hb, h.funcs.below hb⟩
end Go.Proofs.YthojmbljlehpbaaGreatDoor.Graph
