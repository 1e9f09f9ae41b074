/- Modules, plainly, and how they lie in memory. -/
import Derived.WalkKit
import Derived.WalkSpells
import Derived.WalkLawsBesides
import Derived.Lib.Hide
import Derived.OwnWalk
import Derived.RowKit
import Derived.Test.YtopceggmdieppaaDoorGA
import Derived.Test.YtopceggmdieppaaDoorProg
import Derived.OneCell
import Derived.StillTactics
import Derived.BigQuiet
import Derived.KernelRfl
import Derived.BigFrame
import Derived.Deep.QuietTactic
import Derived.Deep.RegionHeld3
namespace Go.Proofs.YtopceggmdieppaaDoor.Graph
open Go.RowKit

structure PIns where
  op : Int
  d : Int
  a : Int
  b : Int
  f : Int
  n : Int
  args : List Int
  arrs : List Int
deriving DecidableEq
structure PCase where
  n : Int
  to : Int
deriving DecidableEq
structure PEnd where
  kind : Int
  op : Int
  a : Int
  b : Int
  n : Int
  to : Int
  els : Int
  cases : List PCase
  targets : List Int
deriving DecidableEq
structure PBlk where
  code : List PIns
  fin : PEnd
deriving DecidableEq
structure PArr where
  kind : Int
  n : Int
deriving DecidableEq
structure PGr where
  params : List Int
  temps : Int
  arrays : List PArr
  blocks : List PBlk
deriving DecidableEq
structure PMod where
  globals : List Int
  arrays : List Int
  funcs : List PGr
  main : Int
deriving DecidableEq

/-- A slice of n elements of so many cells; of each P says how it lies. -/
def SlR (w : World) (sz : Nat) (v : Value) (n : Nat) (P : Nat → Nat → Nat → Prop) : Prop :=
  (n = 0 ∧ ∃ p c, v = .slice p 0 c) ∨ ∃ b o c, v = .slice (some ⟨b, o, none⟩) n c ∧ 0 < n ∧ (n ≤ c ∧ c ≤ 9223372036854775807) ∧ b < w.heap.size ∧ ∀ i, i < n → P i b (o + i * sz)
theorem SlR.form {w : World} {sz : Nat} {v : Value} {n : Nat} {P : Nat → Nat → Nat → Prop} (h : SlR w sz v n P) : ∃ p c, v = .slice p n c := by
  rcases h with ⟨rfl, p, c, rfl⟩ | ⟨b, o, c, rfl, _⟩
  · exact ⟨p, c, rfl⟩
  · exact ⟨_, _, rfl⟩
theorem SlR.form2 {w : World} {sz : Nat} {v : Value} {n : Nat} {P : Nat → Nat → Nat → Prop} (h : SlR w sz v n P) (hn : 0 < n) :
    ∃ b o c, v = .slice (some ⟨b, o, none⟩) n c ∧ (n ≤ c ∧ c ≤ 9223372036854775807) ∧ b < w.heap.size ∧ ∀ i, i < n → P i b (o + i * sz) := by
  rcases h with ⟨rfl, _⟩ | ⟨b, o, c, rfl, _, h1, h2, h3⟩
  · omega
  · exact ⟨b, o, c, rfl, h1, h2, h3⟩
theorem SlR.at_ {w : World} {sz : Nat} {n m b o c : Nat} {P : Nat → Nat → Nat → Prop} (h : SlR w sz (.slice (some ⟨b, o, none⟩) m c) n P) {i : Nat} (hi : i < n) : P i b (o + i * sz) ∧ b < w.heap.size := by
  rcases h with ⟨rfl, _⟩ | ⟨b', o', c', h1, _, _, h2, h3⟩
  · omega
  · injection h1 with h1 _ _
    injection h1 with h1
    injection h1 with h1 h4
    subst h1 h4
    exact ⟨h3 i hi, h2⟩
theorem SlR.below {w w' : World} {sz : Nat} {v : Value} {n : Nat} {P P' : Nat → Nat → Nat → Prop} (h : SlR w sz v n P) (hb : Below w.heap.size w w') (hP : ∀ i b o, b < w.heap.size → P i b o → P' i b o) : SlR w' sz v n P' := by
  rcases h with h | ⟨b, o, c, h1, h2, h3, h4, h5⟩
  · exact .inl h
  · exact .inr ⟨b, o, c, h1, h2, h3, Nat.lt_of_lt_of_le h4 hb.size, fun i hi => hP i b _ h4 (h5 i hi)⟩
theorem cell_below {w w' : World} (hb : Below w.heap.size w w') {b : Nat} (hl : b < w.heap.size) (o : Nat) : w'.cell? ⟨b, o, none⟩ = w.cell? ⟨b, o, none⟩ := hb.cell (p := ⟨b, o, none⟩) hl

def IntsR (w : World) (v : Value) (l : List Int) : Prop := SlR w 1 v l.length fun i b o => ∀ x, l[i]? = some x → w.cell? ⟨b, o, none⟩ = some (.int .i64 x)
def WordsR (w : World) (v : Value) (l : List Int) : Prop := SlR w 1 v l.length fun i b o => ∀ x, l[i]? = some x → w.cell? ⟨b, o, none⟩ = some (.int .u32 x)
def CasesR (w : World) (v : Value) (l : List PCase) : Prop := SlR w 2 v l.length fun i b o => ∀ x, l[i]? = some x → w.cell? ⟨b, o, none⟩ = some (.int .u32 x.n) ∧ w.cell? ⟨b, o + 1, none⟩ = some (.int .i64 x.to)
def ArrsR (w : World) (v : Value) (l : List PArr) : Prop := SlR w 2 v l.length fun i b o => ∀ x, l[i]? = some x → w.cell? ⟨b, o, none⟩ = some (.int .i64 x.kind) ∧ w.cell? ⟨b, o + 1, none⟩ = some (.int .i64 x.n)
theorem IntsR.below {w w' : World} {v : Value} {l : List Int} (h : IntsR w v l) (hb : Below w.heap.size w w') : IntsR w' v l := SlR.below h hb fun _ _ _ hl hP x hx => (cell_below hb hl _).trans (hP x hx)
theorem WordsR.below {w w' : World} {v : Value} {l : List Int} (h : WordsR w v l) (hb : Below w.heap.size w w') : WordsR w' v l := SlR.below h hb fun _ _ _ hl hP x hx => (cell_below hb hl _).trans (hP x hx)
theorem CasesR.below {w w' : World} {v : Value} {l : List PCase} (h : CasesR w v l) (hb : Below w.heap.size w w') : CasesR w' v l :=
  SlR.below h hb fun _ _ _ hl hP x hx => ⟨(cell_below hb hl _).trans (hP x hx).1, (cell_below hb hl _).trans (hP x hx).2⟩
theorem ArrsR.below {w w' : World} {v : Value} {l : List PArr} (h : ArrsR w v l) (hb : Below w.heap.size w w') : ArrsR w' v l :=
  SlR.below h hb fun _ _ _ hl hP x hx => ⟨(cell_below hb hl _).trans (hP x hx).1, (cell_below hb hl _).trans (hP x hx).2⟩

/-- An instruction's two lists. -/
structure InsL (w : World) (va vr : Value) (x : PIns) : Prop where
  args : IntsR w va x.args
  arrs : IntsR w vr x.arrs
  wn : 0 ≤ x.n ∧ x.n ≤ 4294967295
def insV (x : PIns) (va vr : Value) : Value := .agg #[.int .i64 x.op, .int .i64 x.d, .int .i64 x.a, .int .i64 x.b, .int .i64 x.f, .int .u32 x.n, va, vr]
/-- An instruction at a place. -/
structure InsR (w : World) (b o : Nat) (x : PIns) (va vr : Value) : Prop where
  op : w.cell? ⟨b, o, none⟩ = some (.int .i64 x.op)
  d : w.cell? ⟨b, o + 1, none⟩ = some (.int .i64 x.d)
  fa : w.cell? ⟨b, o + 2, none⟩ = some (.int .i64 x.a)
  fb : w.cell? ⟨b, o + 3, none⟩ = some (.int .i64 x.b)
  f : w.cell? ⟨b, o + 4, none⟩ = some (.int .i64 x.f)
  n : w.cell? ⟨b, o + 5, none⟩ = some (.int .u32 x.n)
  ca : w.cell? ⟨b, o + 6, none⟩ = some va
  cr : w.cell? ⟨b, o + 7, none⟩ = some vr
  l : InsL w va vr x
theorem InsL.below {w w' : World} {va vr : Value} {x : PIns} (h : InsL w va vr x) (hb : Below w.heap.size w w') : InsL w' va vr x := ⟨h.args.below hb, h.arrs.below hb, h.wn⟩
theorem InsR.below {w w' : World} {b o : Nat} {x : PIns} {va vr : Value} (h : InsR w b o x va vr) (hl : b < w.heap.size) (hb : Below w.heap.size w w') : InsR w' b o x va vr :=
  ⟨(cell_below hb hl _).trans h.op, (cell_below hb hl _).trans h.d, (cell_below hb hl _).trans h.fa, (cell_below hb hl _).trans h.fb, (cell_below hb hl _).trans h.f, (cell_below hb hl _).trans h.n, (cell_below hb hl _).trans h.ca, (cell_below hb hl _).trans h.cr, h.l.below hb⟩
def CodeR (w : World) (v : Value) (l : List PIns) : Prop := SlR w 8 v l.length fun i b o => ∀ x, l[i]? = some x → ∃ va vr, InsR w b o x va vr
theorem CodeR.below {w w' : World} {v : Value} {l : List PIns} (h : CodeR w v l) (hb : Below w.heap.size w w') : CodeR w' v l :=
  SlR.below h hb fun _ _ _ hl hP x hx => let ⟨va, vr, h⟩ := hP x hx; ⟨va, vr, h.below hl hb⟩

/-- An end's two lists. -/
structure EndL (w : World) (vc vt : Value) (x : PEnd) : Prop where
  cases : CasesR w vc x.cases
  targets : IntsR w vt x.targets
  wn : 0 ≤ x.n ∧ x.n ≤ 4294967295
def endV (x : PEnd) (vc vt : Value) : Value := .agg #[.int .i64 x.kind, .int .i64 x.op, .int .i64 x.a, .int .i64 x.b, .int .u32 x.n, .int .i64 x.to, .int .i64 x.els, vc, vt]
structure EndR (w : World) (b o : Nat) (x : PEnd) (vc vt : Value) : Prop where
  kind : w.cell? ⟨b, o, none⟩ = some (.int .i64 x.kind)
  op : w.cell? ⟨b, o + 1, none⟩ = some (.int .i64 x.op)
  fa : w.cell? ⟨b, o + 2, none⟩ = some (.int .i64 x.a)
  fb : w.cell? ⟨b, o + 3, none⟩ = some (.int .i64 x.b)
  n : w.cell? ⟨b, o + 4, none⟩ = some (.int .u32 x.n)
  to : w.cell? ⟨b, o + 5, none⟩ = some (.int .i64 x.to)
  els : w.cell? ⟨b, o + 6, none⟩ = some (.int .i64 x.els)
  cc : w.cell? ⟨b, o + 7, none⟩ = some vc
  ct : w.cell? ⟨b, o + 8, none⟩ = some vt
  l : EndL w vc vt x
theorem EndL.below {w w' : World} {vc vt : Value} {x : PEnd} (h : EndL w vc vt x) (hb : Below w.heap.size w w') : EndL w' vc vt x := ⟨h.cases.below hb, h.targets.below hb, h.wn⟩
theorem EndR.below {w w' : World} {b o : Nat} {x : PEnd} {vc vt : Value} (h : EndR w b o x vc vt) (hl : b < w.heap.size) (hb : Below w.heap.size w w') : EndR w' b o x vc vt :=
  ⟨(cell_below hb hl _).trans h.kind, (cell_below hb hl _).trans h.op, (cell_below hb hl _).trans h.fa, (cell_below hb hl _).trans h.fb, (cell_below hb hl _).trans h.n, (cell_below hb hl _).trans h.to, (cell_below hb hl _).trans h.els, (cell_below hb hl _).trans h.cc, (cell_below hb hl _).trans h.ct, h.l.below hb⟩
/-- A block at a place. -/
structure BlkR (w : World) (b o : Nat) (x : PBlk) (vk vc vt : Value) : Prop where
  ck : w.cell? ⟨b, o, none⟩ = some vk
  code : CodeR w vk x.code
  fin : EndR w b (o + 1) x.fin vc vt
def BlksR (w : World) (v : Value) (l : List PBlk) : Prop := SlR w 10 v l.length fun i b o => ∀ x, l[i]? = some x → ∃ vk vc vt, BlkR w b o x vk vc vt
theorem BlkR.below {w w' : World} {b o : Nat} {x : PBlk} {vk vc vt : Value} (h : BlkR w b o x vk vc vt) (hl : b < w.heap.size) (hb : Below w.heap.size w w') : BlkR w' b o x vk vc vt :=
  ⟨(cell_below hb hl _).trans h.ck, h.code.below hb, h.fin.below hl hb⟩
theorem BlksR.below {w w' : World} {v : Value} {l : List PBlk} (h : BlksR w v l) (hb : Below w.heap.size w w') : BlksR w' v l :=
  SlR.below h hb fun _ _ _ hl hP x hx => let ⟨vk, vc, vt, h⟩ := hP x hx; ⟨vk, vc, vt, h.below hl hb⟩
/-- A graph's three lists. -/
structure GrL (w : World) (vp va vb : Value) (x : PGr) : Prop where
  params : IntsR w vp x.params
  arrays : ArrsR w va x.arrays
  blocks : BlksR w vb x.blocks
def grV (x : PGr) (vp va vb : Value) : Value := .agg #[vp, .int .i64 x.temps, va, vb]
structure GrR (w : World) (b o : Nat) (x : PGr) (vp va vb : Value) : Prop where
  cp : w.cell? ⟨b, o, none⟩ = some vp
  temps : w.cell? ⟨b, o + 1, none⟩ = some (.int .i64 x.temps)
  ca : w.cell? ⟨b, o + 2, none⟩ = some va
  cb : w.cell? ⟨b, o + 3, none⟩ = some vb
  l : GrL w vp va vb x
theorem GrL.below {w w' : World} {vp va vb : Value} {x : PGr} (h : GrL w vp va vb x) (hb : Below w.heap.size w w') : GrL w' vp va vb x := ⟨h.params.below hb, h.arrays.below hb, h.blocks.below hb⟩
theorem GrR.below {w w' : World} {b o : Nat} {x : PGr} {vp va vb : Value} (h : GrR w b o x vp va vb) (hl : b < w.heap.size) (hb : Below w.heap.size w w') : GrR w' b o x vp va vb :=
  ⟨(cell_below hb hl _).trans h.cp, (cell_below hb hl _).trans h.temps, (cell_below hb hl _).trans h.ca, (cell_below hb hl _).trans h.cb, h.l.below hb⟩
def GrsR (w : World) (v : Value) (l : List PGr) : Prop := SlR w 4 v l.length fun i b o => ∀ x, l[i]? = some x → ∃ vp va vb, GrR w b o x vp va vb
theorem GrsR.below {w w' : World} {v : Value} {l : List PGr} (h : GrsR w v l) (hb : Below w.heap.size w w') : GrsR w' v l :=
  SlR.below h hb fun _ _ _ hl hP x hx => let ⟨vp, va, vb, h⟩ := hP x hx; ⟨vp, va, vb, h.below hl hb⟩
/-- A module's three lists. -/
structure ModL (w : World) (vg va vf : Value) (x : PMod) : Prop where
  globals : WordsR w vg x.globals
  arrays : IntsR w va x.arrays
  funcs : GrsR w vf x.funcs
def modV (x : PMod) (vg va vf : Value) : Value := .agg #[vg, va, vf, .int .i64 x.main]
theorem ModL.below {w w' : World} {vg va vf : Value} {x : PMod} (h : ModL w vg va vf x) (hb : Below w.heap.size w w') : ModL w' vg va vf x := ⟨h.globals.below hb, h.arrays.below hb, h.funcs.below hb⟩
end Go.Proofs.YtopceggmdieppaaDoor.Graph
namespace Go.Proofs.YtopceggmdieppaaDoor.Enc

theorem wrap32 (n : Nat) (h : n < 4294967296) : IntKind.u32.wrap (n : Int) = n := by
  show (let m := (n : Int) % (2 ^ 32 : Int); if IntKind.u32.signed && m ≥ (2 ^ 31 : Int) then m - (2 ^ 32 : Int) else m) = n
  simp only [IntKind.signed, Bool.false_and, Bool.false_eq_true, if_false]
  omega
theorem xor32 (x y : Int) : bits .xor .u32 x y = ((BitVec.ofInt 32 x ^^^ BitVec.ofInt 32 y).toNat : Int) := by
  show IntKind.u32.wrap ((BitVec.ofInt 32 x ^^^ BitVec.ofInt 32 y).toNat : Int) = _
  exact wrap32 _ (BitVec.isLt _)
theorem andNot32 (b : BitVec 32) (m : Int) : bits .andNot .u32 (b.toNat : Int) m = ((b &&& ~~~(BitVec.ofInt 32 m)).toNat : Int) := by
  show IntKind.u32.wrap ((BitVec.ofInt 32 (b.toNat : Int) &&& ~~~(BitVec.ofInt 32 m)).toNat : Int) = _
  rw [BitVec.ofInt_natCast, BitVec.ofNat_toNat, BitVec.setWidth_eq]
  exact wrap32 _ (BitVec.isLt _)
theorem only_between (x y lo hi : Nat) (h1 : x % 2 ^ lo = y % 2 ^ lo) (h2 : x / 2 ^ hi = y / 2 ^ hi) (m : BitVec 32) (hm : ∀ i, lo ≤ i → i < hi → i < 32 → m.getLsbD i = true) :
    (BitVec.ofNat 32 x ^^^ BitVec.ofNat 32 y) &&& ~~~m = 0#32 := by
  apply BitVec.eq_of_getLsbD_eq
  intro i hi32
  rw [BitVec.getLsbD_and, BitVec.getLsbD_xor, BitVec.getLsbD_not, BitVec.getLsbD_ofNat, BitVec.getLsbD_ofNat]
  simp only [hi32, decide_true, Bool.true_and, BitVec.getLsbD_zero]
  rcases Nat.lt_or_ge i lo with hl | hl
  · have e := congrArg (fun n => n.testBit i) h1
    simp only [Nat.testBit_mod_two_pow, hl, decide_true, Bool.true_and] at e
    rw [e]; simp
  · rcases Nat.lt_or_ge i hi with hh | hh
    · rw [hm i hl hh hi32]; simp
    · have e := congrArg (fun n => n.testBit (i - hi)) h2
      simp only [Nat.testBit_div_two_pow] at e
      rw [show i - hi + hi = i by omega] at e
      rw [e]; simp
theorem field_bits {x y : Int} (hx : 0 ≤ x) (hy : 0 ≤ y) (lo hi : Nat) (h1 : x % (2 ^ lo : Int) = y % (2 ^ lo : Int)) (h2 : x / (2 ^ hi : Int) = y / (2 ^ hi : Int)) (m : Int) (hm : ∀ i, lo ≤ i → i < hi → i < 32 → (BitVec.ofInt 32 m).getLsbD i = true) :
    bits .andNot .u32 (bits .xor .u32 x y) m = 0 := by
  obtain ⟨n, rfl⟩ := Int.eq_ofNat_of_zero_le hx
  obtain ⟨k, rfl⟩ := Int.eq_ofNat_of_zero_le hy
  rw [xor32, andNot32, BitVec.ofInt_natCast, BitVec.ofInt_natCast, only_between n k lo hi (by exact_mod_cast h1) (by exact_mod_cast h2) _ hm]
  rfl
theorem field_op {c d : PC} (hc : mayP c = true) (hd : mayP d = true) (ha : d.a = c.a) (hb : d.b = c.b) (hi : d.imm = c.imm) : bits .andNot .u32 (bits .xor .u32 (wordP c) (wordP d)) 4278190080 = 0 := by
  have w1 := wordP_range (within hc)
  have w2 := wordP_range (within hd)
  have k1 := within hc
  have k2 := within hd
  obtain ⟨o1, a1, b1, i1⟩ := k1
  obtain ⟨o2, a2, b2, i2⟩ := k2
  have u1 := up_range i1
  refine field_bits w1.1 w2.1 24 32 ?_ ?_ _ ?_
  · unfold wordP; rw [ha, hb, hi]; omega
  · unfold wordP; rw [ha, hb, hi]; omega
  · intro i h1 h2 _
    have : i = 24 ∨ i = 25 ∨ i = 26 ∨ i = 27 ∨ i = 28 ∨ i = 29 ∨ i = 30 ∨ i = 31 := by omega
    rcases this with rfl | rfl | rfl | rfl | rfl | rfl | rfl | rfl <;> decide
theorem field_a {c d : PC} (hc : mayP c = true) (hd : mayP d = true) (ho : d.op = c.op) (hb : d.b = c.b) (hi : d.imm = c.imm) : bits .andNot .u32 (bits .xor .u32 (wordP c) (wordP d)) 15728640 = 0 := by
  have w1 := wordP_range (within hc)
  have w2 := wordP_range (within hd)
  obtain ⟨o1, a1, b1, i1⟩ := within hc
  obtain ⟨o2, a2, b2, i2⟩ := within hd
  have u1 := up_range i1
  refine field_bits w1.1 w2.1 20 24 ?_ ?_ _ ?_
  · unfold wordP; rw [ho, hb, hi]; omega
  · unfold wordP; rw [ho, hb, hi]; omega
  · intro i h1 h2 _
    have : i = 20 ∨ i = 21 ∨ i = 22 ∨ i = 23 := by omega
    rcases this with rfl | rfl | rfl | rfl <;> decide
theorem field_b {c d : PC} (hc : mayP c = true) (hd : mayP d = true) (ho : d.op = c.op) (ha : d.a = c.a) (hi : d.imm = c.imm) : bits .andNot .u32 (bits .xor .u32 (wordP c) (wordP d)) 983040 = 0 := by
  have w1 := wordP_range (within hc)
  have w2 := wordP_range (within hd)
  obtain ⟨o1, a1, b1, i1⟩ := within hc
  obtain ⟨o2, a2, b2, i2⟩ := within hd
  have u1 := up_range i1
  refine field_bits w1.1 w2.1 16 20 ?_ ?_ _ ?_
  · unfold wordP; rw [ho, ha, hi]; omega
  · unfold wordP; rw [ho, ha, hi]; omega
  · intro i h1 h2 _
    have : i = 16 ∨ i = 17 ∨ i = 18 ∨ i = 19 := by omega
    rcases this with rfl | rfl | rfl | rfl <;> decide
theorem field_i {c d : PC} (hc : mayP c = true) (hd : mayP d = true) (ho : d.op = c.op) (ha : d.a = c.a) (hb : d.b = c.b) : bits .andNot .u32 (bits .xor .u32 (wordP c) (wordP d)) 65535 = 0 := by
  have w1 := wordP_range (within hc)
  have w2 := wordP_range (within hd)
  obtain ⟨o1, a1, b1, i1⟩ := within hc
  obtain ⟨o2, a2, b2, i2⟩ := within hd
  have u1 := up_range i1
  have u2 := up_range i2
  refine field_bits w1.1 w2.1 0 16 ?_ ?_ _ ?_
  · unfold wordP; rw [ho, ha, hb]; omega
  · unfold wordP; rw [ho, ha, hb]; omega
  · intro i h1 h2 _
    have : i = 0 ∨ i = 1 ∨ i = 2 ∨ i = 3 ∨ i = 4 ∨ i = 5 ∨ i = 6 ∨ i = 7 ∨ i = 8 ∨ i = 9 ∨ i = 10 ∨ i = 11 ∨ i = 12 ∨ i = 13 ∨ i = 14 ∨ i = 15 := by omega
    rcases this with rfl | rfl | rfl | rfl | rfl | rfl | rfl | rfl | rfl | rfl | rfl | rfl | rfl | rfl | rfl | rfl <;> decide
end Go.Proofs.YtopceggmdieppaaDoor.Enc
namespace Go.Proofs.YtopceggmdieppaaDoor.Enc
open Go.RowKit

abbrev cV (c : PC) : Value := .agg #[.int .i64 c.op, .int .i64 c.a, .int .i64 c.b, .int .i64 c.imm]
theorem ret_bool {a b : Bool} (h : a = b) : Ending.returned (.bool a) = .returned (.bool b) := by rw [h]
theorem below_one (w : World) (o : Obj) : Below w.heap.size w (w.alloc o) := (Below.refl _ _).alloc (Nat.le_refl _) o
theorem bt {a b c : World} (h : Below a.heap.size a b) (k : Below b.heap.size b c) : Below a.heap.size a c := h.trans (k.mono h.size)
def EncPost (c : PC) (w : World) (e : Ending) (w' : World) : Prop := e = .returned (.tuple #[.int .u32 (encP c).1, .int .i64 (encP c).2]) ∧ Below w.heap.size w w'
def DecPost (x : Int) (w : World) (e : Ending) (w' : World) : Prop := e = .returned (.tuple #[cV (decP x).1, .int .i64 (decP x).2]) ∧ Below w.heap.size w w'
theorem EncPost.mk {c : PC} {w w' : World} {a b : Int} (h : encP c = (a, b)) (hb : Below w.heap.size w w') : EncPost c w (.returned (.tuple #[.int .u32 a, .int .i64 b])) w' := by
  unfold EncPost; rw [h]; exact ⟨rfl, hb⟩
theorem DecPost.mk {x : Int} {w w' : World} {a : PC} {b : Int} (h : decP x = (a, b)) (hb : Below w.heap.size w w') : DecPost x w (.returned (.tuple #[cV a, .int .i64 b])) w' := by
  unfold DecPost; rw [h]; exact ⟨rfl, hb⟩
theorem bcell {W w1 : World} (hb : Below W.heap.size W w1) : (∀ b o, b < W.heap.size → w1.cell? ⟨b, o, none⟩ = W.cell? ⟨b, o, none⟩) ∧ (∀ b o, b < W.heap.size → w1.frozen? ⟨b, o, none⟩ = W.frozen? ⟨b, o, none⟩) :=
  ⟨fun b o h => hb.cell (p := ⟨b, o, none⟩) h, fun b o h => hb.frozen (p := ⟨b, o, none⟩) h⟩
/-- The forms of the Ops, as the program's table has them. -/
def formL : List Int := [0, 0, 1, 2, 3, 4, 4, 4, 4, 4, 4, 4, 4, 4, 4, 4, 4, 4, 4, 4, 4, 4, 4, 4, 2, 2, 2, 3, 3, 2, 5, 5, 5, 5, 5, 5, 5, 5, 5, 5, 6, 7, 1, 7, 7, 1, 1, 1, 8]
def formCells : Array Value := (formL.map fun n => Value.int .i64 n).toArray
/-- The table of forms lies where the program lays it. -/
def FormsAt (w : World) : Prop := ∃ t fr, w.heap[0]? = some (.cells formCells t fr)
theorem FormsAt.pos {w : World} (h : FormsAt w) : 0 < w.heap.size := by
  obtain ⟨t, fr, h⟩ := h
  exact (Array.getElem?_eq_some_iff.1 h).1
theorem FormsAt.below {w w' : World} (h : FormsAt w) (hb : Below w.heap.size w w') : FormsAt w' := by
  have hp := h.pos
  obtain ⟨t, fr, h⟩ := h
  exact ⟨t, fr, (hb.block 0 hp).trans h⟩
theorem FormsAt.alloc {w : World} (h : FormsAt w) (o : Obj) : FormsAt (w.alloc o) := h.below (below_one w o)
theorem FormsAt.drew {w : World} (h : FormsAt w) : FormsAt w.drew := h
theorem FormsAt.drewN {w : World} (h : FormsAt w) (n : Nat) : FormsAt (w.drewN n) := h
/-- What the program's Decode does. -/
structure DoesDec : Prop where
  dec : ∀ (x : Int) (w : World), 0 ≤ x ∧ x ≤ 4294967295 → FormsAt w → Calls Tryd.prog 66 #[.int .u32 x] w (DecPost x w)
theorem DoesDec.decAt (D : DoesDec) {x : Int} {c : PC} {e : Int} (hx : 0 ≤ x ∧ x ≤ 4294967295) (h : decP x = (c, e)) (w : World) (hF : FormsAt w) : Calls Tryd.prog 66 #[.int .u32 x] w fun r w' => r = .returned (.tuple #[cV c, .int .i64 e]) ∧ Below w.heap.size w w' :=
  (D.dec x w hx hF).mono fun r w' ⟨h1, h2⟩ => ⟨by rw [h1, h], h2⟩
end Go.Proofs.YtopceggmdieppaaDoor.Enc
namespace Go.Proofs.YtopceggmdieppaaDoor.Emu
open Go.RowKit Go.Proofs.YtopceggmdieppaaDoor.Enc Go.Proofs.YtopceggmdieppaaDoor.Graph

structure ImgR (w : World) (m : Image) (vw vk vd : Value) : Prop where
  words : WordsR w vw m.words
  kinds : IntsR w vk m.kinds
  data : WordsR w vd m.data
theorem ImgR.below {w w' : World} {m : Image} {vw vk vd : Value} (h : ImgR w m vw vk vd) (hb : Below w.heap.size w w') : ImgR w' m vw vk vd := ⟨h.words.below hb, h.kinds.below hb, h.data.below hb⟩
/-- All words are words, all numbers are numbers. -/
structure SmI (m : Image) : Prop where
  words : ∀ x ∈ m.words, 0 ≤ x ∧ x ≤ 4294967295
  data : ∀ x ∈ m.data, 0 ≤ x ∧ x ≤ 4294967295
  entry : -9223372036854775808 ≤ m.entry ∧ m.entry ≤ 9223372036854775807
  lw : m.words.length ≤ 35184372088832
  lk : m.kinds.length ≤ 17592186044416
  ld : m.data.length ≤ 35184372088832
def inR (n : Int) : Prop := -9223372036854775808 ≤ n ∧ n ≤ 9223372036854775807
abbrev outV (o : Out) : Value := .agg #[.int .i64 o.stop, .int .u32 o.code, .string ⟨o.bytes.toArray⟩, .int .i64 (o.steps : Int)]
structure DoesRun (ar : Int → Int → Int → Option Int) (hs : Int → Int → Int → Bool) : Prop where
  run : ∀ (m : Image) (vw vk vd : Value) (input : List UInt8) (fuel : Int) (w : World), ImgR w m vw vk vd → SmI m → inR fuel → FormsAt w →
    Calls Tryd.prog 20 #[.agg #[vw, vk, vd, .int .i64 m.entry], .string ⟨input.toArray⟩, .int .i64 fuel] w fun e w' =>
      e = .returned (.tuple #[outV (runP ar hs m input fuel).1, .int .i64 (runP ar hs m input fuel).2]) ∧ Below w.heap.size w w'
def Is (r : Value) (w : World) (e : Ending) (w' : World) : Prop := e = .returned r ∧ Below w.heap.size w w'
theorem below_one (w : World) (o : Obj) : Below w.heap.size w (w.alloc o) := (Below.refl _ _).alloc (Nat.le_refl _) o
theorem bt {a b c : World} (h : Below a.heap.size a b) (k : Below b.heap.size b c) : Below a.heap.size a c := h.trans (k.mono h.size)
theorem DoesRun.at_ {ar : Int → Int → Int → Option Int} {hs : Int → Int → Int → Bool} (D : DoesRun ar hs) {m : Image} {vw vk vd : Value} {input : List UInt8} {fuel : Int} {o : Out} {er : Int} (ho : runP ar hs m input fuel = (o, er)) (w : World)
    (h : ImgR w m vw vk vd) (hm : SmI m) (hf : inR fuel) (hF : FormsAt w) :
    Calls Tryd.prog 20 #[.agg #[vw, vk, vd, .int .i64 m.entry], .string ⟨input.toArray⟩, .int .i64 fuel] w fun e w' =>
      e = .returned (.tuple #[.agg #[.int .i64 o.stop, .int .u32 o.code, .string ⟨o.bytes.toArray⟩, .int .i64 (o.steps : Int)], .int .i64 er]) ∧ Below w.heap.size w w' :=
  (D.run m vw vk vd input fuel w h hm hf hF).mono fun e w' ⟨h1, h2⟩ => ⟨by rw [h1, ho], h2⟩
def liveI : Image := ⟨[17825799, 789577728], [1, 1], [], 0⟩
theorem live_run (ar : Int → Int → Int → Option Int) (hs : Int → Int → Int → Bool) : runP ar hs liveI [] 100 = (⟨1, 7, [], 2⟩, 0) := by rfl
end Go.Proofs.YtopceggmdieppaaDoor.Emu
