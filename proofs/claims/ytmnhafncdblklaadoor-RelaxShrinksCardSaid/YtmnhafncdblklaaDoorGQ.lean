/- Modules, plainly, and how they lie in memory. -/
import Derived.WalkKit
import Derived.WalkSpells
import Derived.WalkLawsBesides
import Derived.Lib.Hide
import Derived.OwnWalk
import Derived.RowKit
import Derived.Test.YtmnhafncdblklaaDoorGP
import Derived.Test.YtmnhafncdblklaaDoorProg
import Derived.OneCell
import Derived.StillTactics
import Derived.BigQuiet
import Derived.KernelRfl
import Derived.BigFrame
import Derived.Deep.QuietTactic
namespace Go.Proofs.YtmnhafncdblklaaDoor.Graph
open Go.RowKit

structure PIns where
  op : Int
  d : Int
  a : Int
  b : Int
  f : Int
  n : Int
  args : List Int
  arrs : List Int
deriving DecidableEq
structure PCase where
  n : Int
  to : Int
deriving DecidableEq
structure PEnd where
  kind : Int
  op : Int
  a : Int
  b : Int
  n : Int
  to : Int
  els : Int
  cases : List PCase
  targets : List Int
deriving DecidableEq
structure PBlk where
  code : List PIns
  fin : PEnd
deriving DecidableEq
structure PArr where
  kind : Int
  n : Int
deriving DecidableEq
structure PGr where
  params : List Int
  temps : Int
  arrays : List PArr
  blocks : List PBlk
deriving DecidableEq
structure PMod where
  globals : List Int
  arrays : List Int
  funcs : List PGr
  main : Int
deriving DecidableEq

/-- A slice of n elements of so many cells; of each P says how it lies. -/
def SlR (w : World) (sz : Nat) (v : Value) (n : Nat) (P : Nat → Nat → Nat → Prop) : Prop :=
  (n = 0 ∧ ∃ p c, v = .slice p 0 c) ∨ ∃ b o c, v = .slice (some ⟨b, o, none⟩) n c ∧ 0 < n ∧ (n ≤ c ∧ c ≤ 9223372036854775807) ∧ b < w.heap.size ∧ ∀ i, i < n → P i b (o + i * sz)
theorem SlR.form {w : World} {sz : Nat} {v : Value} {n : Nat} {P : Nat → Nat → Nat → Prop} (h : SlR w sz v n P) : ∃ p c, v = .slice p n c := by
  rcases h with ⟨rfl, p, c, rfl⟩ | ⟨b, o, c, rfl, _⟩
  · exact ⟨p, c, rfl⟩
  · exact ⟨_, _, rfl⟩
theorem SlR.form2 {w : World} {sz : Nat} {v : Value} {n : Nat} {P : Nat → Nat → Nat → Prop} (h : SlR w sz v n P) (hn : 0 < n) :
    ∃ b o c, v = .slice (some ⟨b, o, none⟩) n c ∧ (n ≤ c ∧ c ≤ 9223372036854775807) ∧ b < w.heap.size ∧ ∀ i, i < n → P i b (o + i * sz) := by
  rcases h with ⟨rfl, _⟩ | ⟨b, o, c, rfl, _, h1, h2, h3⟩
  · omega
  · exact ⟨b, o, c, rfl, h1, h2, h3⟩
theorem SlR.at_ {w : World} {sz : Nat} {n m b o c : Nat} {P : Nat → Nat → Nat → Prop} (h : SlR w sz (.slice (some ⟨b, o, none⟩) m c) n P) {i : Nat} (hi : i < n) : P i b (o + i * sz) ∧ b < w.heap.size := by
  rcases h with ⟨rfl, _⟩ | ⟨b', o', c', h1, _, _, h2, h3⟩
  · omega
  · injection h1 with h1 _ _
    injection h1 with h1
    injection h1 with h1 h4
    subst h1 h4
    exact ⟨h3 i hi, h2⟩
theorem SlR.below {w w' : World} {sz : Nat} {v : Value} {n : Nat} {P P' : Nat → Nat → Nat → Prop} (h : SlR w sz v n P) (hb : Below w.heap.size w w') (hP : ∀ i b o, b < w.heap.size → P i b o → P' i b o) : SlR w' sz v n P' := by
  rcases h with h | ⟨b, o, c, h1, h2, h3, h4, h5⟩
  · exact .inl h
  · exact .inr ⟨b, o, c, h1, h2, h3, Nat.lt_of_lt_of_le h4 hb.size, fun i hi => hP i b _ h4 (h5 i hi)⟩
theorem cell_below {w w' : World} (hb : Below w.heap.size w w') {b : Nat} (hl : b < w.heap.size) (o : Nat) : w'.cell? ⟨b, o, none⟩ = w.cell? ⟨b, o, none⟩ := hb.cell (p := ⟨b, o, none⟩) hl

def IntsR (w : World) (v : Value) (l : List Int) : Prop := SlR w 1 v l.length fun i b o => ∀ x, l[i]? = some x → w.cell? ⟨b, o, none⟩ = some (.int .i64 x)
def WordsR (w : World) (v : Value) (l : List Int) : Prop := SlR w 1 v l.length fun i b o => ∀ x, l[i]? = some x → w.cell? ⟨b, o, none⟩ = some (.int .u32 x)
def CasesR (w : World) (v : Value) (l : List PCase) : Prop := SlR w 2 v l.length fun i b o => ∀ x, l[i]? = some x → w.cell? ⟨b, o, none⟩ = some (.int .u32 x.n) ∧ w.cell? ⟨b, o + 1, none⟩ = some (.int .i64 x.to)
def ArrsR (w : World) (v : Value) (l : List PArr) : Prop := SlR w 2 v l.length fun i b o => ∀ x, l[i]? = some x → w.cell? ⟨b, o, none⟩ = some (.int .i64 x.kind) ∧ w.cell? ⟨b, o + 1, none⟩ = some (.int .i64 x.n)
theorem IntsR.below {w w' : World} {v : Value} {l : List Int} (h : IntsR w v l) (hb : Below w.heap.size w w') : IntsR w' v l := SlR.below h hb fun _ _ _ hl hP x hx => (cell_below hb hl _).trans (hP x hx)
theorem WordsR.below {w w' : World} {v : Value} {l : List Int} (h : WordsR w v l) (hb : Below w.heap.size w w') : WordsR w' v l := SlR.below h hb fun _ _ _ hl hP x hx => (cell_below hb hl _).trans (hP x hx)
theorem CasesR.below {w w' : World} {v : Value} {l : List PCase} (h : CasesR w v l) (hb : Below w.heap.size w w') : CasesR w' v l :=
  SlR.below h hb fun _ _ _ hl hP x hx => ⟨(cell_below hb hl _).trans (hP x hx).1, (cell_below hb hl _).trans (hP x hx).2⟩
theorem ArrsR.below {w w' : World} {v : Value} {l : List PArr} (h : ArrsR w v l) (hb : Below w.heap.size w w') : ArrsR w' v l :=
  SlR.below h hb fun _ _ _ hl hP x hx => ⟨(cell_below hb hl _).trans (hP x hx).1, (cell_below hb hl _).trans (hP x hx).2⟩

/-- An instruction's two lists. -/
structure InsL (w : World) (va vr : Value) (x : PIns) : Prop where
  args : IntsR w va x.args
  arrs : IntsR w vr x.arrs
  wn : 0 ≤ x.n ∧ x.n ≤ 4294967295
def insV (x : PIns) (va vr : Value) : Value := .agg #[.int .i64 x.op, .int .i64 x.d, .int .i64 x.a, .int .i64 x.b, .int .i64 x.f, .int .u32 x.n, va, vr]
/-- An instruction at a place. -/
structure InsR (w : World) (b o : Nat) (x : PIns) (va vr : Value) : Prop where
  op : w.cell? ⟨b, o, none⟩ = some (.int .i64 x.op)
  d : w.cell? ⟨b, o + 1, none⟩ = some (.int .i64 x.d)
  fa : w.cell? ⟨b, o + 2, none⟩ = some (.int .i64 x.a)
  fb : w.cell? ⟨b, o + 3, none⟩ = some (.int .i64 x.b)
  f : w.cell? ⟨b, o + 4, none⟩ = some (.int .i64 x.f)
  n : w.cell? ⟨b, o + 5, none⟩ = some (.int .u32 x.n)
  ca : w.cell? ⟨b, o + 6, none⟩ = some va
  cr : w.cell? ⟨b, o + 7, none⟩ = some vr
  l : InsL w va vr x
theorem InsL.below {w w' : World} {va vr : Value} {x : PIns} (h : InsL w va vr x) (hb : Below w.heap.size w w') : InsL w' va vr x := ⟨h.args.below hb, h.arrs.below hb, h.wn⟩
theorem InsR.below {w w' : World} {b o : Nat} {x : PIns} {va vr : Value} (h : InsR w b o x va vr) (hl : b < w.heap.size) (hb : Below w.heap.size w w') : InsR w' b o x va vr :=
  ⟨(cell_below hb hl _).trans h.op, (cell_below hb hl _).trans h.d, (cell_below hb hl _).trans h.fa, (cell_below hb hl _).trans h.fb, (cell_below hb hl _).trans h.f, (cell_below hb hl _).trans h.n, (cell_below hb hl _).trans h.ca, (cell_below hb hl _).trans h.cr, h.l.below hb⟩
def CodeR (w : World) (v : Value) (l : List PIns) : Prop := SlR w 8 v l.length fun i b o => ∀ x, l[i]? = some x → ∃ va vr, InsR w b o x va vr
theorem CodeR.below {w w' : World} {v : Value} {l : List PIns} (h : CodeR w v l) (hb : Below w.heap.size w w') : CodeR w' v l :=
  SlR.below h hb fun _ _ _ hl hP x hx => let ⟨va, vr, h⟩ := hP x hx; ⟨va, vr, h.below hl hb⟩

/-- An end's two lists. -/
structure EndL (w : World) (vc vt : Value) (x : PEnd) : Prop where
  cases : CasesR w vc x.cases
  targets : IntsR w vt x.targets
  wn : 0 ≤ x.n ∧ x.n ≤ 4294967295
def endV (x : PEnd) (vc vt : Value) : Value := .agg #[.int .i64 x.kind, .int .i64 x.op, .int .i64 x.a, .int .i64 x.b, .int .u32 x.n, .int .i64 x.to, .int .i64 x.els, vc, vt]
structure EndR (w : World) (b o : Nat) (x : PEnd) (vc vt : Value) : Prop where
  kind : w.cell? ⟨b, o, none⟩ = some (.int .i64 x.kind)
  op : w.cell? ⟨b, o + 1, none⟩ = some (.int .i64 x.op)
  fa : w.cell? ⟨b, o + 2, none⟩ = some (.int .i64 x.a)
  fb : w.cell? ⟨b, o + 3, none⟩ = some (.int .i64 x.b)
  n : w.cell? ⟨b, o + 4, none⟩ = some (.int .u32 x.n)
  to : w.cell? ⟨b, o + 5, none⟩ = some (.int .i64 x.to)
  els : w.cell? ⟨b, o + 6, none⟩ = some (.int .i64 x.els)
  cc : w.cell? ⟨b, o + 7, none⟩ = some vc
  ct : w.cell? ⟨b, o + 8, none⟩ = some vt
  l : EndL w vc vt x
theorem EndL.below {w w' : World} {vc vt : Value} {x : PEnd} (h : EndL w vc vt x) (hb : Below w.heap.size w w') : EndL w' vc vt x := ⟨h.cases.below hb, h.targets.below hb, h.wn⟩
theorem EndR.below {w w' : World} {b o : Nat} {x : PEnd} {vc vt : Value} (h : EndR w b o x vc vt) (hl : b < w.heap.size) (hb : Below w.heap.size w w') : EndR w' b o x vc vt :=
  ⟨(cell_below hb hl _).trans h.kind, (cell_below hb hl _).trans h.op, (cell_below hb hl _).trans h.fa, (cell_below hb hl _).trans h.fb, (cell_below hb hl _).trans h.n, (cell_below hb hl _).trans h.to, (cell_below hb hl _).trans h.els, (cell_below hb hl _).trans h.cc, (cell_below hb hl _).trans h.ct, h.l.below hb⟩
/-- A block at a place. -/
structure BlkR (w : World) (b o : Nat) (x : PBlk) (vk vc vt : Value) : Prop where
  ck : w.cell? ⟨b, o, none⟩ = some vk
  code : CodeR w vk x.code
  fin : EndR w b (o + 1) x.fin vc vt
def BlksR (w : World) (v : Value) (l : List PBlk) : Prop := SlR w 10 v l.length fun i b o => ∀ x, l[i]? = some x → ∃ vk vc vt, BlkR w b o x vk vc vt
theorem BlkR.below {w w' : World} {b o : Nat} {x : PBlk} {vk vc vt : Value} (h : BlkR w b o x vk vc vt) (hl : b < w.heap.size) (hb : Below w.heap.size w w') : BlkR w' b o x vk vc vt :=
  ⟨(cell_below hb hl _).trans h.ck, h.code.below hb, h.fin.below hl hb⟩
theorem BlksR.below {w w' : World} {v : Value} {l : List PBlk} (h : BlksR w v l) (hb : Below w.heap.size w w') : BlksR w' v l :=
  SlR.below h hb fun _ _ _ hl hP x hx => let ⟨vk, vc, vt, h⟩ := hP x hx; ⟨vk, vc, vt, h.below hl hb⟩
/-- A graph's three lists. -/
structure GrL (w : World) (vp va vb : Value) (x : PGr) : Prop where
  params : IntsR w vp x.params
  arrays : ArrsR w va x.arrays
  blocks : BlksR w vb x.blocks
def grV (x : PGr) (vp va vb : Value) : Value := .agg #[vp, .int .i64 x.temps, va, vb]
structure GrR (w : World) (b o : Nat) (x : PGr) (vp va vb : Value) : Prop where
  cp : w.cell? ⟨b, o, none⟩ = some vp
  temps : w.cell? ⟨b, o + 1, none⟩ = some (.int .i64 x.temps)
  ca : w.cell? ⟨b, o + 2, none⟩ = some va
  cb : w.cell? ⟨b, o + 3, none⟩ = some vb
  l : GrL w vp va vb x
theorem GrL.below {w w' : World} {vp va vb : Value} {x : PGr} (h : GrL w vp va vb x) (hb : Below w.heap.size w w') : GrL w' vp va vb x := ⟨h.params.below hb, h.arrays.below hb, h.blocks.below hb⟩
theorem GrR.below {w w' : World} {b o : Nat} {x : PGr} {vp va vb : Value} (h : GrR w b o x vp va vb) (hl : b < w.heap.size) (hb : Below w.heap.size w w') : GrR w' b o x vp va vb :=
  ⟨(cell_below hb hl _).trans h.cp, (cell_below hb hl _).trans h.temps, (cell_below hb hl _).trans h.ca, (cell_below hb hl _).trans h.cb, h.l.below hb⟩
def GrsR (w : World) (v : Value) (l : List PGr) : Prop := SlR w 4 v l.length fun i b o => ∀ x, l[i]? = some x → ∃ vp va vb, GrR w b o x vp va vb
theorem GrsR.below {w w' : World} {v : Value} {l : List PGr} (h : GrsR w v l) (hb : Below w.heap.size w w') : GrsR w' v l :=
  SlR.below h hb fun _ _ _ hl hP x hx => let ⟨vp, va, vb, h⟩ := hP x hx; ⟨vp, va, vb, h.below hl hb⟩
/-- A module's three lists. -/
structure ModL (w : World) (vg va vf : Value) (x : PMod) : Prop where
  globals : WordsR w vg x.globals
  arrays : IntsR w va x.arrays
  funcs : GrsR w vf x.funcs
def modV (x : PMod) (vg va vf : Value) : Value := .agg #[vg, va, vf, .int .i64 x.main]
theorem ModL.below {w w' : World} {vg va vf : Value} {x : PMod} (h : ModL w vg va vf x) (hb : Below w.heap.size w w') : ModL w' vg va vf x := ⟨h.globals.below hb, h.arrays.below hb, h.funcs.below hb⟩
end Go.Proofs.YtmnhafncdblklaaDoor.Graph
namespace Go.Proofs.YtmnhafncdblklaaDoor.Relax
open Go.RowKit Go.Proofs.YtmnhafncdblklaaDoor.Enc Go.Proofs.YtmnhafncdblklaaDoor.Graph

/-- A line at a place. -/
structure LineR (w : World) (b o : Nat) (x : PL) (v : Value) : Prop where
  op : w.cell? ⟨b, o, none⟩ = some (.int .i64 x.op)
  fa : w.cell? ⟨b, o + 1, none⟩ = some (.int .i64 x.a)
  fb : w.cell? ⟨b, o + 2, none⟩ = some (.int .i64 x.b)
  imm : w.cell? ⟨b, o + 3, none⟩ = some (.int .i64 x.imm)
  n : w.cell? ⟨b, o + 4, none⟩ = some (.int .u32 x.n)
  label : w.cell? ⟨b, o + 5, none⟩ = some (.int .i64 x.label)
  cl : w.cell? ⟨b, o + 6, none⟩ = some v
  list : IntsR w v x.list
theorem LineR.below {w w' : World} {b o : Nat} {x : PL} {v : Value} (h : LineR w b o x v) (hl : b < w.heap.size) (hb : Below w.heap.size w w') : LineR w' b o x v :=
  ⟨(cell_below hb hl _).trans h.op, (cell_below hb hl _).trans h.fa, (cell_below hb hl _).trans h.fb, (cell_below hb hl _).trans h.imm, (cell_below hb hl _).trans h.n, (cell_below hb hl _).trans h.label, (cell_below hb hl _).trans h.cl, h.list.below hb⟩
def LinesR (w : World) (v : Value) (l : List PL) : Prop := SlR w 7 v l.length fun i b o => ∀ x, l[i]? = some x → ∃ vl, LineR w b o x vl
theorem LinesR.below {w w' : World} {v : Value} {l : List PL} (h : LinesR w v l) (hb : Below w.heap.size w w') : LinesR w' v l :=
  SlR.below h hb fun _ _ _ hl hP x hx => let ⟨vl, h⟩ := hP x hx; ⟨vl, h.below hl hb⟩
abbrev lineV (x : PL) (p : Option Addr) (n c : Nat) : Value := .agg #[.int .i64 x.op, .int .i64 x.a, .int .i64 x.b, .int .i64 x.imm, .int .u32 x.n, .int .i64 x.label, .slice p n c]
theorem ret_bool {a b : Bool} (h : a = b) : Ending.returned (.bool a) = .returned (.bool b) := by rw [h]
theorem below_one (w : World) (o : Obj) : Below w.heap.size w (w.alloc o) := (Below.refl _ _).alloc (Nat.le_refl _) o
theorem bt {a b c : World} (h : Below a.heap.size a b) (k : Below b.heap.size b c) : Below a.heap.size a c := h.trans (k.mono h.size)
set_option maxHeartbeats 1000000 in
theorem branch16_any (n : Int) (w : World) : Calls Tryd.prog 41 #[.int .i64 n] w fun e w' => e = .returned (.bool (branchOp n)) ∧ w' = w := by
  go_enter Tryd.func41, Tryd.ntmps41
  go_wp2
  all_goals go_ret
  all_goals refine ⟨ret_bool ?_, rfl⟩
  all_goals (rw [Bool.eq_iff_iff]; simp_all [branchOp] <;> omega)
set_option maxHeartbeats 1000000 in
theorem near_any (n : Int) (w : World) : Calls Tryd.prog 21 #[.int .i64 n] w fun e w' => e = .returned (.bool (nearB n)) ∧ w' = w := by
  go_enter Tryd.func21, Tryd.ntmps21
  go_wp2
  all_goals go_ret
  all_goals refine ⟨ret_bool ?_, rfl⟩
  all_goals (rw [Bool.eq_iff_iff]; simp_all [nearB] <;> omega)
set_option maxHeartbeats 2000000 in
theorem branch_any (x : PL) (p : Option Addr) (n c : Nat) (w : World) : Calls Tryd.prog 20 #[lineV x p n c] w fun e w' => e = .returned (.bool (isBr x)) ∧ Below w.heap.size w w' := by
  obtain ⟨op, a, b, imm, nn, label, list⟩ := x
  obtain ⟨br, hbr⟩ : ∃ br, branchOp op = br := ⟨_, rfl⟩
  have HB := Lib.hid (fun w => hbr ▸ branch16_any op w)
  have HE := Lib.hid hbr
  clear hbr
  unfold lineV
  cases br
  all_goals
    go_enter Tryd.func20, Tryd.ntmps20
    go_wp2_with (go_at_call 41; refine (HB.out _).mono ?_; rintro e w2 ⟨rfl, rfl⟩)
    go_ret
    exact ⟨ret_bool (by unfold isBr; simp only [HE.out]; rfl), below_one w _⟩
set_option maxHeartbeats 2000000 in
theorem goes_any (x : PL) (p : Option Addr) (n c : Nat) (w : World) : Calls Tryd.prog 24 #[lineV x p n c] w fun e w' => e = .returned (.bool (goesB x)) ∧ Below w.heap.size w w' := by
  obtain ⟨br, hbr⟩ : ∃ br, isBr x = br := ⟨_, rfl⟩
  have HB := Lib.hid (fun w => hbr ▸ branch_any x p n c w)
  have HE := Lib.hid hbr
  clear hbr
  obtain ⟨op, a, b, imm, nn, label, list⟩ := x
  unfold lineV at HB ⊢
  cases br
  case true =>
    go_enter Tryd.func24, Tryd.ntmps24
    go_wp2_with (go_at_call 20; refine (HB.out _).mono ?_; rintro e w2 ⟨rfl, hb⟩; have H2 := Lib.hid hb; clear hb)
    go_ret
    exact ⟨ret_bool (by unfold goesB; rw [HE.out]; rfl), bt (below_one w _) H2.out⟩
  case false =>
    by_cases h41 : op = 41
    · have e1 : (op == 41) = true := by simpa using h41
      clear h41
      go_enter Tryd.func24, Tryd.ntmps24
      go_wp2_with (go_at_call 20; refine (HB.out _).mono ?_; rintro e w2 ⟨rfl, hb⟩; have c0 := hb.cell (p := ⟨w.heap.size, 0, none⟩) (by simp); have H2 := Lib.hid hb; clear hb)
      go_ret
      exact ⟨ret_bool (by unfold goesB; rw [HE.out]; simp only [e1]; rfl), bt (below_one w _) H2.out⟩
    · have e1 : (op == 41) = false := by simpa using h41
      clear h41
      go_enter Tryd.func24, Tryd.ntmps24
      go_wp2_with (go_at_call 20; refine (HB.out _).mono ?_; rintro e w2 ⟨rfl, hb⟩; have c0 := hb.cell (p := ⟨w.heap.size, 0, none⟩) (by simp); have H2 := Lib.hid hb; clear hb)
      go_ret
      exact ⟨ret_bool (by unfold goesB; rw [HE.out]; simp only [e1]; rfl), bt (below_one w _) H2.out⟩
end Go.Proofs.YtmnhafncdblklaaDoor.Relax
namespace Go.Proofs.YtmnhafncdblklaaDoor.Relax
open Go.RowKit Go.Proofs.YtmnhafncdblklaaDoor.Enc Go.Proofs.YtmnhafncdblklaaDoor.Graph
theorem ret_int {a b : Int} (h : a = b) : Ending.returned (.int .i64 a) = .returned (.int .i64 b) := by rw [h]
set_option maxHeartbeats 4000000 in
theorem size_any (x : PL) (p : Option Addr) (c : Nat) (long : Bool) (w : World) (hl : x.list.length ≤ 9223372036854775000) :
    Calls Tryd.prog 40 #[lineV x p x.list.length c, .bool long] w fun e w' => e = .returned (.int .i64 (sizeP x long)) ∧ Below w.heap.size w w' := by
  obtain ⟨op, a, b, imm, nn, label, list⟩ := x
  simp only at hl
  obtain ⟨n, hn⟩ : ∃ n, n = list.length := ⟨_, rfl⟩
  obtain ⟨br, hbr⟩ : ∃ br, branchOp op = br := ⟨_, rfl⟩
  have HB := Lib.hid (fun w => hbr ▸ branch16_any op w)
  have HE := Lib.hid hbr
  have HN := Lib.hid hn
  unfold lineV
  simp only
  rw [← hn] at hl ⊢
  clear hbr hn
  have i1 : (0 : Int) ≤ n := by omega
  have i2 : (n : Int) ≤ 9223372036854775000 := by omega
  cases br <;> cases long
  all_goals
    go_enter Tryd.func40, Tryd.ntmps40
    go_wp2_with (go_at_call 41; refine (HB.out _).mono ?_; rintro e w2 ⟨rfl, rfl⟩)
    all_goals go_ret
    all_goals refine ⟨ret_int ?_, below_one w _⟩
    all_goals (have hE := HE.out; have hN := HN.out; clear HE HN HB i1 i2 hl; unfold sizeP; first | (simp_all; done) | (simp_all [branchOp]; done) | (simp_all; omega))
set_option maxHeartbeats 4000000 in
theorem other_any (n : Int) (w : World) : Calls Tryd.prog 39 #[.int .i64 n] w fun e w' => e = .returned (.int .i64 (otherP n)) ∧ w' = w := by
  go_enter Tryd.func39, Tryd.ntmps39
  go_wp2
  all_goals go_ret
  all_goals refine ⟨ret_int ?_, rfl⟩
  all_goals (unfold otherP; simp_all)
end Go.Proofs.YtmnhafncdblklaaDoor.Relax
namespace Go.Proofs.YtmnhafncdblklaaDoor.Relax
open Go.RowKit Go.Proofs.YtmnhafncdblklaaDoor.Enc Go.Proofs.YtmnhafncdblklaaDoor.Graph

def Is (r : Value) (w : World) (e : Ending) (w' : World) : Prop := e = .returned r ∧ Below w.heap.size w w'
theorem getN {α : Type} {l : List α} {n k : Nat} (hn : n = l.length) (hk : k < n) : ∃ t, l[k]? = some t := ⟨_, List.getElem?_eq_getElem (by rw [← hn]; exact hk)⟩
theorem lineAt_of {l : List PL} {k : Nat} {x : PL} (h : l[k]? = some x) : lineAt l k = x := by
  unfold lineAt; rw [List.getD_eq_getElem?_getD, h]; rfl
theorem brN_le (l : List PL) : ∀ k, brN l k ≤ k
  | 0 => Nat.le_refl _
  | k + 1 => by have := brN_le l k; unfold brN; split <;> omega
end Go.Proofs.YtmnhafncdblklaaDoor.Relax
namespace Go.Proofs.YtmnhafncdblklaaDoor.Relax
open Go.RowKit Go.Proofs.YtmnhafncdblklaaDoor.Enc Go.Proofs.YtmnhafncdblklaaDoor.Graph

/-- An answer of the assembler, as it lies. -/
structure AsmR (w : World) (a : Asm) (vw vk vp : Value) : Prop where
  words : WordsR w vw a.words
  kinds : IntsR w vk a.kinds
  places : IntsR w vp a.places
theorem AsmR.below {w w' : World} {a : Asm} {vw vk vp : Value} (h : AsmR w a vw vk vp) (hb : Below w.heap.size w w') : AsmR w' a vw vk vp := ⟨h.words.below hb, h.kinds.below hb, h.places.below hb⟩
abbrev asmV (a : Asm) (vw vk vp : Value) : Value := .agg #[vw, vk, vp, .int .i64 a.rounds]
theorem ints_pt {w : World} {p : Option Addr} {n c : Nat} {l : List Int} (h : IntsR w (.slice p n c) l) {k : Nat} (hk : k < l.length) :
    ∃ b o x, p = some ⟨b, o, none⟩ ∧ l[k]? = some x ∧ b < w.heap.size ∧ w.cell? ⟨b, o + k, none⟩ = some (.int .i64 x) ∧ l.length ≤ c ∧ c ≤ 9223372036854775807 := by
  obtain ⟨b, o, c', h1, h2, h3, h4⟩ := SlR.form2 h (by omega)
  injection h1 with h1 h5 h6
  subst h1 h6
  obtain ⟨x, hx⟩ : ∃ x, l[k]? = some x := ⟨_, List.getElem?_eq_getElem hk⟩
  have := h4 k hk x hx
  rw [Nat.mul_one] at this
  exact ⟨b, o, x, rfl, hx, h3, this, h2.1, h2.2⟩
theorem words_pt {w : World} {p : Option Addr} {n c : Nat} {l : List Int} (h : WordsR w (.slice p n c) l) {k : Nat} (hk : k < l.length) :
    ∃ b o x, p = some ⟨b, o, none⟩ ∧ l[k]? = some x ∧ b < w.heap.size ∧ w.cell? ⟨b, o + k, none⟩ = some (.int .u32 x) ∧ l.length ≤ c ∧ c ≤ 9223372036854775807 := by
  obtain ⟨b, o, c', h1, h2, h3, h4⟩ := SlR.form2 h (by omega)
  injection h1 with h1 h5 h6
  subst h1 h6
  obtain ⟨x, hx⟩ : ∃ x, l[k]? = some x := ⟨_, List.getElem?_eq_getElem hk⟩
  have := h4 k hk x hx
  rw [Nat.mul_one] at this
  exact ⟨b, o, x, rfl, hx, h3, this, h2.1, h2.2⟩
theorem sl_len {w : World} {sz : Nat} {v : Value} {n : Nat} {P : Nat → Nat → Nat → Prop} (h : SlR w sz v n P) : n ≤ 9223372036854775807 := by
  rcases h with ⟨h0, _⟩ | ⟨b, o, c, _, _, h2, _⟩ <;> omega
theorem below_drew {w w' : World} (h : Below w.heap.size w w') (n : Nat) : Below w.heap.size w (w'.drewN n) := h.trans ⟨rfl, rfl, rfl, Nat.le_refl _, fun _ _ => rfl⟩
/-- The two boxes of Same. -/
structure Box2 (w wr : World) (v0 v1 v2 v3 u0 u1 u2 u3 : Value) : Prop where
  b : Below w.heap.size w wr
  sz : w.heap.size + 1 < wr.heap.size
  c0 : wr.cell? ⟨w.heap.size, 0, none⟩ = some v0
  c1 : wr.cell? ⟨w.heap.size, 1, none⟩ = some v1
  c2 : wr.cell? ⟨w.heap.size, 2, none⟩ = some v2
  c3 : wr.cell? ⟨w.heap.size, 3, none⟩ = some v3
  d0 : wr.cell? ⟨w.heap.size + 1, 0, none⟩ = some u0
  d1 : wr.cell? ⟨w.heap.size + 1, 1, none⟩ = some u1
  d2 : wr.cell? ⟨w.heap.size + 1, 2, none⟩ = some u2
  d3 : wr.cell? ⟨w.heap.size + 1, 3, none⟩ = some u3
theorem Box2.start (w : World) (t : TypeId) (v0 v1 v2 v3 u0 u1 u2 u3 : Value) : Box2 w ((w.alloc (.cells #[v0, v1, v2, v3] t)).alloc (.cells #[u0, u1, u2, u3] t)) v0 v1 v2 v3 u0 u1 u2 u3 := by
  refine ⟨(below_one w _).alloc (by simp) _, by simp, ?_, ?_, ?_, ?_, ?_, ?_, ?_, ?_⟩ <;> go_simp
theorem Box2.drew {w wr : World} {v0 v1 v2 v3 u0 u1 u2 u3 : Value} (h : Box2 w wr v0 v1 v2 v3 u0 u1 u2 u3) (n : Nat) : Box2 w (wr.drewN n) v0 v1 v2 v3 u0 u1 u2 u3 :=
  ⟨below_drew h.b n, h.sz, h.c0, h.c1, h.c2, h.c3, h.d0, h.d1, h.d2, h.d3⟩
set_option maxHeartbeats 8000000 in
set_option maxRecDepth 100000 in
theorem same_any (a : Asm) (vw vk vp uw uk up : Value) (w : World) (h : AsmR w a vw vk vp) (k : AsmR w a uw uk up) :
    Calls Tryd.prog 14 #[asmV a vw vk vp, asmV a uw uk up] w (Is (.bool true) w) := by
  obtain ⟨pw, cw, rfl⟩ := h.words.form
  obtain ⟨pk, ck, rfl⟩ := h.kinds.form
  obtain ⟨pp, cp, rfl⟩ := h.places.form
  obtain ⟨qw, dw, rfl⟩ := k.words.form
  obtain ⟨qk, dk, rfl⟩ := k.kinds.form
  obtain ⟨qp, dp, rfl⟩ := k.places.form
  have m1 := sl_len h.words
  have m2 := sl_len h.kinds
  have m3 := sl_len h.places
  obtain ⟨words, kinds, places, rounds⟩ := a
  simp only at m1 m2 m3
  obtain ⟨nw, hnw⟩ : ∃ n, n = words.length := ⟨_, rfl⟩
  obtain ⟨nk, hnk⟩ : ∃ n, n = kinds.length := ⟨_, rfl⟩
  obtain ⟨np, hnp⟩ : ∃ n, n = places.length := ⟨_, rfl⟩
  unfold asmV
  simp only
  rw [← hnw] at m1
  rw [← hnk] at m2
  rw [← hnp] at m3
  rw [← hnw, ← hnk, ← hnp]
  have HH := Lib.hid h
  have HK := Lib.hid k
  have HNW := Lib.hid hnw
  have HNK := Lib.hid hnk
  have HNP := Lib.hid hnp
  have HB0 := Lib.hid (Box2.start w 27 (.slice pw nw cw) (.slice pk nk ck) (.slice pp np cp) (.int .i64 rounds) (.slice qw nw dw) (.slice qk nk dk) (.slice qp np dp) (.int .i64 rounds))
  clear h k hnw hnk hnp
  have i1 : (nw : Int) ≤ 9223372036854775807 := by omega
  have i2 : (nk : Int) ≤ 9223372036854775807 := by omega
  have i3 : (np : Int) ≤ 9223372036854775807 := by omega
  go_enter Tryd.func14, Tryd.ntmps14
  go_wp2
  go_loopw [5] (fun i wr => ∃ k : Nat, k ≤ nw ∧ i = .int .i64 k ∧ Hid (Box2 w wr (.slice pw nw cw) (.slice pk nk ck) (.slice pp np cp) (.int .i64 rounds) (.slice qw nw dw) (.slice qk nk dk) (.slice qp np dp) (.int .i64 rounds))) (fun i _ => nw - (intOf i).toNat)
  case atStart => exact ⟨0, Nat.zero_le _, rfl, HB0⟩
  case round =>
    obtain ⟨k1, hk1, rfl, HB1⟩ := hrel
    obtain ⟨bb, sz, c0, c1, c2, c3, d0, d1, d2, d3⟩ := HB1.out
    have BB := Lib.hid bb
    have z0 : w.heap.size < wr.heap.size := by omega
    clear bb
    by_cases hlt : k1 < nw
    · obtain ⟨b1, o1, x, rfl, hx, hl1, e1, _, _⟩ := words_pt HH.out.words (k := k1) (by have := HNW.out; show k1 < words.length; omega)
      obtain ⟨b2, o2, y, rfl, hy, hl2, e2, _, _⟩ := words_pt HK.out.words (k := k1) (by have := HNW.out; show k1 < words.length; omega)
      obtain rfl : x = y := by rw [hx] at hy; simpa using hy
      have g1 := (BB.out.cell (p := ⟨b1, o1 + k1, none⟩) hl1).trans e1
      have g2 := (BB.out.cell (p := ⟨b2, o2 + k1, none⟩) hl2).trans e2
      have l1 : b1 < wr.heap.size := by omega
      have l2 : b2 < wr.heap.size := by omega
      have i0 : (0 : Int) ≤ k1 := by omega
      have i4 : (k1 : Int) < nw := by omega
      clear hx hy e1 e2
      go_wp2
      go_quiet (fail)
      go_wp2
      exact ⟨⟨k1 + 1, by omega, by go_num, Lib.hid (HB1.out.drew nq)⟩, by simp [intOf]; omega⟩
    · obtain rfl : nw = k1 := by omega
      go_wp2
      go_loopw [6] (fun i wr => ∃ k : Nat, k ≤ nk ∧ i = .int .i64 k ∧ Hid (Box2 w wr (.slice pw nw cw) (.slice pk nk ck) (.slice pp np cp) (.int .i64 rounds) (.slice qw nw dw) (.slice qk nk dk) (.slice qp np dp) (.int .i64 rounds))) (fun i _ => nk - (intOf i).toNat)
      case atStart => exact ⟨0, Nat.zero_le _, rfl, HB1⟩
      case round =>
        obtain ⟨k2, hk2, rfl, HB2⟩ := hrel
        obtain ⟨bb, sz, c0, c1, c2, c3, d0, d1, d2, d3⟩ := HB2.out
        have BB := Lib.hid bb
        have z0 : w.heap.size < wr.heap.size := by omega
        clear bb
        by_cases hlt : k2 < nk
        · obtain ⟨b1, o1, x, rfl, hx, hl1, e1, _, _⟩ := ints_pt HH.out.kinds (k := k2) (by have := HNK.out; show k2 < kinds.length; omega)
          obtain ⟨b2, o2, y, rfl, hy, hl2, e2, _, _⟩ := ints_pt HK.out.kinds (k := k2) (by have := HNK.out; show k2 < kinds.length; omega)
          obtain rfl : x = y := by rw [hx] at hy; simpa using hy
          have g1 := (BB.out.cell (p := ⟨b1, o1 + k2, none⟩) hl1).trans e1
          have g2 := (BB.out.cell (p := ⟨b2, o2 + k2, none⟩) hl2).trans e2
          have l1 : b1 < wr.heap.size := by omega
          have l2 : b2 < wr.heap.size := by omega
          have i0 : (0 : Int) ≤ k2 := by omega
          have i4 : (k2 : Int) < nk := by omega
          clear hx hy e1 e2
          go_wp2
          go_quiet (fail)
          go_wp2
          exact ⟨⟨k2 + 1, by omega, by go_num, Lib.hid (HB2.out.drew nq)⟩, by simp [intOf]; omega⟩
        · obtain rfl : nk = k2 := by omega
          go_wp2
          go_loopw [7] (fun i wr => ∃ k : Nat, k ≤ np ∧ i = .int .i64 k ∧ Hid (Box2 w wr (.slice pw nw cw) (.slice pk nk ck) (.slice pp np cp) (.int .i64 rounds) (.slice qw nw dw) (.slice qk nk dk) (.slice qp np dp) (.int .i64 rounds))) (fun i _ => np - (intOf i).toNat)
          case atStart => exact ⟨0, Nat.zero_le _, rfl, HB2⟩
          case round =>
            obtain ⟨k3, hk3, rfl, HB3⟩ := hrel
            obtain ⟨bb, sz, c0, c1, c2, c3, d0, d1, d2, d3⟩ := HB3.out
            have BB := Lib.hid bb
            have z0 : w.heap.size < wr.heap.size := by omega
            clear bb
            by_cases hlt : k3 < np
            · obtain ⟨b1, o1, x, rfl, hx, hl1, e1, _, _⟩ := ints_pt HH.out.places (k := k3) (by have := HNP.out; show k3 < places.length; omega)
              obtain ⟨b2, o2, y, rfl, hy, hl2, e2, _, _⟩ := ints_pt HK.out.places (k := k3) (by have := HNP.out; show k3 < places.length; omega)
              obtain rfl : x = y := by rw [hx] at hy; simpa using hy
              have g1 := (BB.out.cell (p := ⟨b1, o1 + k3, none⟩) hl1).trans e1
              have g2 := (BB.out.cell (p := ⟨b2, o2 + k3, none⟩) hl2).trans e2
              have l1 : b1 < wr.heap.size := by omega
              have l2 : b2 < wr.heap.size := by omega
              have i0 : (0 : Int) ≤ k3 := by omega
              have i4 : (k3 : Int) < np := by omega
              clear hx hy e1 e2
              go_wp2
              go_quiet (fail)
              go_wp2
              exact ⟨⟨k3 + 1, by omega, by go_num, Lib.hid (HB3.out.drew nq)⟩, by simp [intOf]; omega⟩
            · obtain rfl : np = k3 := by omega
              go_wp2
              go_ret
              exact ⟨rfl, BB.out⟩
end Go.Proofs.YtmnhafncdblklaaDoor.Relax
