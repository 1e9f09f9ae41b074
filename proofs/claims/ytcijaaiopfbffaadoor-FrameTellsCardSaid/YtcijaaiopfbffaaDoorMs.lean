/- Which modules may be: plainly, as chapter 5 says. No condition. -/
import Derived.Test.YtcijaaiopfbffaaDoorMp
namespace Go.Proofs.YtcijaaiopfbffaaDoor.Graph
open Go.RowKit

def belowB (n most : Int) : Bool := decide (0 ≤ n) && decide (n < most)
def allBelowB (l : List Int) (most : Int) : Bool := l.all (belowB · most)
/-- How many ArrayParams there are. -/
def apN (l : List PArr) : Nat := l.countP (fun a => a.kind == 3)
def sumI (l : List Int) : Int := l.foldr (· + ·) 0
def wholeB (m : PMod) : Bool :=
  decide (1 ≤ m.funcs.length) && decide (m.funcs.length ≤ 60) && belowB m.main m.funcs.length && decide (m.globals.length ≤ 200) && decide (m.arrays.length ≤ 200) &&
  m.arrays.all (fun x => decide (1 ≤ x) && decide (x ≤ 1000)) && decide (sumI m.arrays ≤ 10000) &&
  (match m.funcs[m.main.toNat]? with | some g => decide (g.params.length = 0) && decide (apN g.arrays = 0) | none => false)
def ownB (g : PGr) : Bool := decide (0 ≤ g.temps) && decide (g.temps ≤ 8000) && decide (g.params.length ≤ 8) && decide g.params.Nodup && allBelowB g.params g.temps
/-- What of an array may be; how many words it has of its own. -/
def arrB (m : PMod) (a : PArr) : Bool :=
  if a.kind = 1 then belowB a.n m.arrays.length else if a.kind = 2 then decide (1 ≤ a.n) && decide (a.n ≤ 1000) else if a.kind = 3 then decide (a.n = 0) else false
def arrW (a : PArr) : Int := if a.kind = 2 then a.n else 0
def arraysB (m : PMod) (g : PGr) : Bool := decide (g.arrays.length ≤ 500) && g.arrays.all (arrB m) && decide (sumI (g.arrays.map arrW) ≤ 1000) && decide (apN g.arrays ≤ 8)
/-- The sum of the codes' lengths, as the machine's integers have it. -/
def codeW (l : List PBlk) : Int := l.foldl (fun a b => wrap64 (a + (b.code.length : Int))) 0
def blocksB (g : PGr) : Bool := decide (1 ≤ g.blocks.length) && decide (g.blocks.length ≤ 20000) && decide (codeW g.blocks ≤ 40000)
def headE (m : PMod) (g : PGr) : Int := if !ownB g then 51 else if !arraysB m g then 52 else if !blocksB g then 50 else 0
/-- What an instruction has: as the document's answer counts it. -/
def kindI (op : Int) : Int :=
  if op = 1 then 1 else if 2 ≤ op ∧ op ≤ 5 then 2 else if 6 ≤ op ∧ op ≤ 24 then 3 else if 25 ≤ op ∧ op ≤ 29 then op - 25 + 4 else if op = 30 then 9 else if op = 31 ∨ op = 32 then 10 else 0
def plainB (i : PIns) : Bool :=
  let k := kindI i.op
  let d := k == 5 || k == 7 || k == 10
  let a := k == 1 || k == 4 || k == 8 || k == 9
  let b := k != 3 && k != 7
  let f := decide (k < 4) || decide (8 < k)
  !(d && i.d != 0) && !(a && i.a != 0) && !(b && i.b != 0) && !(f && i.f != 0) && !(k != 1 && i.n != 0) && (k == 8 || (i.args.length == 0 && i.arrs.length == 0))
def callB (m : PMod) (g : PGr) (i : PIns) : Bool :=
  belowB i.f m.funcs.length && (match m.funcs[i.f.toNat]? with
    | some h => decide (i.args.length = h.params.length) && decide (i.arrs.length = apN h.arrays) && allBelowB i.args g.temps && allBelowB i.arrs g.arrays.length
    | none => false)
def hasD (k : Int) : Bool := !(k == 5 || k == 7 || k == 10)
def hasA (k : Int) : Bool := k == 2 || k == 3 || k == 5 || k == 6 || k == 7 || k == 10
def hasB (k : Int) : Bool := k == 3 || k == 7
def insE (m : PMod) (g : PGr) (i : PIns) : Int :=
  let k := kindI i.op
  if k == 0 || !plainB i then 53
  else if (hasD k && !(k == 8 && i.d == -1) && !belowB i.d g.temps) || (hasA k && !belowB i.a g.temps) || (hasB k && !belowB i.b g.temps) then 51
  else if k == 8 then (if callB m g i then 0 else 54)
  else if (k == 4 || k == 5) && !belowB i.f m.globals.length then 53
  else if (k == 6 || k == 7) && !belowB i.f g.arrays.length then 52
  else 0
def casesB (n : Int) (l : List PCase) : Bool := decide (l.length ≤ 400) && l.all (fun c => belowB c.to n) && decide (l.map (·.n)).Nodup
def bareB (e h : PEnd) : Bool := e.op == h.op && e.a == h.a && e.b == h.b && e.n == h.n && e.to == h.to && e.els == h.els && e.cases.length == h.cases.length && e.targets.length == h.targets.length
def zeroE : PEnd := ⟨0, 0, 0, 0, 0, 0, 0, [], []⟩
def endB (g : PGr) (e : PEnd) : Bool :=
  let n : Int := g.blocks.length
  if e.kind = 1 then belowB e.to n && bareB e { zeroE with to := e.to }
  else if e.kind = 2 then decide (19 ≤ e.op) && decide (e.op ≤ 24) && belowB e.a g.temps && belowB e.b g.temps && belowB e.to n && belowB e.els n && bareB e { zeroE with op := e.op, a := e.a, b := e.b, to := e.to, els := e.els }
  else if e.kind = 3 then belowB e.a g.temps && belowB e.to n && casesB n e.cases && bareB e { zeroE with a := e.a, to := e.to, cases := e.cases }
  else if e.kind = 4 then belowB e.a g.temps && belowB e.to n && allBelowB e.targets n && decide (1 ≤ e.targets.length) && decide (e.targets.length ≤ 400) && bareB e { zeroE with a := e.a, n := e.n, to := e.to, targets := e.targets }
  else if e.kind = 5 then (e.a == -1 || belowB e.a g.temps) && bareB e { zeroE with a := e.a }
  else false
def codeE (m : PMod) (g : PGr) : List PIns → Int
  | [] => 0
  | i :: l => if insE m g i = 0 then codeE m g l else insE m g i
def blkE (m : PMod) (g : PGr) (b : PBlk) : Int := if codeE m g b.code ≠ 0 then codeE m g b.code else if endB g b.fin then 0 else 55
/-- The first block in which something is wrong. -/
def blksE (m : PMod) (g : PGr) : Nat → List PBlk → Int × Int
  | _, [] => (-1, 0)
  | k, b :: l => if blkE m g b = 0 then blksE m g (k + 1) l else (k, blkE m g b)
def headsE (m : PMod) : Nat → List PGr → Option (Int × Int)
  | _, [] => none
  | k, g :: l => if headE m g = 0 then headsE m (k + 1) l else some (k, headE m g)
def bodiesE (m : PMod) : Nat → List PGr → Int × Int × Int
  | _, [] => (-1, -1, 0)
  | k, g :: l => if (blksE m g 0 g.blocks).2 = 0 then bodiesE m (k + 1) l else (k, (blksE m g 0 g.blocks).1, (blksE m g 0 g.blocks).2)
def checkP (m : PMod) : Int × Int × Int :=
  if !wholeB m then (-1, -1, 56)
  else match headsE m 0 m.funcs with
    | some (k, e) => (k, -1, e)
    | none => bodiesE m 0 m.funcs
theorem exGood : checkP ⟨[], [], [⟨[], 0, [], [⟨[], ⟨5, 0, -1, 0, 0, 0, 0, [], []⟩⟩]⟩], 0⟩ = (-1, -1, 0) := by decide +kernel
theorem exBad : checkP ⟨[], [], [⟨[], 0, [], [⟨[⟨1, 0, 0, 0, 0, 0, [], []⟩], ⟨5, 0, -1, 0, 0, 0, 0, [], []⟩⟩]⟩], 0⟩ = (0, 0, 51) := by decide +kernel
theorem exNone : checkP ⟨[], [], [⟨[], 0, [], []⟩], 0⟩ = (0, -1, 50) := by decide +kernel
end Go.Proofs.YtcijaaiopfbffaaDoor.Graph
