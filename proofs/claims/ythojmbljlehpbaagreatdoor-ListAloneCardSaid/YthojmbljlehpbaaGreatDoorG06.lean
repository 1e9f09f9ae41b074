/- Another value in one field of an instruction changes that field's bits alone, plainly. No condition. -/
import Derived.Test.YthojmbljlehpbaaGreatDoorG00
import Derived.Test.YthojmbljlehpbaaGreatDoorProg
import Derived.WalkKit
import Derived.WalkSpells
import Derived.WalkLawsBesides
import Derived.Lib.Hide
import Derived.OneCell
import Derived.StillTactics
import Derived.OwnWalk
import Derived.BigQuiet
import Derived.KernelRfl
import Derived.BigFrame
import Derived.Test.YthojmbljlehpbaaGreatDoorG05
import Derived.Deep.RegionHeld3
import Derived.Deep.AppendLies
import Derived.Deep.OwnRows
import Derived.IntWalk
import Derived.Test.YthojmbljlehpbaaGreatDoorG04
import Derived.OpenShut
import Derived.ProofKit
import Derived.SizedLaws
import Derived.Test.YthojmbljlehpbaaGreatDoorG03
import Derived.Maps.OwnSet
import Derived.Laws.OwnMore
namespace Go.Proofs.YthojmbljlehpbaaGreatDoor.Enc

theorem wrap32 (n : Nat) (h : n < 4294967296) : IntKind.u32.wrap (n : Int) = n := by
  show (let m := (n : Int) % (2 ^ 32 : Int); if IntKind.u32.signed && m ≥ (2 ^ 31 : Int) then m - (2 ^ 32 : Int) else m) = n
  simp only [IntKind.signed, Bool.false_and, Bool.false_eq_true, if_false]
  omega
theorem xor32 (x y : Int) : bits .xor .u32 x y = ((BitVec.ofInt 32 x ^^^ BitVec.ofInt 32 y).toNat : Int) := by
  show IntKind.u32.wrap ((BitVec.ofInt 32 x ^^^ BitVec.ofInt 32 y).toNat : Int) = _
  exact wrap32 _ (BitVec.isLt _)
theorem andNot32 (b : BitVec 32) (m : Int) : bits .andNot .u32 (b.toNat : Int) m = ((b &&& ~~~(BitVec.ofInt 32 m)).toNat : Int) := by
  show IntKind.u32.wrap ((BitVec.ofInt 32 (b.toNat : Int) &&& ~~~(BitVec.ofInt 32 m)).toNat : Int) = _
  rw [BitVec.ofInt_natCast, BitVec.ofNat_toNat, BitVec.setWidth_eq]
  exact wrap32 _ (BitVec.isLt _)
theorem only_between (x y lo hi : Nat) (h1 : x % 2 ^ lo = y % 2 ^ lo) (h2 : x / 2 ^ hi = y / 2 ^ hi) (m : BitVec 32) (hm : ∀ i, lo ≤ i → i < hi → i < 32 → m.getLsbD i = true) :
    (BitVec.ofNat 32 x ^^^ BitVec.ofNat 32 y) &&& ~~~m = 0#32 := by
  apply BitVec.eq_of_getLsbD_eq
  intro i hi32
  rw [BitVec.getLsbD_and, BitVec.getLsbD_xor, BitVec.getLsbD_not, BitVec.getLsbD_ofNat, BitVec.getLsbD_ofNat]
  simp only [hi32, decide_true, Bool.true_and, BitVec.getLsbD_zero]
  rcases Nat.lt_or_ge i lo with hl | hl
  · have e := congrArg (fun n => n.testBit i) h1
    simp only [Nat.testBit_mod_two_pow, hl, decide_true, Bool.true_and] at e
    rw [e]; simp
  · rcases Nat.lt_or_ge i hi with hh | hh
    · rw [hm i hl hh hi32]; simp
    · have e := congrArg (fun n => n.testBit (i - hi)) h2
      simp only [Nat.testBit_div_two_pow] at e
      rw [show i - hi + hi = i by omega] at e
      rw [e]; simp
theorem field_bits {x y : Int} (hx : 0 ≤ x) (hy : 0 ≤ y) (lo hi : Nat) (h1 : x % (2 ^ lo : Int) = y % (2 ^ lo : Int)) (h2 : x / (2 ^ hi : Int) = y / (2 ^ hi : Int)) (m : Int) (hm : ∀ i, lo ≤ i → i < hi → i < 32 → (BitVec.ofInt 32 m).getLsbD i = true) :
    bits .andNot .u32 (bits .xor .u32 x y) m = 0 := by
  obtain ⟨n, rfl⟩ := Int.eq_ofNat_of_zero_le hx
  obtain ⟨k, rfl⟩ := Int.eq_ofNat_of_zero_le hy
  rw [xor32, andNot32, BitVec.ofInt_natCast, BitVec.ofInt_natCast, only_between n k lo hi (by exact_mod_cast h1) (by exact_mod_cast h2) _ hm]
  rfl
theorem field_op {c d : PC} (hc : mayP c = true) (hd : mayP d = true) (ha : d.a = c.a) (hb : d.b = c.b) (hi : d.imm = c.imm) : bits .andNot .u32 (bits .xor .u32 (wordP c) (wordP d)) 4278190080 = 0 := by
  have w1 := wordP_range (within hc)
  have w2 := wordP_range (within hd)
  have k1 := within hc
  have k2 := within hd
  obtain ⟨o1, a1, b1, i1⟩ := k1
  obtain ⟨o2, a2, b2, i2⟩ := k2
  have u1 := up_range i1
  refine field_bits w1.1 w2.1 24 32 ?_ ?_ _ ?_
  · unfold wordP; rw [ha, hb, hi]; omega
  · unfold wordP; rw [ha, hb, hi]; omega
  · intro i h1 h2 _
    have : i = 24 ∨ i = 25 ∨ i = 26 ∨ i = 27 ∨ i = 28 ∨ i = 29 ∨ i = 30 ∨ i = 31 := by omega
    rcases this with rfl | rfl | rfl | rfl | rfl | rfl | rfl | rfl <;> decide
theorem field_a {c d : PC} (hc : mayP c = true) (hd : mayP d = true) (ho : d.op = c.op) (hb : d.b = c.b) (hi : d.imm = c.imm) : bits .andNot .u32 (bits .xor .u32 (wordP c) (wordP d)) 15728640 = 0 := by
  have w1 := wordP_range (within hc)
  have w2 := wordP_range (within hd)
  obtain ⟨o1, a1, b1, i1⟩ := within hc
  obtain ⟨o2, a2, b2, i2⟩ := within hd
  have u1 := up_range i1
  refine field_bits w1.1 w2.1 20 24 ?_ ?_ _ ?_
  · unfold wordP; rw [ho, hb, hi]; omega
  · unfold wordP; rw [ho, hb, hi]; omega
  · intro i h1 h2 _
    have : i = 20 ∨ i = 21 ∨ i = 22 ∨ i = 23 := by omega
    rcases this with rfl | rfl | rfl | rfl <;> decide
theorem field_b {c d : PC} (hc : mayP c = true) (hd : mayP d = true) (ho : d.op = c.op) (ha : d.a = c.a) (hi : d.imm = c.imm) : bits .andNot .u32 (bits .xor .u32 (wordP c) (wordP d)) 983040 = 0 := by
  have w1 := wordP_range (within hc)
  have w2 := wordP_range (within hd)
  obtain ⟨o1, a1, b1, i1⟩ := within hc
  obtain ⟨o2, a2, b2, i2⟩ := within hd
  have u1 := up_range i1
  refine field_bits w1.1 w2.1 16 20 ?_ ?_ _ ?_
  · unfold wordP; rw [ho, ha, hi]; omega
  · unfold wordP; rw [ho, ha, hi]; omega
  · intro i h1 h2 _
    have : i = 16 ∨ i = 17 ∨ i = 18 ∨ i = 19 := by omega
    rcases this with rfl | rfl | rfl | rfl <;> decide
theorem field_i {c d : PC} (hc : mayP c = true) (hd : mayP d = true) (ho : d.op = c.op) (ha : d.a = c.a) (hb : d.b = c.b) : bits .andNot .u32 (bits .xor .u32 (wordP c) (wordP d)) 65535 = 0 := by
  have w1 := wordP_range (within hc)
  have w2 := wordP_range (within hd)
  obtain ⟨o1, a1, b1, i1⟩ := within hc
  obtain ⟨o2, a2, b2, i2⟩ := within hd
  have u1 := up_range i1
  have u2 := up_range i2
  refine field_bits w1.1 w2.1 0 16 ?_ ?_ _ ?_
  · unfold wordP; rw [ho, ha, hb]; omega
  · unfold wordP; rw [ho, ha, hb]; omega
  · intro i h1 h2 _
    have : i = 0 ∨ i = 1 ∨ i = 2 ∨ i = 3 ∨ i = 4 ∨ i = 5 ∨ i = 6 ∨ i = 7 ∨ i = 8 ∨ i = 9 ∨ i = 10 ∨ i = 11 ∨ i = 12 ∨ i = 13 ∨ i = 14 ∨ i = 15 := by omega
    rcases this with rfl | rfl | rfl | rfl | rfl | rfl | rfl | rfl | rfl | rfl | rfl | rfl | rfl | rfl | rfl | rfl <;> decide
end Go.Proofs.YthojmbljlehpbaaGreatDoor.Enc
namespace Go.Proofs.YthojmbljlehpbaaGreatDoor.Enc
open Go.RowKit

abbrev cV (c : PC) : Value := .agg #[.int .i64 c.op, .int .i64 c.a, .int .i64 c.b, .int .i64 c.imm]
theorem ret_bool {a b : Bool} (h : a = b) : Ending.returned (.bool a) = .returned (.bool b) := by rw [h]
theorem below_one (w : World) (o : Obj) : Below w.heap.size w (w.alloc o) := (Below.refl _ _).alloc (Nat.le_refl _) o
theorem bt {a b c : World} (h : Below a.heap.size a b) (k : Below b.heap.size b c) : Below a.heap.size a c := h.trans (k.mono h.size)
def EncPost (c : PC) (w : World) (e : Ending) (w' : World) : Prop := e = .returned (.tuple #[.int .u32 (encP c).1, .int .i64 (encP c).2]) ∧ Below w.heap.size w w'
def DecPost (x : Int) (w : World) (e : Ending) (w' : World) : Prop := e = .returned (.tuple #[cV (decP x).1, .int .i64 (decP x).2]) ∧ Below w.heap.size w w'
theorem EncPost.mk {c : PC} {w w' : World} {a b : Int} (h : encP c = (a, b)) (hb : Below w.heap.size w w') : EncPost c w (.returned (.tuple #[.int .u32 a, .int .i64 b])) w' := by
  unfold EncPost; rw [h]; exact ⟨rfl, hb⟩
theorem DecPost.mk {x : Int} {w w' : World} {a : PC} {b : Int} (h : decP x = (a, b)) (hb : Below w.heap.size w w') : DecPost x w (.returned (.tuple #[cV a, .int .i64 b])) w' := by
  unfold DecPost; rw [h]; exact ⟨rfl, hb⟩
theorem bcell {W w1 : World} (hb : Below W.heap.size W w1) : (∀ b o, b < W.heap.size → w1.cell? ⟨b, o, none⟩ = W.cell? ⟨b, o, none⟩) ∧ (∀ b o, b < W.heap.size → w1.frozen? ⟨b, o, none⟩ = W.frozen? ⟨b, o, none⟩) :=
  ⟨fun b o h => hb.cell (p := ⟨b, o, none⟩) h, fun b o h => hb.frozen (p := ⟨b, o, none⟩) h⟩
/-- The forms of the Ops, as the program's table has them. -/
def formL : List Int := [0, 0, 1, 2, 3, 4, 4, 4, 4, 4, 4, 4, 4, 4, 4, 4, 4, 4, 4, 4, 4, 4, 4, 4, 2, 2, 2, 3, 3, 2, 5, 5, 5, 5, 5, 5, 5, 5, 5, 5, 6, 7, 1, 7, 7, 1, 1, 1, 8]
def formCells : Array Value := (formL.map fun n => Value.int .i64 n).toArray
/-- The table of forms lies where the program lays it. -/
def FormsAt (w : World) : Prop := ∃ t fr, w.heap[1]? = some (.cells formCells t fr)
theorem FormsAt.pos {w : World} (h : FormsAt w) : 1 < w.heap.size := by
  obtain ⟨t, fr, h⟩ := h
  exact (Array.getElem?_eq_some_iff.1 h).1
theorem FormsAt.below {w w' : World} (h : FormsAt w) (hb : Below w.heap.size w w') : FormsAt w' := by
  have hp := h.pos
  obtain ⟨t, fr, h⟩ := h
  exact ⟨t, fr, (hb.block 1 hp).trans h⟩
theorem FormsAt.alloc {w : World} (h : FormsAt w) (o : Obj) : FormsAt (w.alloc o) := h.below (below_one w o)
theorem FormsAt.drew {w : World} (h : FormsAt w) : FormsAt w.drew := h
theorem FormsAt.drewN {w : World} (h : FormsAt w) (n : Nat) : FormsAt (w.drewN n) := h
/-- What the program's Decode does. -/
structure DoesDec : Prop where
  dec : ∀ (x : Int) (w : World), 0 ≤ x ∧ x ≤ 4294967295 → FormsAt w → Calls Tryz.prog 75 #[.int .u32 x] w (DecPost x w)
theorem DoesDec.decAt (D : DoesDec) {x : Int} {c : PC} {e : Int} (hx : 0 ≤ x ∧ x ≤ 4294967295) (h : decP x = (c, e)) (w : World) (hF : FormsAt w) : Calls Tryz.prog 75 #[.int .u32 x] w fun r w' => r = .returned (.tuple #[cV c, .int .i64 e]) ∧ Below w.heap.size w w' :=
  (D.dec x w hx hF).mono fun r w' ⟨h1, h2⟩ => ⟨by rw [h1, h], h2⟩
end Go.Proofs.YthojmbljlehpbaaGreatDoor.Enc
namespace Go.Proofs.YthojmbljlehpbaaGreatDoor.Relax
open Go.RowKit Go.Proofs.YthojmbljlehpbaaGreatDoor.Enc Go.Proofs.YthojmbljlehpbaaGreatDoor.Graph

def AsmPost (l : List PL) (w : World) (e : Ending) (w' : World) : Prop :=
  ∃ a line er, asmP l = (a, line, er) ∧ ∃ vw vk vp, e = .returned (.tuple #[asmV a vw vk vp, .int .i64 line, .int .i64 er]) ∧ AsmR w' a vw vk vp ∧ Below w.heap.size w w'
/-- How long a list may be. -/
def SmL (l : List PL) : Prop := l.length ≤ 100000000000000 ∧ ∀ x ∈ l, x.list.length ≤ 100000000000000
structure DoesAsm : Prop where
  asm : ∀ (l : List PL) (v : Value) (w : World), LinesR w v l → SmL l → FormsAt w → Calls Tryz.prog 25 #[v] w (AsmPost l w)
theorem DoesAsm.at_ (D : DoesAsm) {l : List PL} {a : Asm} {line er : Int} (ha : asmP l = (a, line, er)) (v : Value) (w : World) (h : LinesR w v l) (hs : SmL l) (hF : FormsAt w) :
    Calls Tryz.prog 25 #[v] w fun e w' => ∃ pw cw pk ck pp cp, e = .returned (.tuple #[.agg #[.slice pw a.words.length cw, .slice pk a.kinds.length ck, .slice pp a.places.length cp, .int .i64 a.rounds], .int .i64 line, .int .i64 er]) ∧
      AsmR w' a (.slice pw a.words.length cw) (.slice pk a.kinds.length ck) (.slice pp a.places.length cp) ∧ Below w.heap.size w w' :=
  (D.asm l v w h hs hF).mono fun e w' ⟨a', line', er', h1, vw, vk, vp, h2, h3, h4⟩ => by
    rw [ha] at h1
    simp only [Prod.mk.injEq] at h1
    obtain ⟨rfl, rfl, rfl⟩ := h1
    obtain ⟨pw, cw, rfl⟩ := h3.words.form
    obtain ⟨pk, ck, rfl⟩ := h3.kinds.form
    obtain ⟨pp, cp, rfl⟩ := h3.places.form
    exact ⟨pw, cw, pk, ck, pp, cp, h2, h3, h4⟩
def liveL : List PL := [⟨0, 0, 0, 0, 0, 7, []⟩, ⟨44, 0, 0, 0, 0, 0, []⟩, ⟨40, 0, 0, 0, 0, 7, []⟩]
def liveA : Asm := ⟨[738197504, 671154174], [1, 1], [0, 0, 1], 1⟩
theorem live_asm : asmP liveL = (liveA, 0, 0) := by decide
def liveCs : Array Value := #[.int .i64 0, .int .i64 0, .int .i64 0, .int .i64 0, .int .u32 0, .int .i64 7, .slice none 0 0, .int .i64 44, .int .i64 0, .int .i64 0, .int .i64 0, .int .u32 0, .int .i64 0, .slice none 0 0, .int .i64 40, .int .i64 0, .int .i64 0, .int .i64 0, .int .u32 0, .int .i64 7, .slice none 0 0]
theorem cell_of_block {w : World} {b : Nat} {cs : Array Value} {t : TypeId} (h : w.heap[b]? = some (.cells cs t (0, 0))) {k : Nat} {v : Value} (hk : cs[k]? = some v) : w.cell? ⟨b, k, none⟩ = some v := by
  simp [World.cell?, h, hk]
theorem live_lines (w : World) (t : TypeId) : LinesR (w.alloc (.cells liveCs t)) (.slice (some ⟨w.heap.size, 0, none⟩) 3 3) liveL := by
  have hc : ∀ k v, liveCs[k]? = some v → (w.alloc (.cells liveCs t)).cell? ⟨w.heap.size, k, none⟩ = some v := fun k v hv => cell_of_block (heap_alloc_new w _) hv
  have hnil : IntsR (w.alloc (.cells liveCs t)) (.slice none 0 0) [] := .inl ⟨rfl, none, 0, rfl⟩
  refine .inr ⟨w.heap.size, 0, 3, rfl, by decide, ⟨by decide, by decide⟩, by simp, fun i hi x hx => ⟨.slice none 0 0, ?_⟩⟩
  have h3 : i = 0 ∨ i = 1 ∨ i = 2 := by have : liveL.length = 3 := rfl; omega
  rcases h3 with rfl | rfl | rfl
  all_goals
    injection hx with hx
    subst hx
    exact ⟨hc _ _ rfl, hc _ _ rfl, hc _ _ rfl, hc _ _ rfl, hc _ _ rfl, hc _ _ rfl, hc _ _ rfl, hnil⟩
/-- The literal answer, in three new rows. -/
theorem live_rows (w : World) (o : Obj) (t1 t2 t3 : TypeId) :
    AsmR ((((w.alloc o).alloc (.cells #[.int .u32 738197504, .int .u32 671154174] t1)).alloc (.cells #[.int .i64 1, .int .i64 1] t2)).alloc (.cells #[.int .i64 0, .int .i64 0, .int .i64 1] t3)) liveA
      (.slice (some ⟨w.heap.size + 1, 0, none⟩) 2 2) (.slice (some ⟨w.heap.size + 1 + 1, 0, none⟩) 2 2) (.slice (some ⟨w.heap.size + 1 + 1 + 1, 0, none⟩) 3 3) := by
  have b1 : ((w.alloc o).alloc (.cells #[.int .u32 738197504, .int .u32 671154174] t1)).heap[w.heap.size + 1]? = some (.cells #[.int .u32 738197504, .int .u32 671154174] t1 (0, 0)) := by
    have := heap_alloc_new (w.alloc o) (.cells #[.int .u32 738197504, .int .u32 671154174] t1); rwa [World.size_alloc] at this
  have b2 : (((w.alloc o).alloc (.cells #[.int .u32 738197504, .int .u32 671154174] t1)).alloc (.cells #[.int .i64 1, .int .i64 1] t2)).heap[w.heap.size + 1 + 1]? = some (.cells #[.int .i64 1, .int .i64 1] t2 (0, 0)) := by
    have := heap_alloc_new ((w.alloc o).alloc (.cells #[.int .u32 738197504, .int .u32 671154174] t1)) (.cells #[.int .i64 1, .int .i64 1] t2); rwa [World.size_alloc, World.size_alloc] at this
  have b3 : ((((w.alloc o).alloc (.cells #[.int .u32 738197504, .int .u32 671154174] t1)).alloc (.cells #[.int .i64 1, .int .i64 1] t2)).alloc (.cells #[.int .i64 0, .int .i64 0, .int .i64 1] t3)).heap[w.heap.size + 1 + 1 + 1]? = some (.cells #[.int .i64 0, .int .i64 0, .int .i64 1] t3 (0, 0)) := by
    have := heap_alloc_new (((w.alloc o).alloc (.cells #[.int .u32 738197504, .int .u32 671154174] t1)).alloc (.cells #[.int .i64 1, .int .i64 1] t2)) (.cells #[.int .i64 0, .int .i64 0, .int .i64 1] t3); rwa [World.size_alloc, World.size_alloc, World.size_alloc] at this
  have b2' := (Below.heap_alloc _ (.cells #[.int .i64 0, .int .i64 0, .int .i64 1] t3) _ (lt_of_block b2)).trans b2
  have b1' := (Below.heap_alloc _ (.cells #[.int .i64 0, .int .i64 0, .int .i64 1] t3) _ (by have := lt_of_block b1; simp <;> omega)).trans ((Below.heap_alloc _ (.cells #[.int .i64 1, .int .i64 1] t2) _ (lt_of_block b1)).trans b1)
  refine ⟨.inr ⟨w.heap.size + 1, 0, 2, rfl, by decide, ⟨by decide, by decide⟩, by simp <;> omega, fun i hi x hx => ?_⟩, .inr ⟨w.heap.size + 1 + 1, 0, 2, rfl, by decide, ⟨by decide, by decide⟩, by simp, fun i hi x hx => ?_⟩, .inr ⟨w.heap.size + 1 + 1 + 1, 0, 3, rfl, by decide, ⟨by decide, by decide⟩, by simp, fun i hi x hx => ?_⟩⟩
  · have h2 : i = 0 ∨ i = 1 := by have : liveA.words.length = 2 := rfl; omega
    rcases h2 with rfl | rfl <;> (injection hx with hx; subst hx; exact cell_of_block b1' rfl)
  · have h2 : i = 0 ∨ i = 1 := by have : liveA.kinds.length = 2 := rfl; omega
    rcases h2 with rfl | rfl <;> (injection hx with hx; subst hx; exact cell_of_block b2' rfl)
  · have h2 : i = 0 ∨ i = 1 ∨ i = 2 := by have : liveA.places.length = 3 := rfl; omega
    rcases h2 with rfl | rfl | rfl <;> (injection hx with hx; subst hx; exact cell_of_block b3 rfl)
end Go.Proofs.YthojmbljlehpbaaGreatDoor.Relax
namespace Go.Proofs.YthojmbljlehpbaaGreatDoor.Relax
open Go.RowKit Go.Proofs.YthojmbljlehpbaaGreatDoor.Enc Go.Proofs.YthojmbljlehpbaaGreatDoor.Graph

def iv (x : Int) : Value := .int .i64 x
theorem row_below {w w' : World} {B : Nat} {e : TypeId} {size : Nat} {v : Value} {n : Nat} {xs : List Value} (h : w.ownsRow B e size v n xs) (hx : Below w.heap.size w w') : w'.ownsRow B e size v n xs := by
  obtain ⟨h1, h2⟩ := h
  refine ⟨h1, ?_⟩
  rcases h2 with h2 | ⟨g, cap, cur, h3, h4, h5, h6⟩
  · exact .inl h2
  · refine .inr ⟨g, cap, cur, h3, h4, ?_, h6⟩
    have hg : g < w.heap.size := by
      rcases Nat.lt_or_ge g w.heap.size with h | h
      · exact h
      · rw [Array.getElem?_eq_none h] at h5; cases h5
    rw [hx.block g hg]; exact h5
theorem rowIs_below {w w' : World} {b : Nat} {t : TypeId} {n : Nat} {f : Nat → Value} (h : w.rowIs b t n f) (hx : Below w.heap.size w w') : w'.rowIs b t n f := h.of_block (hx.block b h.lt)
theorem info_int : (Tryz.prog.info? 3).map (fun i => (i.zero, i.size, i.bytes)) = some (some (.int .i64 0), 1, 8) := by kernel_rfl
theorem info_bool : (Tryz.prog.info? 4).map (fun i => (i.zero, i.size, i.bytes)) = some (some (.bool false), 1, 1) := by kernel_rfl
theorem info_parts {P : Program} {t : TypeId} {z : Value} {s b : Nat} (h : (P.info? t).map (fun i => (i.zero, i.size, i.bytes)) = some (some z, s, b)) : ∃ i, P.info? t = some i ∧ i.zero = some z ∧ i.size = s ∧ i.bytes = b := by
  obtain ⟨i, h1, h2⟩ := Option.map_eq_some_iff.1 h
  injection h2 with h2 h3
  injection h3 with h3 h4
  exact ⟨i, h1, h2, h3, h4⟩
theorem news_one {w : World} {x : Int} {H : Nat} (hH : w.heap.size = H) : ∀ j u, [iv x][j]? = some u → (w.alloc (.cells #[iv x] 3)).cell? ((⟨H, 0, none⟩ : Addr).add j) = some u := by
  subst hH
  intro j u hj
  have hj0 : j = 0 := by
    rcases Nat.eq_zero_or_pos j with h | h
    · exact h
    · rw [List.getElem?_eq_none (by simp; omega)] at hj; cases hj
  subst hj0
  injection hj with hj
  subst hj
  exact cell_of_block (heap_alloc_new w _) (k := 0) rfl
theorem run_make_int (n : Nat) (h : n ≤ 1000000000000) (w : World) : (Instr.makeSlice 35 (.int .i64 (n : Int)) (.int .i64 (n : Int))).run Tryz.prog w = .ok (.slice (some ⟨w.heap.size, 0, none⟩) n n) (w.alloc (.cells (madeCells #[.int .i64 0] n) 3)) := by
  obtain ⟨i, h1, h2, h3, h4⟩ := info_parts info_int
  exact run_make_row 35 3 i (.int .i64 0) Tryz.underlying35 h1 h2 h3 rfl _ _ n (by rw [h4]; omega) (by omega) w
/-- A row of one's own, as a list. -/
theorem ints_of_own {w : World} {B : Nat} {v : Value} {l : List Int} (h : w.ownsRow B 3 1 v l.length (l.map iv)) : IntsR w v l := by
  rcases h.2 with ⟨rfl, h0⟩ | ⟨g, cap, cur, rfl, hB, hg, h1, h2, h3, h4⟩
  · exact .inl ⟨h0, none, 0, rfl⟩
  · rcases Nat.eq_zero_or_pos l.length with h0 | h0
    · exact .inl ⟨h0, some ⟨g, 0, none⟩, cap, by rw [h0]⟩
    · refine .inr ⟨g, 0, cap, rfl, h0, ⟨h1, h2⟩, lt_of_block hg, fun j hj x hx => ?_⟩
      have h5 : cur.toList[j]? = some (iv x) := by
        have h6 : (cur.toList.take (l.length * 1))[j]? = (l.map iv)[j]? := by rw [h4]
        rw [List.getElem?_take_of_lt (by omega), List.getElem?_map, hx] at h6
        exact h6
      rw [Nat.mul_one, Nat.zero_add]
      exact cell_of_block hg (k := j) (v := .int .i64 x) (by simpa [iv] using h5)
end Go.Proofs.YthojmbljlehpbaaGreatDoor.Relax
namespace Go.Proofs.YthojmbljlehpbaaGreatDoor.Graph
open Go.RowKit Go.ChangeShapes

theorem choose_list {α : Type} : ∀ {n : Nat} {R : Nat → α → Prop}, (∀ i, i < n → ∃ x, R i x) → ∃ l : List α, l.length = n ∧ ∀ i x, l[i]? = some x → R i x := by
  intro n
  induction n with
  | zero => intro R _; exact ⟨[], rfl, fun i x h => by simp at h⟩
  | succ n ih =>
    intro R h
    obtain ⟨l, h1, h2⟩ := ih (R := R) (fun i hi => h i (by omega))
    obtain ⟨x, hx⟩ := h n (by omega)
    refine ⟨l ++ [x], by simp [h1], fun i y hy => ?_⟩
    rcases Nat.lt_or_ge i l.length with h3 | h3
    · rw [List.getElem?_append_left h3] at hy; exact h2 i y hy
    · rw [List.getElem?_append_right h3] at hy
      have h4 : i - l.length = 0 := by
        rcases Nat.eq_zero_or_pos (i - l.length) with h | h
        · exact h
        · rw [List.getElem?_eq_none (by simp; omega)] at hy; cases hy
      rw [h4] at hy
      simp at hy
      subst hy
      have : i = n := by omega
      subst this
      exact hx
/-- Nothing that a datum holds weighs more than there may be. -/
def Wt {H : Type} (t : TypeId) (d : DataW H) : Prop := ∀ n ∈ DataW.weights Tryz.prog t d, n ≤ reachBytes
theorem wt_part {H : Type} {t : TypeId} {fs : Array Field} (hu : Tryz.prog.underlying t = some (.struct fs)) {parts : List (DataW H)} (hw : Wt t (.agg parts)) {j : Nat} {ti : TypeId} {d : DataW H} (ht : (fs.toList.map (·.type))[j]? = some ti) (hd : parts[j]? = some d) : Wt ti d := fun n hn =>
  hw n (by simp only [DataW.weights, hu]; exact DataW.weights_mem_each ht hd n hn)
theorem mem_all {H : Type} {e : TypeId} : ∀ {l : List (DataW H)} {d : DataW H}, d ∈ l → ∀ n ∈ d.weights Tryz.prog e, n ∈ DataW.weightsAll Tryz.prog e l
  | _ :: _, _, .head _, n, hn => by simp only [DataW.weightsAll, List.mem_append]; exact .inl hn
  | _ :: _, _, .tail _ h, n, hn => by simp only [DataW.weightsAll, List.mem_append]; exact .inr (mem_all h n hn)
section
variable {H : Type} {enc : TypeId × Value → H} {w : World} {base : Nat} {sp : Nat → Bool} {held : Bool} {fuel : Nat} {cs : List Value} {y : DataW H × List MemPlace}

theorem mapM_cells {a : Addr} {n : Nat} {ecs : List Value} (h : (List.range n).mapM (fun i => w.cell? (a.add i)) = some ecs) : ecs.length = n ∧ ∀ j, j < n → w.cell? (a.add j) = ecs[j]? := by
  refine ⟨by simpa using mapM_some_length h, fun j hj => ?_⟩
  exact mapM_some_get h j j (by simp [hj])
/-- A slice, opened. -/
theorem open_sl {t e : TypeId} {sz by_ : Nat} (ht : Tryz.prog.underlying t = some (.slice e)) (hc : Tryz.prog.cellsOf e = sz) (hby : Tryz.prog.bytesOf e = by_) (hsz : 0 < sz) (h : DataW.trod enc Tryz.prog w base sp held fuel t cs = some y) (hw : Wt t y.1) :
    ∃ v n, cs = [v] ∧ (SlR w sz v n fun _ b o => ∃ ecs : List Value, ecs.length = sz ∧ (∀ j, j < sz → w.cell? ⟨b, o + j, none⟩ = ecs[j]?) ∧ ∃ m z, DataW.trod enc Tryz.prog w base sp held m e ecs = some z ∧ Wt e z.1) ∧ n * by_ ≤ reachBytes := by
  rcases DataW.trod_slice ht h with ⟨rfl, _⟩ | ⟨a, len, cap, elems, rest, m, _, rfl, rfl, _, hlc, hcm, hel, hat, _⟩
  · exact ⟨_, 0, rfl, .inl ⟨rfl, none, 0, rfl⟩, by simp⟩
  · have hwl : ∀ z ∈ elems, Wt e z.1 := fun z hz n hn => hw n (by
      simp only [DataW.weights, ht]
      exact List.mem_cons_of_mem _ (List.mem_append_left _ (mem_all (List.mem_map_of_mem hz) n hn)))
    have hw0 : len * by_ ≤ reachBytes := by
      have h0 := hw (((elems.map (·.1)).length + (rest.map (·.1)).length) * Tryz.prog.bytesOf e) (by simp only [DataW.weights, ht]; exact List.mem_cons_self)
      rw [hby, List.length_map, hel] at h0
      exact Nat.le_trans (Nat.mul_le_mul_right _ (Nat.le_add_right _ _)) h0
    refine ⟨_, len, rfl, ?_, hw0⟩
    rcases Nat.eq_zero_or_pos len with h0 | h0
    · subst h0; exact .inl ⟨rfl, some a, cap, rfl⟩
    · have hone : ∀ i, i < len → ∃ ecs : List Value, ecs.length = sz ∧ (∀ j, j < sz → w.cell? ((a.add (i * sz)).add j) = ecs[j]?) ∧ ∃ z, DataW.trod enc Tryz.prog w base sp held m e ecs = some z ∧ Wt e z.1 := by
        intro i hi
        have h1 := hat i hi
        rw [hc, List.getElem?_eq_getElem (by omega)] at h1
        obtain ⟨ecs, h2, h3⟩ := Option.bind_eq_some_iff.1 h1
        unfold World.cells? at h2
        split at h2
        · obtain ⟨h4, h5⟩ := mapM_cells h2
          exact ⟨ecs, h4, h5, _, h3, hwl _ (List.getElem_mem _)⟩
        · cases h2
      obtain ⟨b, off, spot⟩ := a
      obtain ⟨e0, h4, h5, _⟩ := hone 0 h0
      have h6 := h5 0 hsz
      rw [List.getElem?_eq_getElem (by omega)] at h6
      have hspot : spot = none := by simpa [Addr.add] using World.cell?_spot h6
      subst hspot
      have hlt : b < w.heap.size := by
        have := World.block_lt_of_cell? w _ h6
        simpa [Addr.add] using this
      refine .inr ⟨b, off, cap, rfl, h0, ⟨hlc, hcm⟩, hlt, fun i hi => ?_⟩
      obtain ⟨ecs, h7, h8, z, h9⟩ := hone i hi
      refine ⟨ecs, h7, fun j hj => ?_, m, z, h9⟩
      have := h8 j hj
      rw [Go.WideShapes.add_plain, Go.WideShapes.add_plain] at this
      exact this
theorem cells_i64 : Tryz.prog.cellsOf 3 = 1 := by kernel_rfl
theorem cells_u32 : Tryz.prog.cellsOf 50 = 1 := by kernel_rfl
theorem int_of {c : Value} (h : DataW.trod enc Tryz.prog w base sp held fuel 3 [c] = some y) : ∃ x, c = .int .i64 x := by
  cases fuel with
  | zero => simp [DataW.trod] at h
  | succ fuel =>
    cases c <;> simp [DataW.trod, Tryz.underlying3] at h
    obtain ⟨⟨rfl, _⟩, _⟩ := h
    exact ⟨_, rfl⟩
theorem u32_of {c : Value} (h : DataW.trod enc Tryz.prog w base sp held fuel 50 [c] = some y) : ∃ x, c = .int .u32 x ∧ (0 ≤ x ∧ x ≤ 4294967295) := by
  cases fuel with
  | zero => simp [DataW.trod] at h
  | succ fuel =>
    cases c <;> simp [DataW.trod, Tryz.underlying50] at h
    obtain ⟨⟨rfl, h1⟩, _⟩ := h
    exact ⟨_, rfl, bounds_u32 h1⟩
theorem ints_of (h : DataW.trod enc Tryz.prog w base sp held fuel 35 cs = some y) (hw : Wt 35 y.1) : ∃ v l, cs = [v] ∧ IntsR w v l ∧ l.length * 8 ≤ reachBytes := by
  obtain ⟨v, n, rfl, hs, hby⟩ := open_sl Tryz.underlying35 cells_i64 (by kernel_rfl : Tryz.prog.bytesOf 3 = 8) (by decide) h hw
  rcases hs with ⟨rfl, p, c, rfl⟩ | ⟨b, o, c, rfl, h1, h2, h3, h4⟩
  · exact ⟨_, [], rfl, .inl ⟨rfl, p, c, rfl⟩, by simp⟩
  · obtain ⟨l, hl, hr⟩ := choose_list (R := fun i (x : Int) => w.cell? ⟨b, o + i * 1, none⟩ = some (.int .i64 x)) (n := n) (fun i hi => by
      obtain ⟨ecs, g1, g2, m, z, g3, _⟩ := h4 i hi
      match ecs, g1 with
      | [c0], _ =>
        obtain ⟨x, rfl⟩ := int_of g3
        exact ⟨x, by simpa using g2 0 (by omega)⟩)
    exact ⟨_, l, rfl, .inr ⟨b, o, c, by rw [hl], by omega, by omega, h3, fun i _ x hx => hr i x hx⟩, by rw [hl]; exact hby⟩
theorem words_of (h : DataW.trod enc Tryz.prog w base sp held fuel 34 cs = some y) (hw : Wt 34 y.1) : ∃ v l, cs = [v] ∧ WordsR w v l ∧ l.length * 4 ≤ reachBytes := by
  obtain ⟨v, n, rfl, hs, hby⟩ := open_sl Tryz.underlying34 cells_u32 (by kernel_rfl : Tryz.prog.bytesOf 50 = 4) (by decide) h hw
  rcases hs with ⟨rfl, p, c, rfl⟩ | ⟨b, o, c, rfl, h1, h2, h3, h4⟩
  · exact ⟨_, [], rfl, .inl ⟨rfl, p, c, rfl⟩, by simp⟩
  · obtain ⟨l, hl, hr⟩ := choose_list (R := fun i (x : Int) => w.cell? ⟨b, o + i * 1, none⟩ = some (.int .u32 x)) (n := n) (fun i hi => by
      obtain ⟨ecs, g1, g2, m, z, g3, _⟩ := h4 i hi
      match ecs, g1 with
      | [c0], _ =>
        obtain ⟨x, rfl, _⟩ := u32_of g3
        exact ⟨x, by simpa using g2 0 (by omega)⟩)
    exact ⟨_, l, rfl, .inr ⟨b, o, c, by rw [hl], by omega, by omega, h3, fun i _ x hx => hr i x hx⟩, by rw [hl]; exact hby⟩
theorem cells_ints : Tryz.prog.cellsOf 35 = 1 := by kernel_rfl
theorem cells_words : Tryz.prog.cellsOf 34 = 1 := by kernel_rfl
end
end Go.Proofs.YthojmbljlehpbaaGreatDoor.Graph
namespace Go.Proofs.YthojmbljlehpbaaGreatDoor.Relax
open Go.RowKit Go.Proofs.YthojmbljlehpbaaGreatDoor.Enc Go.Proofs.YthojmbljlehpbaaGreatDoor.Graph

def lineCs (p : PL × Value) : List Value := [iv p.1.op, iv p.1.a, iv p.1.b, iv p.1.imm, .int .u32 p.1.n, iv p.1.label, p.2]
def flatL (ps : List (PL × Value)) : List Value := ps.flatMap lineCs
theorem flat_cons (p : PL × Value) (ps : List (PL × Value)) : flatL (p :: ps) = lineCs p ++ flatL ps := by simp [flatL]
theorem flat_app (ps qs : List (PL × Value)) : flatL (ps ++ qs) = flatL ps ++ flatL qs := by simp [flatL]
theorem flat_len : ∀ ps : List (PL × Value), (flatL ps).length = ps.length * 7
  | [] => rfl
  | p :: ps => by rw [flat_cons, List.length_append, flat_len ps]; show 7 + _ = (ps.length + 1) * 7; omega
theorem flat_get : ∀ (ps : List (PL × Value)) (i j : Nat) (p : PL × Value), ps[i]? = some p → j < 7 → (flatL ps)[i * 7 + j]? = (lineCs p)[j]?
  | [], i, j, p, h, _ => by simp at h
  | q :: ps, 0, j, p, h, hj => by
    simp at h
    subst h
    rw [flat_cons, Nat.zero_mul, Nat.zero_add, List.getElem?_append_left (by exact hj)]
  | q :: ps, i + 1, j, p, h, hj => by
    have e : (i + 1) * 7 + j = (lineCs q).length + (i * 7 + j) := by show _ = 7 + _; omega
    rw [flat_cons, e, List.getElem?_append_right (Nat.le_add_right _ _), Nat.add_sub_cancel_left]
    exact flat_get ps i j p (by simpa using h) hj
theorem flat_at {ps : List (PL × Value)} {k : Nat} {u : Value} (h : (flatL ps)[k]? = some u) : ∃ i j p, k = i * 7 + j ∧ j < 7 ∧ ps[i]? = some p ∧ (lineCs p)[j]? = some u := by
  have hk : k < ps.length * 7 := by rw [← flat_len]; exact (List.getElem?_eq_some_iff.1 h).1
  have e : k = k / 7 * 7 + k % 7 := by omega
  have h2 : k / 7 < ps.length := by omega
  refine ⟨k / 7, k % 7, ps[k / 7], e, by omega, List.getElem?_eq_getElem h2, ?_⟩
  rw [← flat_get ps (k / 7) (k % 7) _ (List.getElem?_eq_getElem h2) (by omega), ← e]
  exact h
theorem flat_take (ps : List (PL × Value)) (i : Nat) (j : Nat) (u : Value) (h : (flatL (ps.take i))[j]? = some u) : (flatL ps)[j]? = some u := by
  have e : flatL ps = flatL (ps.take i) ++ flatL (ps.drop i) := by rw [← flat_app, List.take_append_drop]
  have hj := (List.getElem?_eq_some_iff.1 h).1
  rw [e, List.getElem?_append_left hj]; exact h
theorem flat_drop (ps : List (PL × Value)) (i : Nat) (hi : i ≤ ps.length) (j : Nat) (u : Value) (h : (flatL (ps.drop i))[j]? = some u) : (flatL ps)[i * 7 + j]? = some u := by
  have e : flatL ps = flatL (ps.take i) ++ flatL (ps.drop i) := by rw [← flat_app, List.take_append_drop]
  have e2 : i * 7 = (flatL (ps.take i)).length := by rw [flat_len, List.length_take, Nat.min_eq_left hi]
  rw [e, e2, List.getElem?_append_right (Nat.le_add_right _ _), Nat.add_sub_cancel_left]; exact h
/-- Each list of a row of lines lies somewhere. -/
def ListsAt (w : World) (ps : List (PL × Value)) : Prop := ∀ q ∈ ps, IntsR w q.2 q.1.list
theorem ListsAt.below {w w' : World} {ps : List (PL × Value)} (h : ListsAt w ps) (hb : Below w.heap.size w w') : ListsAt w' ps := fun q hq => (h q hq).below hb
theorem ListsAt.app {w : World} {ps qs : List (PL × Value)} (h : ListsAt w ps) (k : ListsAt w qs) : ListsAt w (ps ++ qs) := fun q hq => by
  rcases List.mem_append.1 hq with h1 | h1
  · exact h q h1
  · exact k q h1
theorem ListsAt.take {w : World} {ps : List (PL × Value)} (h : ListsAt w ps) (i : Nat) : ListsAt w (ps.take i) := fun q hq => h q (List.mem_of_mem_take hq)
theorem ListsAt.drop {w : World} {ps : List (PL × Value)} (h : ListsAt w ps) (i : Nat) : ListsAt w (ps.drop i) := fun q hq => h q (List.mem_of_mem_drop hq)
theorem ListsAt.one {w : World} {ps : List (PL × Value)} (h : ListsAt w ps) : ∀ u ∈ flatL ps, u.oneCell' = true := by
  intro u hu
  unfold flatL at hu
  obtain ⟨q, hq, hu⟩ := List.mem_flatMap.1 hu
  obtain ⟨p, c, e⟩ := (h q hq).form
  unfold lineCs iv at hu
  simp only [List.mem_cons, List.not_mem_nil, or_false] at hu
  rcases hu with rfl | rfl | rfl | rfl | rfl | rfl | rfl
  all_goals first | rfl | (rw [e]; rfl)
theorem lines_open {w : World} {p : Option Addr} {n c : Nat} {l : List PL} (h : LinesR w (.slice p n c) l) : ∃ ps : List (PL × Value), ps.map (·.1) = l ∧ ListsAt w ps ∧ n = l.length ∧
    (0 < n → ∃ g o, p = some ⟨g, o, none⟩ ∧ g < w.heap.size ∧ (∀ j u, (flatL ps)[j]? = some u → w.cell? ⟨g, o + j, none⟩ = some u) ∧ n ≤ c ∧ c ≤ 9223372036854775807) := by
  rcases h with ⟨hz, p', c', h1⟩ | ⟨g, o, c', h1, hn, hc, hg, hat⟩
  · injection h1 with h1 h2 h3
    refine ⟨[], by rw [List.length_eq_zero_iff.1 hz]; rfl, fun q hq => (by cases hq), by omega, fun h => by omega⟩
  · injection h1 with h1 h2 h3
    subst h1 h2 h3
    obtain ⟨vs, hv, hr⟩ := choose_list (R := fun i (vl : Value) => ∃ x, l[i]? = some x ∧ LineR w g (o + i * 7) x vl) (n := l.length) (fun i hi => by
      obtain ⟨vl, hvl⟩ := hat i hi _ (List.getElem?_eq_getElem hi)
      exact ⟨vl, _, List.getElem?_eq_getElem hi, hvl⟩)
    have hz : ∀ {i : Nat} {q : PL × Value}, (l.zip vs)[i]? = some q → LineR w g (o + i * 7) q.1 q.2 := by
      intro i q hq
      rw [List.getElem?_zip_eq_some] at hq
      obtain ⟨x, h3, h4⟩ := hr i q.2 hq.2
      rw [hq.1] at h3
      injection h3 with h3
      rw [h3]; exact h4
    refine ⟨l.zip vs, List.map_fst_zip (by omega), fun q hq => ?_, rfl, fun _ => ⟨g, o, rfl, hg, fun j u hu => ?_, hc.1, hc.2⟩⟩
    · obtain ⟨i, hi⟩ := List.mem_iff_getElem?.1 hq
      exact (hz hi).list
    · obtain ⟨i, k, q, rfl, hk, hq, hu⟩ := flat_at hu
      have hL := hz hq
      rw [show o + (i * 7 + k) = o + i * 7 + k by omega]
      match k, hk with
      | 0, _ => injection hu with hu; subst hu; exact hL.op
      | 1, _ => injection hu with hu; subst hu; exact hL.fa
      | 2, _ => injection hu with hu; subst hu; exact hL.fb
      | 3, _ => injection hu with hu; subst hu; exact hL.imm
      | 4, _ => injection hu with hu; subst hu; exact hL.n
      | 5, _ => injection hu with hu; subst hu; exact hL.label
      | 6, _ => injection hu with hu; subst hu; exact hL.cl
theorem row_at {w : World} {B : Nat} {t : TypeId} {sz : Nat} {v : Value} {n : Nat} {xs : List Value} (h : w.ownsRow B t sz v n xs) (hn : 0 < n) :
    ∃ g cap, v = .slice (some ⟨g, 0, none⟩) n cap ∧ B ≤ g ∧ n ≤ cap ∧ cap ≤ 9223372036854775807 ∧ g < w.heap.size ∧ ∀ (o : Nat) (y : Value), xs[o]? = some y → w.cell? ⟨g, o, none⟩ = some y := by
  obtain ⟨h1, ⟨_, h0⟩ | ⟨g, cap, cur, rfl, h3, h4, h5, h6, h7, h8⟩⟩ := h
  · omega
  · refine ⟨g, cap, rfl, h3, h5, h6, lt_of_block h4, fun o y hy => ?_⟩
    refine cell_of_block h4 ?_
    rw [← h8, List.getElem?_take] at hy
    split at hy
    · rw [← Array.getElem?_toList]; exact hy
    · cases hy
theorem lines_of_own {w : World} {B : Nat} {t : TypeId} {v : Value} {n : Nat} {ps : List (PL × Value)} (h : w.ownsRow B t 7 v n (flatL ps)) (hn : n = ps.length) (hl : ListsAt w ps) : LinesR w v (ps.map (·.1)) := by
  subst hn
  rcases Nat.eq_zero_or_pos ps.length with h0 | h0
  · obtain ⟨_, ⟨rfl, _⟩ | ⟨g, cap, cur, rfl, _⟩⟩ := h
    · exact .inl ⟨by simpa using h0, _, _, rfl⟩
    · exact .inl ⟨by simpa using h0, _, _, by rw [h0]⟩
  · obtain ⟨g, cap, rfl, _, h3, h4, h5, h6⟩ := row_at h h0
    refine .inr ⟨g, 0, cap, by simp, by simpa using h0, by simpa using ⟨h3, h4⟩, h5, fun i hi x hx => ?_⟩
    rw [List.getElem?_map] at hx
    obtain ⟨q, hq, rfl⟩ := Option.map_eq_some_iff.1 hx
    have hj : ∀ j u, j < 7 → (lineCs q)[j]? = some u → w.cell? ⟨g, 0 + i * 7 + j, none⟩ = some u := fun j u hj hu => by
      rw [Nat.zero_add]
      exact h6 _ _ (by rw [flat_get ps i j q hq hj]; exact hu)
    exact ⟨q.2, hj 0 _ (by omega) rfl, hj 1 _ (by omega) rfl, hj 2 _ (by omega) rfl, hj 3 _ (by omega) rfl, hj 4 _ (by omega) rfl, hj 5 _ (by omega) rfl, hj 6 _ (by omega) rfl, hl q (List.mem_of_getElem? hq)⟩
end Go.Proofs.YthojmbljlehpbaaGreatDoor.Relax
namespace Go.Proofs.YthojmbljlehpbaaGreatDoor.Relax
open Go.RowKit Go.Proofs.YthojmbljlehpbaaGreatDoor.Enc Go.Proofs.YthojmbljlehpbaaGreatDoor.Graph Go.Maps

def lit (n : Int) : Lit := .int .i64 n
/-- The map of the labels among the first so many lines. -/
def mapD (l : List PL) : Nat → DataW Unit
  | 0 => .map []
  | i + 1 => if (lineAt l i).op = 0 then (mapD l i).put (lit (lineAt l i).label) (.lit (lit (partN l i))) else mapD l i
theorem mapD_is (l : List PL) : ∀ i, IsMap (mapD l i)
  | 0 => isMap_empty
  | i + 1 => by
    unfold mapD
    split
    · exact (mapD_is l i).put _ _
    · exact mapD_is l i
theorem lit_key (n : Int) : WideAt.IsKeyLit (lit n) := by unfold lit WideAt.IsKeyLit; trivial
theorem lit_ne {a b : Int} (h : a ≠ b) : lit a ≠ lit b := fun e => by injection e with _ e; exact h e
theorem mapD_has (l : List PL) (lab : Int) : ∀ i, Maps.has (mapD l i) (lit lab) = (standsAt l lab i).isSome
  | 0 => rfl
  | i + 1 => by
    unfold mapD standsAt
    by_cases h0 : (lineAt l i).op = 0
    · rw [if_pos h0]
      by_cases h1 : (lineAt l i).label = lab
      · rw [if_pos ⟨h0, h1⟩, h1, has_put_same (mapD_is l i) (lit_key _)]; rfl
      · rw [if_neg (fun h => h1 h.2), has_put_other (lit_ne (fun e => h1 e.symm))]; exact mapD_has l lab i
    · rw [if_neg h0, if_neg (fun h => h0 h.1)]; exact mapD_has l lab i
theorem mapD_at (l : List PL) (lab : Int) : ∀ i, (mapD l i).atKey (lit lab) (.lit (lit 0)) = .lit (lit (match standsAt l lab i with | none => 0 | some t => (partN l t : Int)))
  | 0 => rfl
  | i + 1 => by
    unfold mapD standsAt
    by_cases h0 : (lineAt l i).op = 0
    · rw [if_pos h0]
      by_cases h1 : (lineAt l i).label = lab
      · rw [if_pos ⟨h0, h1⟩, h1, atKey_put_same (mapD_is l i) (lit_key _)]
      · rw [if_neg (fun h => h1 h.2), atKey_put_other (lit_ne (fun e => h1 e.symm))]; exact mapD_at l lab i
    · rw [if_neg h0, if_neg (fun h => h0 h.1)]; exact mapD_at l lab i
abbrev MapAt (w : World) (b n : Nat) (l : List PL) (i : Nat) : Prop := w.ownsMap Tryz.prog 3 (plainElem (H := Unit) Tryz.prog 3) b n (mapD l i)
theorem law : Keyed Tryz.prog 3 := int_keyed Tryz.underlying3
theorem zeroE (w : World) : (zeroValue 3).run Tryz.prog w = .ok (.int .i64 0) w := by kernel_rfl
theorem key_of {n : Int} (h : 0 ≤ n ∧ n ≤ 100000) : keyOf Tryz.prog 3 (.int .i64 n) = some (lit n) := keyOf_int_mk Tryz.underlying3 (WalkArith.wf_i64 (by omega))
end Go.Proofs.YthojmbljlehpbaaGreatDoor.Relax
