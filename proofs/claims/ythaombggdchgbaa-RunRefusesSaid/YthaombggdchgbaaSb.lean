/- The machine in the middle of live's run: what it holds. -/
import Derived.Test.YthaombggdchgbaaRf
import Derived.Test.YthaombggdchgbaaRc
import Derived.Deep.AppendLies
namespace Go.Proofs.Ythaombggdchgbaa.Graph
open Go.RowKit

structure Fx where
  (fb fo fc gc rc M C T B N : Nat) (gp rp : Option Addr) (two : Value)
structure Fx.Ok (x : Fx) : Prop where
  cm : x.C ≠ x.M
  tm : x.T ≠ x.M
  tc : x.T ≠ x.C
  bm : x.B ≤ x.M
  bc : x.B ≤ x.C
  bt : x.B ≤ x.T
  mn : x.M < x.N
  cn : x.C < x.N
  tn : x.T < x.N
def inB : ByteArray := ⟨#[97, 98]⟩
def outL : List Value := [.int .u8 97, .int .u8 98, .int .u8 255]
def Fx.m (x : Fx) (rd steps stop : Int) (ad : Value) (bp : Option Addr) (bn bc : Nat) : Array Value :=
  machCs (some ⟨x.fb, x.fo, none⟩) x.fc 1 x.gp x.rp x.gc x.rc 0 9 (.string inB) x.C 1 rd steps stop 0 ad bp bn bc x.two
structure RowC (x : Fx) (at_ : Int) (cc : Array Value) : Prop where
  c0 : cc[0]? = some (.pointer (some ⟨x.fb, x.fo, none⟩))
  c1 : cc[1]? = some (.int .i64 0)
  c2 : cc[2]? = some (.int .i64 at_)
  c3 : cc[3]? = some (.slice (some ⟨x.T, 0, none⟩) 1 1)
structure St (x : Fx) (w : World) (rd v : Int) (n : Nat) (steps at_ stop : Int) (wr : World) : Prop where
  ok : x.Ok
  below : Below x.B w wr
  size : x.N ≤ wr.heap.size
  mach : ∃ ad bp bc, wr.heap[x.M]? = some (.cells (x.m rd steps stop ad bp n bc) 77 (0, 0)) ∧ (ad = .pointer none ∨ ad = .pointer (some ⟨x.M, 8, none⟩)) ∧ wr.ownsRow x.N 5 1 (.slice bp n bc) n (outL.take n)
  row : ∃ cc, wr.heap[x.C]? = some (.cells cc 107 (0, 0)) ∧ RowC x at_ cc
  temp : wr.heap[x.T]? = some (.cells #[.int .u32 v] 34 (0, 0))
theorem at_lt {cc : Array Value} {k : Nat} {v : Value} (h : cc[k]? = some v) : k < cc.size := by
  rcases Nat.lt_or_ge k cc.size with h1 | h1
  · exact h1
  · rw [Array.getElem?_eq_none h1] at h; cases h
theorem RowC.put {x : Fx} {a : Int} {cc : Array Value} (h : RowC x a cc) (a' : Int) : RowC x a' (cc.setIfInBounds 2 (.int .i64 a')) :=
  ⟨by rw [Array.getElem?_setIfInBounds_ne (by omega)]; exact h.c0, by rw [Array.getElem?_setIfInBounds_ne (by omega)]; exact h.c1, Array.getElem?_setIfInBounds_self_of_lt (at_lt h.c2), by rw [Array.getElem?_setIfInBounds_ne (by omega)]; exact h.c3⟩
theorem RowC.put1 {x : Fx} {a : Int} {cc : Array Value} (h : RowC x a cc) : RowC x a (cc.setIfInBounds 1 (.int .i64 0)) :=
  ⟨by rw [Array.getElem?_setIfInBounds_ne (by omega)]; exact h.c0, Array.getElem?_setIfInBounds_self_of_lt (at_lt h.c1), by rw [Array.getElem?_setIfInBounds_ne (by omega)]; exact h.c2, by rw [Array.getElem?_setIfInBounds_ne (by omega)]; exact h.c3⟩
section
variable {x : Fx} {w wr w' : World} {rd v : Int} {n : Nat} {steps at_ stop : Int}
theorem St.lm (h : St x w rd v n steps at_ stop wr) : x.M < wr.heap.size := Nat.lt_of_lt_of_le h.ok.mn h.size
theorem St.lc (h : St x w rd v n steps at_ stop wr) : x.C < wr.heap.size := Nat.lt_of_lt_of_le h.ok.cn h.size
theorem St.lt (h : St x w rd v n steps at_ stop wr) : x.T < wr.heap.size := Nat.lt_of_lt_of_le h.ok.tn h.size
theorem St.go (h : St x w rd v n steps at_ stop wr) (hb : Below wr.heap.size wr w') : St x w rd v n steps at_ stop w' := by
  obtain ⟨ad, bp, bc, h1, h2, h3⟩ := h.mach
  obtain ⟨cc, h4, h5⟩ := h.row
  have hB : x.B ≤ wr.heap.size := Nat.le_trans h.ok.bm (Nat.le_of_lt h.lm)
  exact ⟨h.ok, h.below.trans (hb.mono hB), Nat.le_trans h.size hb.size, ⟨ad, bp, bc, (hb.block _ h.lm).trans h1, h2, h3.kept (row := none) ⟨hb.os, hb.tape, hb.output, hb.size, fun j hj _ => hb.block j hj⟩ (by cases (Value.slice bp n bc).ownBlock <;> simp)⟩, ⟨cc, (hb.block _ h.lc).trans h4, h5⟩, (hb.block _ h.lt).trans h.temp⟩
theorem St.drew (h : St x w rd v n steps at_ stop wr) : St x w rd v n steps at_ stop wr.drew := h.go (Below.refl _ _).drew
theorem St.drewN (h : St x w rd v n steps at_ stop wr) (k : Nat) : St x w rd v n steps at_ stop (wr.drewN k) := h.go ⟨rfl, rfl, rfl, Nat.le_refl _, fun _ _ => rfl⟩
/-- A world of the same memory. -/
theorem St.same (h : St x w rd v n steps at_ stop wr) (hh : w'.heap = wr.heap) (h1 : w'.os = wr.os) (h2 : w'.tape = wr.tape) (h3 : w'.output = wr.output) : St x w rd v n steps at_ stop w' :=
  h.go ⟨h1, h2, h3, by rw [hh]; exact Nat.le_refl _, fun _ _ => by rw [hh]⟩
/-- A cell of the machine is turned; its buffer stands. -/
theorem St.setM {rd' steps' stop' : Int} (h : St x w rd v n steps at_ stop wr) (k : Nat) (u : Value) (hk : ∀ ad bp bc, ((x.m rd steps stop ad bp n bc).setIfInBounds k u = x.m rd' steps' stop' ad bp n bc)) : St x w rd' v n steps' at_ stop' (wr.setCell ⟨x.M, k, none⟩ u) := by
  obtain ⟨ad, bp, bc, h1, h2, h3⟩ := h.mach
  obtain ⟨cc, h4, h5⟩ := h.row
  refine ⟨h.ok, h.below.setCell (p := ⟨x.M, k, none⟩) h.ok.bm u, by simpa using h.size, ⟨ad, bp, bc, ?_, h2, ownsRow_setCell_below h3 (a := ⟨x.M, k, none⟩) h.ok.mn u⟩, ⟨cc, ?_, h5⟩, ?_⟩
  · rw [heap_setCell_same wr x.M k _ _ u h1, hk]
  · rw [heap_setCell_other wr ⟨x.M, k, none⟩ x.C u h.ok.cm]; exact h4
  · rw [heap_setCell_other wr ⟨x.M, k, none⟩ x.T u h.ok.tm]; exact h.temp
theorem St.setAd (h : St x w rd v n steps at_ stop wr) : St x w rd v n steps at_ stop (wr.setCell ⟨x.M, 8, none⟩ (.pointer (some ⟨x.M, 8, none⟩))) := by
  obtain ⟨ad, bp, bc, h1, h2, h3⟩ := h.mach
  obtain ⟨cc, h4, h5⟩ := h.row
  refine ⟨h.ok, h.below.setCell (p := ⟨x.M, 8, none⟩) h.ok.bm _, by simpa using h.size, ⟨.pointer (some ⟨x.M, 8, none⟩), bp, bc, ?_, .inr rfl, ownsRow_setCell_below h3 (a := ⟨x.M, 8, none⟩) h.ok.mn _⟩, ⟨cc, ?_, h5⟩, ?_⟩
  · rw [heap_setCell_same wr x.M 8 _ _ _ h1]; rfl
  · rw [heap_setCell_other wr ⟨x.M, 8, none⟩ x.C _ h.ok.cm]; exact h4
  · rw [heap_setCell_other wr ⟨x.M, 8, none⟩ x.T _ h.ok.tm]; exact h.temp
theorem St.setRow {a' : Int} {k : Nat} {u : Value} (h : St x w rd v n steps at_ stop wr) (hk : ∀ cc, RowC x at_ cc → RowC x a' (cc.setIfInBounds k u)) : St x w rd v n steps a' stop (wr.setCell ⟨x.C, k, none⟩ u) := by
  obtain ⟨ad, bp, bc, h1, h2, h3⟩ := h.mach
  obtain ⟨cc, h4, h5⟩ := h.row
  refine ⟨h.ok, h.below.setCell (p := ⟨x.C, k, none⟩) h.ok.bc u, by simpa using h.size, ⟨ad, bp, bc, ?_, h2, ownsRow_setCell_below h3 (a := ⟨x.C, k, none⟩) h.ok.cn u⟩, ⟨_, heap_setCell_same wr x.C k _ _ u h4, hk cc h5⟩, ?_⟩
  · rw [heap_setCell_other wr ⟨x.C, k, none⟩ x.M u h.ok.cm.symm]; exact h1
  · rw [heap_setCell_other wr ⟨x.C, k, none⟩ x.T u h.ok.tc]; exact h.temp
theorem St.setT (h : St x w rd v n steps at_ stop wr) (v' : Int) : St x w rd v' n steps at_ stop (wr.setCell ⟨x.T, 0, none⟩ (.int .u32 v')) := by
  obtain ⟨ad, bp, bc, h1, h2, h3⟩ := h.mach
  obtain ⟨cc, h4, h5⟩ := h.row
  refine ⟨h.ok, h.below.setCell (p := ⟨x.T, 0, none⟩) h.ok.bt _, by simpa using h.size, ⟨ad, bp, bc, ?_, h2, ownsRow_setCell_below h3 (a := ⟨x.T, 0, none⟩) h.ok.tn _⟩, ⟨cc, ?_, h5⟩, ?_⟩
  · rw [heap_setCell_other wr ⟨x.T, 0, none⟩ x.M _ h.ok.tm.symm]; exact h1
  · rw [heap_setCell_other wr ⟨x.T, 0, none⟩ x.C _ h.ok.tc.symm]; exact h4
  · rw [heap_setCell_same wr x.T 0 _ _ _ h.temp]; rfl
/-- A byte is put behind the others. -/
theorem St.grow (h : St x w rd v n steps at_ stop wr) {bp bp' : Option Addr} {bc bc' : Nat} {ad : Value} (h1 : wr.heap[x.M]? = some (.cells (x.m rd steps stop ad bp n bc) 77 (0, 0))) (hb : wr.grownBy w' (Value.slice bp n bc).ownBlock) (hown : wr.ownsRow x.N 5 1 (.slice bp n bc) n (outL.take n))
    (had : ad = .pointer none ∨ ad = .pointer (some ⟨x.M, 8, none⟩)) (hn : w'.ownsRow x.N 5 1 (.slice bp' (n + 1) bc') (n + 1) (outL.take (n + 1))) : St x w rd v (n + 1) steps at_ stop (w'.setCell ⟨x.M, 9, none⟩ (.slice bp' (n + 1) bc')) := by
  obtain ⟨cc, h4, h5⟩ := h.row
  have hB : x.B ≤ wr.heap.size := Nat.le_trans h.ok.bm (Nat.le_of_lt h.lm)
  have hne : ∀ b, b < x.N → some b ≠ (Value.slice bp n bc).ownBlock := fun b hb e => by
    have := (hown.lt b e.symm).1
    omega
  have k1 := (hb.block x.M h.lm (hne _ h.ok.mn)).trans h1
  have k2 := (hb.block x.C h.lc (hne _ h.ok.cn)).trans h4
  have k3 := (hb.block x.T h.lt (hne _ h.ok.tn)).trans h.temp
  refine ⟨h.ok, (h.below.grown hb hB (fun k hk => Nat.le_trans (Nat.le_trans h.ok.bm (Nat.le_of_lt h.ok.mn)) (hown.lt k hk).1)).setCell (p := ⟨x.M, 9, none⟩) h.ok.bm _, by simpa using Nat.le_trans h.size hb.size, ⟨ad, bp', bc', ?_, had, ownsRow_setCell_below hn (a := ⟨x.M, 9, none⟩) h.ok.mn _⟩, ⟨cc, ?_, h5⟩, ?_⟩
  · rw [heap_setCell_same w' x.M 9 _ _ _ k1]; rfl
  · rw [heap_setCell_other w' ⟨x.M, 9, none⟩ x.C _ h.ok.cm]; exact k2
  · rw [heap_setCell_other w' ⟨x.M, 9, none⟩ x.T _ h.ok.tm]; exact k3
end
theorem step_st {x : Fx} {w wr : World} {rd v : Int} {n : Nat} {steps at_ : Int} (h : St x w rd v n steps at_ 0 wr) (h0 : 0 ≤ steps) (h9 : steps < 9) :
    Calls Try.prog 57 #[.pointer (some ⟨x.M, 0, none⟩)] wr fun e w' => e = .returned (.bool true) ∧ St x w rd v n (steps + 1) at_ 0 w' := by
  obtain ⟨ad, bp, bc, h1, _, _⟩ := h.mach
  refine (step_on x.M _ steps 9 wr h1 rfl rfl h9 h0 (by omega)).mono ?_
  rintro e w' ⟨rfl, k1, k2, k3, k4⟩
  exact ⟨rfl, (h.setM (rd' := rd) (steps' := steps + 1) (stop' := 0) 11 (.int .i64 (steps + 1)) (fun _ _ _ => rfl)).same k1 k2 k3 k4⟩
theorem step_st9 {x : Fx} {w wr : World} {rd v : Int} {n : Nat} {at_ : Int} (h : St x w rd v n 9 at_ 0 wr) :
    Calls Try.prog 57 #[.pointer (some ⟨x.M, 0, none⟩)] wr fun e w' => e = .returned (.bool false) ∧ St x w rd v n 9 at_ 3 w' := by
  obtain ⟨ad, bp, bc, h1, _, _⟩ := h.mach
  refine (step_stop x.M _ 9 0 0 wr h1 rfl rfl rfl rfl).mono ?_
  rintro e w' ⟨rfl, k1, k2, k3, k4⟩
  have h2 := (h.setM (rd' := rd) (steps' := 9) (stop' := 3) 12 (.int .i64 3) (fun _ _ _ => rfl))
  exact ⟨rfl, (h2.setM (rd' := rd) (steps' := 9) (stop' := 3) 13 (.int .u32 0) (fun _ _ _ => rfl)).same k1 k2 k3 k4⟩
end Go.Proofs.Ythaombggdchgbaa.Graph
