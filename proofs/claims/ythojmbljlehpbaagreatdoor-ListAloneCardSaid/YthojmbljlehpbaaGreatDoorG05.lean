/- Lines, as they lie in memory; the document's small functions on lines: what each returns. No condition. -/
import Derived.Test.YthojmbljlehpbaaGreatDoorG01
import Derived.Test.YthojmbljlehpbaaGreatDoorG04
import Derived.Test.YthojmbljlehpbaaGreatDoorProg
import Derived.WalkKit
import Derived.WalkSpells
import Derived.WalkLawsBesides
import Derived.Lib.Hide
import Derived.OneCell
import Derived.StillTactics
import Derived.OwnWalk
import Derived.BigQuiet
import Derived.KernelRfl
import Derived.BigFrame
import Derived.Deep.QuietTactic
namespace Go.Proofs.YthojmbljlehpbaaGreatDoor.Relax
open Go.RowKit Go.Proofs.YthojmbljlehpbaaGreatDoor.Enc Go.Proofs.YthojmbljlehpbaaGreatDoor.Graph

/-- A line at a place. -/
structure LineR (w : World) (b o : Nat) (x : PL) (v : Value) : Prop where
  op : w.cell? ⟨b, o, none⟩ = some (.int .i64 x.op)
  fa : w.cell? ⟨b, o + 1, none⟩ = some (.int .i64 x.a)
  fb : w.cell? ⟨b, o + 2, none⟩ = some (.int .i64 x.b)
  imm : w.cell? ⟨b, o + 3, none⟩ = some (.int .i64 x.imm)
  n : w.cell? ⟨b, o + 4, none⟩ = some (.int .u32 x.n)
  label : w.cell? ⟨b, o + 5, none⟩ = some (.int .i64 x.label)
  cl : w.cell? ⟨b, o + 6, none⟩ = some v
  list : IntsR w v x.list
theorem LineR.below {w w' : World} {b o : Nat} {x : PL} {v : Value} (h : LineR w b o x v) (hl : b < w.heap.size) (hb : Below w.heap.size w w') : LineR w' b o x v :=
  ⟨(cell_below hb hl _).trans h.op, (cell_below hb hl _).trans h.fa, (cell_below hb hl _).trans h.fb, (cell_below hb hl _).trans h.imm, (cell_below hb hl _).trans h.n, (cell_below hb hl _).trans h.label, (cell_below hb hl _).trans h.cl, h.list.below hb⟩
def LinesR (w : World) (v : Value) (l : List PL) : Prop := SlR w 7 v l.length fun i b o => ∀ x, l[i]? = some x → ∃ vl, LineR w b o x vl
theorem LinesR.below {w w' : World} {v : Value} {l : List PL} (h : LinesR w v l) (hb : Below w.heap.size w w') : LinesR w' v l :=
  SlR.below h hb fun _ _ _ hl hP x hx => let ⟨vl, h⟩ := hP x hx; ⟨vl, h.below hl hb⟩
abbrev lineV (x : PL) (p : Option Addr) (n c : Nat) : Value := .agg #[.int .i64 x.op, .int .i64 x.a, .int .i64 x.b, .int .i64 x.imm, .int .u32 x.n, .int .i64 x.label, .slice p n c]
theorem ret_bool {a b : Bool} (h : a = b) : Ending.returned (.bool a) = .returned (.bool b) := by rw [h]
theorem below_one (w : World) (o : Obj) : Below w.heap.size w (w.alloc o) := (Below.refl _ _).alloc (Nat.le_refl _) o
theorem bt {a b c : World} (h : Below a.heap.size a b) (k : Below b.heap.size b c) : Below a.heap.size a c := h.trans (k.mono h.size)
set_option maxHeartbeats 1000000 in
theorem branch16_any (n : Int) (w : World) : Calls Tryz.prog 78 #[.int .i64 n] w fun e w' => e = .returned (.bool (branchOp n)) ∧ w' = w := by
  go_enter Tryz.func78, Tryz.ntmps78
  go_wp2
  all_goals go_ret
  all_goals refine ⟨ret_bool ?_, rfl⟩
  all_goals (rw [Bool.eq_iff_iff]; simp_all [branchOp] <;> omega)
set_option maxHeartbeats 2000000 in
theorem branch_any (x : PL) (p : Option Addr) (n c : Nat) (w : World) : Calls Tryz.prog 98 #[lineV x p n c] w fun e w' => e = .returned (.bool (isBr x)) ∧ Below w.heap.size w w' := by
  obtain ⟨op, a, b, imm, nn, label, list⟩ := x
  obtain ⟨br, hbr⟩ : ∃ br, branchOp op = br := ⟨_, rfl⟩
  have HB := Lib.hid (fun w => hbr ▸ branch16_any op w)
  have HE := Lib.hid hbr
  clear hbr
  unfold lineV
  cases br
  all_goals
    go_enter Tryz.func98, Tryz.ntmps98
    go_wp2_with (go_at_call 78; refine (HB.out _).mono ?_; rintro e w2 ⟨rfl, rfl⟩)
    go_ret
    exact ⟨ret_bool (by unfold isBr; simp only [HE.out]; rfl), below_one w _⟩
set_option maxHeartbeats 2000000 in
theorem goes_any (x : PL) (p : Option Addr) (n c : Nat) (w : World) : Calls Tryz.prog 63 #[lineV x p n c] w fun e w' => e = .returned (.bool (goesB x)) ∧ Below w.heap.size w w' := by
  obtain ⟨br, hbr⟩ : ∃ br, isBr x = br := ⟨_, rfl⟩
  have HB := Lib.hid (fun w => hbr ▸ branch_any x p n c w)
  have HE := Lib.hid hbr
  clear hbr
  obtain ⟨op, a, b, imm, nn, label, list⟩ := x
  unfold lineV at HB ⊢
  cases br
  case true =>
    go_enter Tryz.func63, Tryz.ntmps63
    go_wp2_with (go_at_call 98; refine (HB.out _).mono ?_; rintro e w2 ⟨rfl, hb⟩; have H2 := Lib.hid hb; clear hb)
    go_ret
    exact ⟨ret_bool (by unfold goesB; rw [HE.out]; rfl), bt (below_one w _) H2.out⟩
  case false =>
    by_cases h41 : op = 41
    · have e1 : (op == 41) = true := by simpa using h41
      clear h41
      go_enter Tryz.func63, Tryz.ntmps63
      go_wp2_with (go_at_call 98; refine (HB.out _).mono ?_; rintro e w2 ⟨rfl, hb⟩; have c0 := hb.cell (p := ⟨w.heap.size, 0, none⟩) (by simp); have H2 := Lib.hid hb; clear hb)
      go_ret
      exact ⟨ret_bool (by unfold goesB; rw [HE.out]; simp only [e1]; rfl), bt (below_one w _) H2.out⟩
    · have e1 : (op == 41) = false := by simpa using h41
      clear h41
      go_enter Tryz.func63, Tryz.ntmps63
      go_wp2_with (go_at_call 98; refine (HB.out _).mono ?_; rintro e w2 ⟨rfl, hb⟩; have c0 := hb.cell (p := ⟨w.heap.size, 0, none⟩) (by simp); have H2 := Lib.hid hb; clear hb)
      go_ret
      exact ⟨ret_bool (by unfold goesB; rw [HE.out]; simp only [e1]; rfl), bt (below_one w _) H2.out⟩
end Go.Proofs.YthojmbljlehpbaaGreatDoor.Relax
namespace Go.Proofs.YthojmbljlehpbaaGreatDoor.Relax
open Go.RowKit Go.Proofs.YthojmbljlehpbaaGreatDoor.Enc Go.Proofs.YthojmbljlehpbaaGreatDoor.Graph
theorem ret_int {a b : Int} (h : a = b) : Ending.returned (.int .i64 a) = .returned (.int .i64 b) := by rw [h]
end Go.Proofs.YthojmbljlehpbaaGreatDoor.Relax
namespace Go.Proofs.YthojmbljlehpbaaGreatDoor.Relax
open Go.RowKit Go.Proofs.YthojmbljlehpbaaGreatDoor.Enc Go.Proofs.YthojmbljlehpbaaGreatDoor.Graph

def Is (r : Value) (w : World) (e : Ending) (w' : World) : Prop := e = .returned r ∧ Below w.heap.size w w'
theorem getN {α : Type} {l : List α} {n k : Nat} (hn : n = l.length) (hk : k < n) : ∃ t, l[k]? = some t := ⟨_, List.getElem?_eq_getElem (by rw [← hn]; exact hk)⟩
theorem lineAt_of {l : List PL} {k : Nat} {x : PL} (h : l[k]? = some x) : lineAt l k = x := by
  unfold lineAt; rw [List.getD_eq_getElem?_getD, h]; rfl
theorem brN_le (l : List PL) : ∀ k, brN l k ≤ k
  | 0 => Nat.le_refl _
  | k + 1 => by have := brN_le l k; unfold brN; split <;> omega
end Go.Proofs.YthojmbljlehpbaaGreatDoor.Relax
namespace Go.Proofs.YthojmbljlehpbaaGreatDoor.Relax
open Go.RowKit Go.Proofs.YthojmbljlehpbaaGreatDoor.Enc Go.Proofs.YthojmbljlehpbaaGreatDoor.Graph

/-- An answer of the assembler, as it lies. -/
structure AsmR (w : World) (a : Asm) (vw vk vp : Value) : Prop where
  words : WordsR w vw a.words
  kinds : IntsR w vk a.kinds
  places : IntsR w vp a.places
theorem AsmR.below {w w' : World} {a : Asm} {vw vk vp : Value} (h : AsmR w a vw vk vp) (hb : Below w.heap.size w w') : AsmR w' a vw vk vp := ⟨h.words.below hb, h.kinds.below hb, h.places.below hb⟩
abbrev asmV (a : Asm) (vw vk vp : Value) : Value := .agg #[vw, vk, vp, .int .i64 a.rounds]
theorem ints_pt {w : World} {p : Option Addr} {n c : Nat} {l : List Int} (h : IntsR w (.slice p n c) l) {k : Nat} (hk : k < l.length) :
    ∃ b o x, p = some ⟨b, o, none⟩ ∧ l[k]? = some x ∧ b < w.heap.size ∧ w.cell? ⟨b, o + k, none⟩ = some (.int .i64 x) ∧ l.length ≤ c ∧ c ≤ 9223372036854775807 := by
  obtain ⟨b, o, c', h1, h2, h3, h4⟩ := SlR.form2 h (by omega)
  injection h1 with h1 h5 h6
  subst h1 h6
  obtain ⟨x, hx⟩ : ∃ x, l[k]? = some x := ⟨_, List.getElem?_eq_getElem hk⟩
  have := h4 k hk x hx
  rw [Nat.mul_one] at this
  exact ⟨b, o, x, rfl, hx, h3, this, h2.1, h2.2⟩
theorem words_pt {w : World} {p : Option Addr} {n c : Nat} {l : List Int} (h : WordsR w (.slice p n c) l) {k : Nat} (hk : k < l.length) :
    ∃ b o x, p = some ⟨b, o, none⟩ ∧ l[k]? = some x ∧ b < w.heap.size ∧ w.cell? ⟨b, o + k, none⟩ = some (.int .u32 x) ∧ l.length ≤ c ∧ c ≤ 9223372036854775807 := by
  obtain ⟨b, o, c', h1, h2, h3, h4⟩ := SlR.form2 h (by omega)
  injection h1 with h1 h5 h6
  subst h1 h6
  obtain ⟨x, hx⟩ : ∃ x, l[k]? = some x := ⟨_, List.getElem?_eq_getElem hk⟩
  have := h4 k hk x hx
  rw [Nat.mul_one] at this
  exact ⟨b, o, x, rfl, hx, h3, this, h2.1, h2.2⟩
theorem sl_len {w : World} {sz : Nat} {v : Value} {n : Nat} {P : Nat → Nat → Nat → Prop} (h : SlR w sz v n P) : n ≤ 9223372036854775807 := by
  rcases h with ⟨h0, _⟩ | ⟨b, o, c, _, _, h2, _⟩ <;> omega
theorem below_drew {w w' : World} (h : Below w.heap.size w w') (n : Nat) : Below w.heap.size w (w'.drewN n) := h.trans ⟨rfl, rfl, rfl, Nat.le_refl _, fun _ _ => rfl⟩
/-- The two boxes of Same. -/
structure Box2 (w wr : World) (v0 v1 v2 v3 u0 u1 u2 u3 : Value) : Prop where
  b : Below w.heap.size w wr
  sz : w.heap.size + 1 < wr.heap.size
  c0 : wr.cell? ⟨w.heap.size, 0, none⟩ = some v0
  c1 : wr.cell? ⟨w.heap.size, 1, none⟩ = some v1
  c2 : wr.cell? ⟨w.heap.size, 2, none⟩ = some v2
  c3 : wr.cell? ⟨w.heap.size, 3, none⟩ = some v3
  d0 : wr.cell? ⟨w.heap.size + 1, 0, none⟩ = some u0
  d1 : wr.cell? ⟨w.heap.size + 1, 1, none⟩ = some u1
  d2 : wr.cell? ⟨w.heap.size + 1, 2, none⟩ = some u2
  d3 : wr.cell? ⟨w.heap.size + 1, 3, none⟩ = some u3
theorem Box2.start (w : World) (t : TypeId) (v0 v1 v2 v3 u0 u1 u2 u3 : Value) : Box2 w ((w.alloc (.cells #[v0, v1, v2, v3] t)).alloc (.cells #[u0, u1, u2, u3] t)) v0 v1 v2 v3 u0 u1 u2 u3 := by
  refine ⟨(below_one w _).alloc (by simp) _, by simp, ?_, ?_, ?_, ?_, ?_, ?_, ?_, ?_⟩ <;> go_simp
theorem Box2.drew {w wr : World} {v0 v1 v2 v3 u0 u1 u2 u3 : Value} (h : Box2 w wr v0 v1 v2 v3 u0 u1 u2 u3) (n : Nat) : Box2 w (wr.drewN n) v0 v1 v2 v3 u0 u1 u2 u3 :=
  ⟨below_drew h.b n, h.sz, h.c0, h.c1, h.c2, h.c3, h.d0, h.d1, h.d2, h.d3⟩
set_option maxHeartbeats 8000000 in
set_option maxRecDepth 100000 in
theorem same_any (a : Asm) (vw vk vp uw uk up : Value) (w : World) (h : AsmR w a vw vk vp) (k : AsmR w a uw uk up) :
    Calls Tryz.prog 26 #[asmV a vw vk vp, asmV a uw uk up] w (Is (.bool true) w) := by
  obtain ⟨pw, cw, rfl⟩ := h.words.form
  obtain ⟨pk, ck, rfl⟩ := h.kinds.form
  obtain ⟨pp, cp, rfl⟩ := h.places.form
  obtain ⟨qw, dw, rfl⟩ := k.words.form
  obtain ⟨qk, dk, rfl⟩ := k.kinds.form
  obtain ⟨qp, dp, rfl⟩ := k.places.form
  have m1 := sl_len h.words
  have m2 := sl_len h.kinds
  have m3 := sl_len h.places
  obtain ⟨words, kinds, places, rounds⟩ := a
  simp only at m1 m2 m3
  obtain ⟨nw, hnw⟩ : ∃ n, n = words.length := ⟨_, rfl⟩
  obtain ⟨nk, hnk⟩ : ∃ n, n = kinds.length := ⟨_, rfl⟩
  obtain ⟨np, hnp⟩ : ∃ n, n = places.length := ⟨_, rfl⟩
  unfold asmV
  simp only
  rw [← hnw] at m1
  rw [← hnk] at m2
  rw [← hnp] at m3
  rw [← hnw, ← hnk, ← hnp]
  have HH := Lib.hid h
  have HK := Lib.hid k
  have HNW := Lib.hid hnw
  have HNK := Lib.hid hnk
  have HNP := Lib.hid hnp
  have HB0 := Lib.hid (Box2.start w 46 (.slice pw nw cw) (.slice pk nk ck) (.slice pp np cp) (.int .i64 rounds) (.slice qw nw dw) (.slice qk nk dk) (.slice qp np dp) (.int .i64 rounds))
  clear h k hnw hnk hnp
  have i1 : (nw : Int) ≤ 9223372036854775807 := by omega
  have i2 : (nk : Int) ≤ 9223372036854775807 := by omega
  have i3 : (np : Int) ≤ 9223372036854775807 := by omega
  go_enter Tryz.func26, Tryz.ntmps26
  go_wp2
  go_loopw [5] (fun i wr => ∃ k : Nat, k ≤ nw ∧ i = .int .i64 k ∧ Hid (Box2 w wr (.slice pw nw cw) (.slice pk nk ck) (.slice pp np cp) (.int .i64 rounds) (.slice qw nw dw) (.slice qk nk dk) (.slice qp np dp) (.int .i64 rounds))) (fun i _ => nw - (intOf i).toNat)
  case atStart => exact ⟨0, Nat.zero_le _, rfl, HB0⟩
  case round =>
    obtain ⟨k1, hk1, rfl, HB1⟩ := hrel
    obtain ⟨bb, sz, c0, c1, c2, c3, d0, d1, d2, d3⟩ := HB1.out
    have BB := Lib.hid bb
    have z0 : w.heap.size < wr.heap.size := by omega
    clear bb
    by_cases hlt : k1 < nw
    · obtain ⟨b1, o1, x, rfl, hx, hl1, e1, _, _⟩ := words_pt HH.out.words (k := k1) (by have := HNW.out; show k1 < words.length; omega)
      obtain ⟨b2, o2, y, rfl, hy, hl2, e2, _, _⟩ := words_pt HK.out.words (k := k1) (by have := HNW.out; show k1 < words.length; omega)
      obtain rfl : x = y := by rw [hx] at hy; simpa using hy
      have g1 := (BB.out.cell (p := ⟨b1, o1 + k1, none⟩) hl1).trans e1
      have g2 := (BB.out.cell (p := ⟨b2, o2 + k1, none⟩) hl2).trans e2
      have l1 : b1 < wr.heap.size := by omega
      have l2 : b2 < wr.heap.size := by omega
      have i0 : (0 : Int) ≤ k1 := by omega
      have i4 : (k1 : Int) < nw := by omega
      clear hx hy e1 e2
      go_wp2
      go_quiet (fail)
      go_wp2
      exact ⟨⟨k1 + 1, by omega, by go_num, Lib.hid (HB1.out.drew nq)⟩, by simp [intOf]; omega⟩
    · obtain rfl : nw = k1 := by omega
      go_wp2
      go_loopw [6] (fun i wr => ∃ k : Nat, k ≤ nk ∧ i = .int .i64 k ∧ Hid (Box2 w wr (.slice pw nw cw) (.slice pk nk ck) (.slice pp np cp) (.int .i64 rounds) (.slice qw nw dw) (.slice qk nk dk) (.slice qp np dp) (.int .i64 rounds))) (fun i _ => nk - (intOf i).toNat)
      case atStart => exact ⟨0, Nat.zero_le _, rfl, HB1⟩
      case round =>
        obtain ⟨k2, hk2, rfl, HB2⟩ := hrel
        obtain ⟨bb, sz, c0, c1, c2, c3, d0, d1, d2, d3⟩ := HB2.out
        have BB := Lib.hid bb
        have z0 : w.heap.size < wr.heap.size := by omega
        clear bb
        by_cases hlt : k2 < nk
        · obtain ⟨b1, o1, x, rfl, hx, hl1, e1, _, _⟩ := ints_pt HH.out.kinds (k := k2) (by have := HNK.out; show k2 < kinds.length; omega)
          obtain ⟨b2, o2, y, rfl, hy, hl2, e2, _, _⟩ := ints_pt HK.out.kinds (k := k2) (by have := HNK.out; show k2 < kinds.length; omega)
          obtain rfl : x = y := by rw [hx] at hy; simpa using hy
          have g1 := (BB.out.cell (p := ⟨b1, o1 + k2, none⟩) hl1).trans e1
          have g2 := (BB.out.cell (p := ⟨b2, o2 + k2, none⟩) hl2).trans e2
          have l1 : b1 < wr.heap.size := by omega
          have l2 : b2 < wr.heap.size := by omega
          have i0 : (0 : Int) ≤ k2 := by omega
          have i4 : (k2 : Int) < nk := by omega
          clear hx hy e1 e2
          go_wp2
          go_quiet (fail)
          go_wp2
          exact ⟨⟨k2 + 1, by omega, by go_num, Lib.hid (HB2.out.drew nq)⟩, by simp [intOf]; omega⟩
        · obtain rfl : nk = k2 := by omega
          go_wp2
          go_loopw [7] (fun i wr => ∃ k : Nat, k ≤ np ∧ i = .int .i64 k ∧ Hid (Box2 w wr (.slice pw nw cw) (.slice pk nk ck) (.slice pp np cp) (.int .i64 rounds) (.slice qw nw dw) (.slice qk nk dk) (.slice qp np dp) (.int .i64 rounds))) (fun i _ => np - (intOf i).toNat)
          case atStart => exact ⟨0, Nat.zero_le _, rfl, HB2⟩
          case round =>
            obtain ⟨k3, hk3, rfl, HB3⟩ := hrel
            obtain ⟨bb, sz, c0, c1, c2, c3, d0, d1, d2, d3⟩ := HB3.out
            have BB := Lib.hid bb
            have z0 : w.heap.size < wr.heap.size := by omega
            clear bb
            by_cases hlt : k3 < np
            · obtain ⟨b1, o1, x, rfl, hx, hl1, e1, _, _⟩ := ints_pt HH.out.places (k := k3) (by have := HNP.out; show k3 < places.length; omega)
              obtain ⟨b2, o2, y, rfl, hy, hl2, e2, _, _⟩ := ints_pt HK.out.places (k := k3) (by have := HNP.out; show k3 < places.length; omega)
              obtain rfl : x = y := by rw [hx] at hy; simpa using hy
              have g1 := (BB.out.cell (p := ⟨b1, o1 + k3, none⟩) hl1).trans e1
              have g2 := (BB.out.cell (p := ⟨b2, o2 + k3, none⟩) hl2).trans e2
              have l1 : b1 < wr.heap.size := by omega
              have l2 : b2 < wr.heap.size := by omega
              have i0 : (0 : Int) ≤ k3 := by omega
              have i4 : (k3 : Int) < np := by omega
              clear hx hy e1 e2
              go_wp2
              go_quiet (fail)
              go_wp2
              exact ⟨⟨k3 + 1, by omega, by go_num, Lib.hid (HB3.out.drew nq)⟩, by simp [intOf]; omega⟩
            · obtain rfl : np = k3 := by omega
              go_wp2
              go_ret
              exact ⟨rfl, BB.out⟩
end Go.Proofs.YthojmbljlehpbaaGreatDoor.Relax
