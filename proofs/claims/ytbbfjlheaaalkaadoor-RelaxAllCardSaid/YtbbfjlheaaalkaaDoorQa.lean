/- Lines, as they lie in memory; the document's small functions on lines: what each returns. No condition. -/
import Derived.Test.YtbbfjlheaaalkaaDoorPf
import Derived.Test.YtbbfjlheaaalkaaDoorMp
import Derived.Test.YtbbfjlheaaalkaaDoorProg
import Derived.WalkKit
import Derived.WalkSpells
import Derived.WalkLawsBesides
import Derived.Lib.Hide
import Derived.OneCell
import Derived.StillTactics
import Derived.OwnWalk
import Derived.BigQuiet
import Derived.KernelRfl
import Derived.BigFrame
namespace Go.Proofs.YtbbfjlheaaalkaaDoor.Relax
open Go.RowKit Go.Proofs.YtbbfjlheaaalkaaDoor.Enc Go.Proofs.YtbbfjlheaaalkaaDoor.Graph

/-- A line at a place. -/
structure LineR (w : World) (b o : Nat) (x : PL) (v : Value) : Prop where
  op : w.cell? ⟨b, o, none⟩ = some (.int .i64 x.op)
  fa : w.cell? ⟨b, o + 1, none⟩ = some (.int .i64 x.a)
  fb : w.cell? ⟨b, o + 2, none⟩ = some (.int .i64 x.b)
  imm : w.cell? ⟨b, o + 3, none⟩ = some (.int .i64 x.imm)
  n : w.cell? ⟨b, o + 4, none⟩ = some (.int .u32 x.n)
  label : w.cell? ⟨b, o + 5, none⟩ = some (.int .i64 x.label)
  cl : w.cell? ⟨b, o + 6, none⟩ = some v
  list : IntsR w v x.list
theorem LineR.below {w w' : World} {b o : Nat} {x : PL} {v : Value} (h : LineR w b o x v) (hl : b < w.heap.size) (hb : Below w.heap.size w w') : LineR w' b o x v :=
  ⟨(cell_below hb hl _).trans h.op, (cell_below hb hl _).trans h.fa, (cell_below hb hl _).trans h.fb, (cell_below hb hl _).trans h.imm, (cell_below hb hl _).trans h.n, (cell_below hb hl _).trans h.label, (cell_below hb hl _).trans h.cl, h.list.below hb⟩
def LinesR (w : World) (v : Value) (l : List PL) : Prop := SlR w 7 v l.length fun i b o => ∀ x, l[i]? = some x → ∃ vl, LineR w b o x vl
theorem LinesR.below {w w' : World} {v : Value} {l : List PL} (h : LinesR w v l) (hb : Below w.heap.size w w') : LinesR w' v l :=
  SlR.below h hb fun _ _ _ hl hP x hx => let ⟨vl, h⟩ := hP x hx; ⟨vl, h.below hl hb⟩
abbrev lineV (x : PL) (p : Option Addr) (n c : Nat) : Value := .agg #[.int .i64 x.op, .int .i64 x.a, .int .i64 x.b, .int .i64 x.imm, .int .u32 x.n, .int .i64 x.label, .slice p n c]
theorem ret_bool {a b : Bool} (h : a = b) : Ending.returned (.bool a) = .returned (.bool b) := by rw [h]
theorem below_one (w : World) (o : Obj) : Below w.heap.size w (w.alloc o) := (Below.refl _ _).alloc (Nat.le_refl _) o
theorem bt {a b c : World} (h : Below a.heap.size a b) (k : Below b.heap.size b c) : Below a.heap.size a c := h.trans (k.mono h.size)
set_option maxHeartbeats 1000000 in
theorem branch16_any (n : Int) (w : World) : Calls Tryd.prog 30 #[.int .i64 n] w fun e w' => e = .returned (.bool (branchOp n)) ∧ w' = w := by
  go_enter Tryd.func30, Tryd.ntmps30
  go_wp2
  all_goals go_ret
  all_goals refine ⟨ret_bool ?_, rfl⟩
  all_goals (rw [Bool.eq_iff_iff]; simp_all [branchOp] <;> omega)
set_option maxHeartbeats 1000000 in
theorem near_any (n : Int) (w : World) : Calls Tryd.prog 27 #[.int .i64 n] w fun e w' => e = .returned (.bool (nearB n)) ∧ w' = w := by
  go_enter Tryd.func27, Tryd.ntmps27
  go_wp2
  all_goals go_ret
  all_goals refine ⟨ret_bool ?_, rfl⟩
  all_goals (rw [Bool.eq_iff_iff]; simp_all [nearB] <;> omega)
set_option maxHeartbeats 2000000 in
theorem branch_any (x : PL) (p : Option Addr) (n c : Nat) (w : World) : Calls Tryd.prog 26 #[lineV x p n c] w fun e w' => e = .returned (.bool (isBr x)) ∧ Below w.heap.size w w' := by
  obtain ⟨op, a, b, imm, nn, label, list⟩ := x
  obtain ⟨br, hbr⟩ : ∃ br, branchOp op = br := ⟨_, rfl⟩
  have HB := Lib.hid (fun w => hbr ▸ branch16_any op w)
  have HE := Lib.hid hbr
  clear hbr
  unfold lineV
  cases br
  all_goals
    go_enter Tryd.func26, Tryd.ntmps26
    go_wp2_with (go_at_call 30; refine (HB.out _).mono ?_; rintro e w2 ⟨rfl, rfl⟩)
    go_ret
    exact ⟨ret_bool (by unfold isBr; simp only [HE.out]; rfl), below_one w _⟩
set_option maxHeartbeats 2000000 in
theorem goes_any (x : PL) (p : Option Addr) (n c : Nat) (w : World) : Calls Tryd.prog 14 #[lineV x p n c] w fun e w' => e = .returned (.bool (goesB x)) ∧ Below w.heap.size w w' := by
  obtain ⟨br, hbr⟩ : ∃ br, isBr x = br := ⟨_, rfl⟩
  have HB := Lib.hid (fun w => hbr ▸ branch_any x p n c w)
  have HE := Lib.hid hbr
  clear hbr
  obtain ⟨op, a, b, imm, nn, label, list⟩ := x
  unfold lineV at HB ⊢
  cases br
  case true =>
    go_enter Tryd.func14, Tryd.ntmps14
    go_wp2_with (go_at_call 26; refine (HB.out _).mono ?_; rintro e w2 ⟨rfl, hb⟩; have H2 := Lib.hid hb; clear hb)
    go_ret
    exact ⟨ret_bool (by unfold goesB; rw [HE.out]; rfl), bt (below_one w _) H2.out⟩
  case false =>
    by_cases h41 : op = 41
    · have e1 : (op == 41) = true := by simpa using h41
      clear h41
      go_enter Tryd.func14, Tryd.ntmps14
      go_wp2_with (go_at_call 26; refine (HB.out _).mono ?_; rintro e w2 ⟨rfl, hb⟩; have c0 := hb.cell (p := ⟨w.heap.size, 0, none⟩) (by simp); have H2 := Lib.hid hb; clear hb)
      go_ret
      exact ⟨ret_bool (by unfold goesB; rw [HE.out]; simp only [e1]; rfl), bt (below_one w _) H2.out⟩
    · have e1 : (op == 41) = false := by simpa using h41
      clear h41
      go_enter Tryd.func14, Tryd.ntmps14
      go_wp2_with (go_at_call 26; refine (HB.out _).mono ?_; rintro e w2 ⟨rfl, hb⟩; have c0 := hb.cell (p := ⟨w.heap.size, 0, none⟩) (by simp); have H2 := Lib.hid hb; clear hb)
      go_ret
      exact ⟨ret_bool (by unfold goesB; rw [HE.out]; simp only [e1]; rfl), bt (below_one w _) H2.out⟩
end Go.Proofs.YtbbfjlheaaalkaaDoor.Relax
