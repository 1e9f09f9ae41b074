/- A word put into a line; two rows of words, alike or not. No condition but sizes. -/
import Derived.Test.YthojmbljlehpbaaGreatDoorG24
import Derived.RegionTactic
namespace Go.Proofs.YthojmbljlehpbaaGreatDoor.Lists
open Go.RowKit Go.Proofs.YthojmbljlehpbaaGreatDoor.Relax Go.Proofs.YthojmbljlehpbaaGreatDoor.Graph
open Go.Lib hiding intOf
open Go.Proofs.YthojmbljlehpbaaGreatDoor.Enc hiding below_one bt ret_bool

theorem cells_form {B fb : Nat} {w : World} {f : Fl} {vl : Value} (h : FlR B fb w f vl) : w.cell? ⟨fb, 0, none⟩ = some (.int .i64 f.line.op) ∧ w.cell? ⟨fb, 5, none⟩ = some (.int .i64 f.line.label) ∧ w.frozen? ⟨fb, 0, none⟩ = false ∧ w.frozen? ⟨fb, 5, none⟩ = false :=
  ⟨h.cells.1.1, h.cells.1.2.2.2.2.2.1, h.cells.2 0, h.cells.2 5⟩
set_option maxHeartbeats 8000000 in
set_option maxRecDepth 100000 in
theorem put_name (B fb : Nat) (f : Fl) (vl : Value) (w : World) (h : FlR B fb w f vl) (n : Int) (_hr : f.regs ≤ 999) (_hl : f.line.list.length ≤ 1000) : Calls Tryz.prog 138 #[.pointer (some ⟨fb, 0, none⟩), wdV (some (.name n))] w (PutPost B fb (putW f (some (.name n))) w) := by
  have a0 := as_name (some (.name n)) w
  have a1 := as_reg (some (.name n)) w
  have a2 := as_num (some (.name n)) w
  have a3 := as_lab (some (.name n)) w
  have a4 := as_mark (some (.name n)) w
  simp only [wdV, asName, asReg, asLab, asMark, asNum] at a0 a1 a2 a3 a4
  have HF := Lib.hid h
  obtain ⟨y0, y5, f0, f5⟩ := cells_form h
  have hlt := h.lt
  have hB := h.hB
  have HQ := Lib.hid (h.set (f' := putW f (some (.name n))) 0 (.int .i64 n) rfl rfl)
  clear h _hr _hl
  unfold wdV
  go_enter Tryz.func138, Tryz.ntmps138
  go_wp2
  go_end0
  exact ⟨rfl, _, HQ.out, (Below.refl B w).setCell (p := ⟨fb, 0, none⟩) hB _⟩
set_option maxHeartbeats 8000000 in
set_option maxRecDepth 100000 in
theorem put_reg (B fb : Nat) (f : Fl) (vl : Value) (w : World) (h : FlR B fb w f vl) (n : Int) (hr : f.regs ≤ 999) (_hl : f.line.list.length ≤ 1000) : Calls Tryz.prog 138 #[.pointer (some ⟨fb, 0, none⟩), wdV (some (.reg n))] w (PutPost B fb (putW f (some (.reg n))) w) := by
  have a0 := as_name (some (.reg n)) w
  have a1 := as_reg (some (.reg n)) w
  have a2 := as_num (some (.reg n)) w
  have a3 := as_lab (some (.reg n)) w
  have a4 := as_mark (some (.reg n)) w
  simp only [wdV, asName, asReg, asLab, asMark, asNum] at a0 a1 a2 a3 a4
  have HC := Lib.hid (register_any B fb f vl w h n hr)
  have HE : Hid (putW f (some (.reg n)) = regW f n) := Lib.hid rfl
  have hlt := h.lt
  clear h hr _hl
  unfold wdV
  unfold PutPost at HC
  go_enter Tryz.func138, Tryz.ntmps138
  go_wp2_with (
    go_at_call 146
    refine HC.out.mono ?_
    rintro e w2 ⟨rfl, hx⟩
    have HX := Lib.hid hx
    clear hx)
  go_end0
  rw [HE.out]
  exact ⟨rfl, HX.out⟩
set_option maxHeartbeats 8000000 in
set_option maxRecDepth 100000 in
theorem put_num (B fb : Nat) (f : Fl) (vl : Value) (w : World) (h : FlR B fb w f vl) (n : Int) (_hr : f.regs ≤ 999) (_hl : f.line.list.length ≤ 1000) : Calls Tryz.prog 138 #[.pointer (some ⟨fb, 0, none⟩), wdV (some (.num n))] w (PutPost B fb (putW f (some (.num n))) w) := by
  have a0 := as_name (some (.num n)) w
  have a1 := as_reg (some (.num n)) w
  have a2 := as_num (some (.num n)) w
  have a3 := as_lab (some (.num n)) w
  have a4 := as_mark (some (.num n)) w
  simp only [wdV, asName, asReg, asLab, asMark, asNum] at a0 a1 a2 a3 a4
  have HC := Lib.hid (number_any B fb f vl w h n)
  have HE : Hid (putW f (some (.num n)) = numW f n) := Lib.hid rfl
  have hlt := h.lt
  clear h _hr _hl
  unfold wdV
  unfold PutPost at HC
  go_enter Tryz.func138, Tryz.ntmps138
  go_wp2_with (
    go_at_call 147
    refine HC.out.mono ?_
    rintro e w2 ⟨rfl, hx⟩
    have HX := Lib.hid hx
    clear hx)
  go_end0
  rw [HE.out]
  exact ⟨rfl, HX.out⟩
set_option maxHeartbeats 8000000 in
set_option maxRecDepth 100000 in
theorem put_lab (B fb : Nat) (f : Fl) (vl : Value) (w : World) (h : FlR B fb w f vl) (n : Int) (_hr : f.regs ≤ 999) (hl : f.line.list.length ≤ 1000) : Calls Tryz.prog 138 #[.pointer (some ⟨fb, 0, none⟩), wdV (some (.lab n))] w (PutPost B fb (putW f (some (.lab n))) w) := by
  have a0 := as_name (some (.lab n)) w
  have a1 := as_reg (some (.lab n)) w
  have a2 := as_num (some (.lab n)) w
  have a3 := as_lab (some (.lab n)) w
  have a4 := as_mark (some (.lab n)) w
  simp only [wdV, asName, asReg, asLab, asMark, asNum] at a0 a1 a2 a3 a4
  have HC := Lib.hid (label_any B fb f vl w h n hl)
  have HE : Hid (putW f (some (.lab n)) = labW f n) := Lib.hid rfl
  have hlt := h.lt
  clear h _hr hl
  unfold wdV
  unfold PutPost at HC
  go_enter Tryz.func138, Tryz.ntmps138
  go_wp2_with (
    go_at_call 148
    refine HC.out.mono ?_
    rintro e w2 ⟨rfl, hx⟩
    have HX := Lib.hid hx
    clear hx)
  go_end0
  rw [HE.out]
  exact ⟨rfl, HX.out⟩
set_option maxHeartbeats 8000000 in
set_option maxRecDepth 100000 in
theorem put_mark (B fb : Nat) (f : Fl) (vl : Value) (w : World) (h : FlR B fb w f vl) (n : Int) (_hr : f.regs ≤ 999) (_hl : f.line.list.length ≤ 1000) : Calls Tryz.prog 138 #[.pointer (some ⟨fb, 0, none⟩), wdV (some (.mark n))] w (PutPost B fb (putW f (some (.mark n))) w) := by
  have a0 := as_name (some (.mark n)) w
  have a1 := as_reg (some (.mark n)) w
  have a2 := as_num (some (.mark n)) w
  have a3 := as_lab (some (.mark n)) w
  have a4 := as_mark (some (.mark n)) w
  simp only [wdV, asName, asReg, asLab, asMark, asNum] at a0 a1 a2 a3 a4
  have HF := Lib.hid h
  obtain ⟨y0, y5, f0, f5⟩ := cells_form h
  have hlt := h.lt
  have hB := h.hB
  have HQ := Lib.hid (h.set (f' := putW f (some (.mark n))) 5 (.int .i64 n) rfl rfl)
  clear h _hr _hl
  unfold wdV
  go_enter Tryz.func138, Tryz.ntmps138
  go_wp2
  go_end0
  exact ⟨rfl, _, HQ.out, (Below.refl B w).setCell (p := ⟨fb, 5, none⟩) hB _⟩
set_option maxHeartbeats 8000000 in
set_option maxRecDepth 100000 in
theorem put_none (B fb : Nat) (f : Fl) (vl : Value) (w : World) (h : FlR B fb w f vl) (_hr : f.regs ≤ 999) (_hl : f.line.list.length ≤ 1000) : Calls Tryz.prog 138 #[.pointer (some ⟨fb, 0, none⟩), wdV none] w (PutPost B fb (putW f none) w) := by
  have a0 := as_name none w
  have a1 := as_reg none w
  have a2 := as_num none w
  have a3 := as_lab none w
  have a4 := as_mark none w
  simp only [wdV, asName, asReg, asLab, asMark, asNum] at a0 a1 a2 a3 a4
  have HF := Lib.hid h
  have hlt := h.lt
  clear h _hr _hl
  unfold wdV
  go_enter Tryz.func138, Tryz.ntmps138
  go_wp2
  go_end0
  exact ⟨rfl, _, HF.out, Below.refl _ _⟩
theorem put_any (B fb : Nat) (f : Fl) (vl : Value) (w : World) (h : FlR B fb w f vl) (x : Option Wd) (hr : f.regs ≤ 999) (hl : f.line.list.length ≤ 1000) : Calls Tryz.prog 138 #[.pointer (some ⟨fb, 0, none⟩), wdV x] w (PutPost B fb (putW f x) w) := by
  rcases x with _ | x
  · exact put_none B fb f vl w h hr hl
  · cases x with
    | name n => exact put_name B fb f vl w h n hr hl
    | reg n => exact put_reg B fb f vl w h n hr hl
    | num n => exact put_num B fb f vl w h n hr hl
    | lab n => exact put_lab B fb f vl w h n hr hl
    | mark n => exact put_mark B fb f vl w h n hr hl
theorem eq_same {T : TypeId} (hT : Tryz.prog.underlying T = some (.int .i64)) (hc : (Tryz.prog.info? T).map (·.comparable) = some true) (d : Nat) (a b : Int) (w : World) : (Op.equalIn (d + 2) 20 (.iface T (.int .i64 a)) (.iface T (.int .i64 b))).run Tryz.prog w = .ok (a == b) w := by
  obtain ⟨j, hj, hj2⟩ := Option.map_eq_some_iff.1 hc
  have e : ∀ d, (Op.equalIn (d + 1) T (.int .i64 a) (.int .i64 b)).run Tryz.prog w = .ok (a == b) w := fun d => by
    simp [Op.equalIn, run_underlying hT]
  simp [Op.equalIn, run_underlying Tryz.underlying20, typeInfo, hj, hj2, run_underlying hT]
theorem eq_other {T T' : TypeId} (hT : T ≠ T') (d : Nat) (a b : Value) (w : World) : (Op.equalIn (d + 2) 20 (.iface T a) (.iface T' b)).run Tryz.prog w = .ok false w := by
  simp [Op.equalIn, run_underlying Tryz.underlying20, hT]
theorem eq_nil (d : Nat) (w : World) : (Op.equalIn (d + 2) 20 .nilIface .nilIface).run Tryz.prog w = .ok true w := by
  simp [Op.equalIn, run_underlying Tryz.underlying20]
theorem eq_nil1 {T : TypeId} (d : Nat) (a : Value) (w : World) : (Op.equalIn (d + 2) 20 .nilIface (.iface T a)).run Tryz.prog w = .ok false w := by
  simp [Op.equalIn, run_underlying Tryz.underlying20]
theorem eq_nil2 {T : TypeId} (d : Nat) (a : Value) (w : World) : (Op.equalIn (d + 2) 20 (.iface T a) .nilIface).run Tryz.prog w = .ok false w := by
  simp [Op.equalIn, run_underlying Tryz.underlying20]
theorem neq11 {T T' : TypeId} {a b : Value} {r : Bool} {w : World} (h : ∀ d, (Op.equalIn (d + 2) 20 (.iface T a) (.iface T' b)).run Tryz.prog w = .ok r w) : (binOp .neq 20 (.iface T a) (.iface T' b)).run Tryz.prog w = .ok (.bool (!r)) w := by
  simp only [binOp]
  simp [Op.equal, Op.maxDepth, h 9998]
theorem neq01 {T' : TypeId} {b : Value} {r : Bool} {w : World} (h : ∀ d, (Op.equalIn (d + 2) 20 .nilIface (.iface T' b)).run Tryz.prog w = .ok r w) : (binOp .neq 20 .nilIface (.iface T' b)).run Tryz.prog w = .ok (.bool (!r)) w := by
  simp only [binOp]
  simp [Op.equal, Op.maxDepth, h 9998]
theorem neq10 {T : TypeId} {a : Value} {r : Bool} {w : World} (h : ∀ d, (Op.equalIn (d + 2) 20 (.iface T a) .nilIface).run Tryz.prog w = .ok r w) : (binOp .neq 20 (.iface T a) .nilIface).run Tryz.prog w = .ok (.bool (!r)) w := by
  simp only [binOp]
  simp [Op.equal, Op.maxDepth, h 9998]
theorem neq00 {r : Bool} {w : World} (h : ∀ d, (Op.equalIn (d + 2) 20 .nilIface .nilIface).run Tryz.prog w = .ok r w) : (binOp .neq 20 .nilIface .nilIface).run Tryz.prog w = .ok (.bool (!r)) w := by
  simp only [binOp]
  simp [Op.equal, Op.maxDepth, h 9998]
theorem rb {x y : Bool} {v v' : Value} {w : World} (h : (binOp .neq 20 v v').run Tryz.prog w = .ok (.bool x) w) (e : x = y) : (binOp .neq 20 v v').run Tryz.prog w = .ok (.bool y) w := e ▸ h
theorem ne_int {α : Type} {f : Int → α} [DecidableEq α] (hf : ∀ a b, f a = f b → a = b) (a b : Int) : (!(a == b)) = decide (f a ≠ f b) := by
  by_cases h : a = b
  · subst h; simp
  · have : f a ≠ f b := fun e => h (hf a b e)
    simp [h, this]
theorem wd_neq (x y : Option Wd) (w : World) : (binOp .neq 20 (wdV x) (wdV y)).run Tryz.prog w = .ok (.bool (decide (x ≠ y))) w := by
  rcases x with _ | (a | a | a | a | a) <;> rcases y with _ | (b | b | b | b | b) <;> unfold wdV
  case none.none => exact rb (neq00 fun d => eq_nil d w) rfl
  case some.name.some.name => exact rb (neq11 fun d => eq_same Tryz.underlying131 (by kernel_rfl) d a b w) (ne_int (f := fun a => some (Wd.name a)) (by simp) a b)
  case some.reg.some.reg => exact rb (neq11 fun d => eq_same Tryz.underlying133 (by kernel_rfl) d a b w) (ne_int (f := fun a => some (Wd.reg a)) (by simp) a b)
  case some.lab.some.lab => exact rb (neq11 fun d => eq_same Tryz.underlying107 (by kernel_rfl) d a b w) (ne_int (f := fun a => some (Wd.lab a)) (by simp) a b)
  case some.mark.some.mark => exact rb (neq11 fun d => eq_same Tryz.underlying103 (by kernel_rfl) d a b w) (ne_int (f := fun a => some (Wd.mark a)) (by simp) a b)
  case some.num.some.num => exact rb (neq11 fun d => eq_same Tryz.underlying105 (by kernel_rfl) d a b w) (ne_int (f := fun a => some (Wd.num a)) (by simp) a b)
  case none.some.name => exact rb (neq01 fun d => eq_nil1 d _ w) rfl
  case none.some.reg => exact rb (neq01 fun d => eq_nil1 d _ w) rfl
  case none.some.lab => exact rb (neq01 fun d => eq_nil1 d _ w) rfl
  case none.some.mark => exact rb (neq01 fun d => eq_nil1 d _ w) rfl
  case none.some.num => exact rb (neq01 fun d => eq_nil1 d _ w) rfl
  case some.name.none => exact rb (neq10 fun d => eq_nil2 d _ w) rfl
  case some.reg.none => exact rb (neq10 fun d => eq_nil2 d _ w) rfl
  case some.lab.none => exact rb (neq10 fun d => eq_nil2 d _ w) rfl
  case some.mark.none => exact rb (neq10 fun d => eq_nil2 d _ w) rfl
  case some.num.none => exact rb (neq10 fun d => eq_nil2 d _ w) rfl
  all_goals exact rb (neq11 fun d => eq_other (by simp) d _ _ w) (by simp)
end Go.Proofs.YthojmbljlehpbaaGreatDoor.Lists
