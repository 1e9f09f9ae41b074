/- The document's machine, instructions that go elsewhere: branches. No condition. -/
import Derived.Test.YtopceggmdieppaaDoorKA
import Derived.Test.YtopceggmdieppaaDoorHB
import Derived.Test.YtopceggmdieppaaDoorEC
namespace Go.Proofs.YtopceggmdieppaaDoor.Emu
open Go.RowKit Go.Proofs.YtopceggmdieppaaDoor.Enc Go.Proofs.YtopceggmdieppaaDoor.Graph

section
variable {x : Dz} {E : Env} {w w' w1 w2 : World} {m : M} {back buf : Value}
/-- The document's holds tells what hs says. -/
structure DHolds (hs : Int → Int → Int → Bool) : Prop where
  tell : ∀ op : Int, 30 ≤ op ∧ op ≤ 39 → ∀ a b, isW a → isW b → ∀ w, Calls Tryd.prog 122 #[.int .i64 op, .int .u32 a, .int .u32 b] w fun e w' => e = .returned (.bool (hs op a b)) ∧ w' = w
set_option maxHeartbeats 4000000 in
set_option maxRecDepth 100000 in
theorem gd30 (h : Sd x E w w' m back buf) (hI : Inv m) (_hE : EnvOk E) (a b : Nat) (ha : a < 12) (hb : b < 12) (imm : Int) (hi : -32768 ≤ imm ∧ imm ≤ 32767) (q : Int) (hq : 0 ≤ q ∧ q ≤ 65536) (hT : DHolds E.holds) :
    Calls Tryd.prog 75 #[.pointer (some ⟨x.bm, 0, none⟩), cV ⟨30, a, b, imm⟩, .int .i64 q] w' fun e w2 => e = .returned (.tuple #[]) ∧ ∃ back' buf', Sd x E w w2 (goesStep E m ⟨30, a, b, imm⟩ q) back' buf' := by
  have hmo : goesStep E m ⟨30, a, b, imm⟩ q = if E.holds 30 (reg m a) (reg m b) then { m with place := q + imm } else { m with place := q } := by simp [goesStep, followsP]
  rw [hmo]
  have HF := Lib.hid (fun (w : World) => (show Calls Tryd.prog 121 #[.int .i64 30] w fun e w' => e = .returned (.int .i64 (0)) ∧ w' = w from by have h5 := rfollows_any 30 w; rwa [show followsP 30 = 0 by decide] at h5))
  obtain ⟨c17, f17⟩ := h.cell (k := 17) (by decide)
  change _ = some (Value.int .i64 m.place) at c17
  have hlm := h.lm
  obtain ⟨ca, fa⟩ := h.cell (k := 1 + a) (by omega)
  rw [dcell_reg _ _ _ _ _ ha] at ca
  change _ = some (Value.int .u32 (reg m a)) at ca
  have ha2 : (a : Int) < 12 := by omega
  obtain ⟨va0, va1⟩ := hI.reg a
  obtain ⟨cb, fb⟩ := h.cell (k := 1 + b) (by omega)
  rw [dcell_reg _ _ _ _ _ hb] at cb
  change _ = some (Value.int .u32 (reg m b)) at cb
  have hb2 : (b : Int) < 12 := by omega
  obtain ⟨vb0, vb1⟩ := hI.reg b
  have HC := Lib.hid (hT.tell 30 ⟨by decide, by decide⟩ (reg m a) (reg m b) (hI.reg a) (hI.reg b))
  have HR := Lib.hid (fun (W : World) (hW : Sd x E w W m back buf) => hW.setPlace q)
  have HS := Lib.hid (fun (W : World) (hW : Sd x E w W { m with place := q } back buf) => hW.setPlace (q + imm))
  have HH := Lib.hid h
  obtain ⟨q0, q1⟩ := hq
  obtain ⟨i0, i1⟩ := hi
  generalize E.holds 30 (reg m a) (reg m b) = t at *
  clear h hI _hE hmo hT
  generalize reg m a = va at *
  generalize reg m b = vb at *
  cases t
  all_goals
    go_enter Tryd.func75, Tryd.ntmps75
    go_wp2_with (go_at_call 121; refine (HF.out _).mono ?_; rintro e w1 ⟨rfl, rfl⟩)
    go_quiet (first | (go_at_call 122; refine (HC.out _).mono ?_; rintro e w1 ⟨rfl, rfl⟩; exact ⟨rfl, _, rfl⟩))
    go_wp2
    go_end0
    exact ⟨rfl, _, _, by repeat' first | exact HH.out | apply HS.out | apply HR.out | apply Sd.alloc | apply Sd.drewN | apply Sd.drew⟩
set_option maxHeartbeats 4000000 in
set_option maxRecDepth 100000 in
theorem gd31 (h : Sd x E w w' m back buf) (hI : Inv m) (_hE : EnvOk E) (a b : Nat) (ha : a < 12) (hb : b < 12) (imm : Int) (hi : -32768 ≤ imm ∧ imm ≤ 32767) (q : Int) (hq : 0 ≤ q ∧ q ≤ 65536) (hT : DHolds E.holds) :
    Calls Tryd.prog 75 #[.pointer (some ⟨x.bm, 0, none⟩), cV ⟨31, a, b, imm⟩, .int .i64 q] w' fun e w2 => e = .returned (.tuple #[]) ∧ ∃ back' buf', Sd x E w w2 (goesStep E m ⟨31, a, b, imm⟩ q) back' buf' := by
  have hmo : goesStep E m ⟨31, a, b, imm⟩ q = if E.holds 31 (reg m a) (reg m b) then { m with place := q + imm } else { m with place := q } := by simp [goesStep, followsP]
  rw [hmo]
  have HF := Lib.hid (fun (w : World) => (show Calls Tryd.prog 121 #[.int .i64 31] w fun e w' => e = .returned (.int .i64 (0)) ∧ w' = w from by have h5 := rfollows_any 31 w; rwa [show followsP 31 = 0 by decide] at h5))
  obtain ⟨c17, f17⟩ := h.cell (k := 17) (by decide)
  change _ = some (Value.int .i64 m.place) at c17
  have hlm := h.lm
  obtain ⟨ca, fa⟩ := h.cell (k := 1 + a) (by omega)
  rw [dcell_reg _ _ _ _ _ ha] at ca
  change _ = some (Value.int .u32 (reg m a)) at ca
  have ha2 : (a : Int) < 12 := by omega
  obtain ⟨va0, va1⟩ := hI.reg a
  obtain ⟨cb, fb⟩ := h.cell (k := 1 + b) (by omega)
  rw [dcell_reg _ _ _ _ _ hb] at cb
  change _ = some (Value.int .u32 (reg m b)) at cb
  have hb2 : (b : Int) < 12 := by omega
  obtain ⟨vb0, vb1⟩ := hI.reg b
  have HC := Lib.hid (hT.tell 31 ⟨by decide, by decide⟩ (reg m a) (reg m b) (hI.reg a) (hI.reg b))
  have HR := Lib.hid (fun (W : World) (hW : Sd x E w W m back buf) => hW.setPlace q)
  have HS := Lib.hid (fun (W : World) (hW : Sd x E w W { m with place := q } back buf) => hW.setPlace (q + imm))
  have HH := Lib.hid h
  obtain ⟨q0, q1⟩ := hq
  obtain ⟨i0, i1⟩ := hi
  generalize E.holds 31 (reg m a) (reg m b) = t at *
  clear h hI _hE hmo hT
  generalize reg m a = va at *
  generalize reg m b = vb at *
  cases t
  all_goals
    go_enter Tryd.func75, Tryd.ntmps75
    go_wp2_with (go_at_call 121; refine (HF.out _).mono ?_; rintro e w1 ⟨rfl, rfl⟩)
    go_quiet (first | (go_at_call 122; refine (HC.out _).mono ?_; rintro e w1 ⟨rfl, rfl⟩; exact ⟨rfl, _, rfl⟩))
    go_wp2
    go_end0
    exact ⟨rfl, _, _, by repeat' first | exact HH.out | apply HS.out | apply HR.out | apply Sd.alloc | apply Sd.drewN | apply Sd.drew⟩
set_option maxHeartbeats 4000000 in
set_option maxRecDepth 100000 in
theorem gd32 (h : Sd x E w w' m back buf) (hI : Inv m) (_hE : EnvOk E) (a b : Nat) (ha : a < 12) (hb : b < 12) (imm : Int) (hi : -32768 ≤ imm ∧ imm ≤ 32767) (q : Int) (hq : 0 ≤ q ∧ q ≤ 65536) (hT : DHolds E.holds) :
    Calls Tryd.prog 75 #[.pointer (some ⟨x.bm, 0, none⟩), cV ⟨32, a, b, imm⟩, .int .i64 q] w' fun e w2 => e = .returned (.tuple #[]) ∧ ∃ back' buf', Sd x E w w2 (goesStep E m ⟨32, a, b, imm⟩ q) back' buf' := by
  have hmo : goesStep E m ⟨32, a, b, imm⟩ q = if E.holds 32 (reg m a) (reg m b) then { m with place := q + imm } else { m with place := q } := by simp [goesStep, followsP]
  rw [hmo]
  have HF := Lib.hid (fun (w : World) => (show Calls Tryd.prog 121 #[.int .i64 32] w fun e w' => e = .returned (.int .i64 (0)) ∧ w' = w from by have h5 := rfollows_any 32 w; rwa [show followsP 32 = 0 by decide] at h5))
  obtain ⟨c17, f17⟩ := h.cell (k := 17) (by decide)
  change _ = some (Value.int .i64 m.place) at c17
  have hlm := h.lm
  obtain ⟨ca, fa⟩ := h.cell (k := 1 + a) (by omega)
  rw [dcell_reg _ _ _ _ _ ha] at ca
  change _ = some (Value.int .u32 (reg m a)) at ca
  have ha2 : (a : Int) < 12 := by omega
  obtain ⟨va0, va1⟩ := hI.reg a
  obtain ⟨cb, fb⟩ := h.cell (k := 1 + b) (by omega)
  rw [dcell_reg _ _ _ _ _ hb] at cb
  change _ = some (Value.int .u32 (reg m b)) at cb
  have hb2 : (b : Int) < 12 := by omega
  obtain ⟨vb0, vb1⟩ := hI.reg b
  have HC := Lib.hid (hT.tell 32 ⟨by decide, by decide⟩ (reg m a) (reg m b) (hI.reg a) (hI.reg b))
  have HR := Lib.hid (fun (W : World) (hW : Sd x E w W m back buf) => hW.setPlace q)
  have HS := Lib.hid (fun (W : World) (hW : Sd x E w W { m with place := q } back buf) => hW.setPlace (q + imm))
  have HH := Lib.hid h
  obtain ⟨q0, q1⟩ := hq
  obtain ⟨i0, i1⟩ := hi
  generalize E.holds 32 (reg m a) (reg m b) = t at *
  clear h hI _hE hmo hT
  generalize reg m a = va at *
  generalize reg m b = vb at *
  cases t
  all_goals
    go_enter Tryd.func75, Tryd.ntmps75
    go_wp2_with (go_at_call 121; refine (HF.out _).mono ?_; rintro e w1 ⟨rfl, rfl⟩)
    go_quiet (first | (go_at_call 122; refine (HC.out _).mono ?_; rintro e w1 ⟨rfl, rfl⟩; exact ⟨rfl, _, rfl⟩))
    go_wp2
    go_end0
    exact ⟨rfl, _, _, by repeat' first | exact HH.out | apply HS.out | apply HR.out | apply Sd.alloc | apply Sd.drewN | apply Sd.drew⟩
set_option maxHeartbeats 4000000 in
set_option maxRecDepth 100000 in
theorem gd33 (h : Sd x E w w' m back buf) (hI : Inv m) (_hE : EnvOk E) (a b : Nat) (ha : a < 12) (hb : b < 12) (imm : Int) (hi : -32768 ≤ imm ∧ imm ≤ 32767) (q : Int) (hq : 0 ≤ q ∧ q ≤ 65536) (hT : DHolds E.holds) :
    Calls Tryd.prog 75 #[.pointer (some ⟨x.bm, 0, none⟩), cV ⟨33, a, b, imm⟩, .int .i64 q] w' fun e w2 => e = .returned (.tuple #[]) ∧ ∃ back' buf', Sd x E w w2 (goesStep E m ⟨33, a, b, imm⟩ q) back' buf' := by
  have hmo : goesStep E m ⟨33, a, b, imm⟩ q = if E.holds 33 (reg m a) (reg m b) then { m with place := q + imm } else { m with place := q } := by simp [goesStep, followsP]
  rw [hmo]
  have HF := Lib.hid (fun (w : World) => (show Calls Tryd.prog 121 #[.int .i64 33] w fun e w' => e = .returned (.int .i64 (0)) ∧ w' = w from by have h5 := rfollows_any 33 w; rwa [show followsP 33 = 0 by decide] at h5))
  obtain ⟨c17, f17⟩ := h.cell (k := 17) (by decide)
  change _ = some (Value.int .i64 m.place) at c17
  have hlm := h.lm
  obtain ⟨ca, fa⟩ := h.cell (k := 1 + a) (by omega)
  rw [dcell_reg _ _ _ _ _ ha] at ca
  change _ = some (Value.int .u32 (reg m a)) at ca
  have ha2 : (a : Int) < 12 := by omega
  obtain ⟨va0, va1⟩ := hI.reg a
  obtain ⟨cb, fb⟩ := h.cell (k := 1 + b) (by omega)
  rw [dcell_reg _ _ _ _ _ hb] at cb
  change _ = some (Value.int .u32 (reg m b)) at cb
  have hb2 : (b : Int) < 12 := by omega
  obtain ⟨vb0, vb1⟩ := hI.reg b
  have HC := Lib.hid (hT.tell 33 ⟨by decide, by decide⟩ (reg m a) (reg m b) (hI.reg a) (hI.reg b))
  have HR := Lib.hid (fun (W : World) (hW : Sd x E w W m back buf) => hW.setPlace q)
  have HS := Lib.hid (fun (W : World) (hW : Sd x E w W { m with place := q } back buf) => hW.setPlace (q + imm))
  have HH := Lib.hid h
  obtain ⟨q0, q1⟩ := hq
  obtain ⟨i0, i1⟩ := hi
  generalize E.holds 33 (reg m a) (reg m b) = t at *
  clear h hI _hE hmo hT
  generalize reg m a = va at *
  generalize reg m b = vb at *
  cases t
  all_goals
    go_enter Tryd.func75, Tryd.ntmps75
    go_wp2_with (go_at_call 121; refine (HF.out _).mono ?_; rintro e w1 ⟨rfl, rfl⟩)
    go_quiet (first | (go_at_call 122; refine (HC.out _).mono ?_; rintro e w1 ⟨rfl, rfl⟩; exact ⟨rfl, _, rfl⟩))
    go_wp2
    go_end0
    exact ⟨rfl, _, _, by repeat' first | exact HH.out | apply HS.out | apply HR.out | apply Sd.alloc | apply Sd.drewN | apply Sd.drew⟩
set_option maxHeartbeats 4000000 in
set_option maxRecDepth 100000 in
theorem gd34 (h : Sd x E w w' m back buf) (hI : Inv m) (_hE : EnvOk E) (a b : Nat) (ha : a < 12) (hb : b < 12) (imm : Int) (hi : -32768 ≤ imm ∧ imm ≤ 32767) (q : Int) (hq : 0 ≤ q ∧ q ≤ 65536) (hT : DHolds E.holds) :
    Calls Tryd.prog 75 #[.pointer (some ⟨x.bm, 0, none⟩), cV ⟨34, a, b, imm⟩, .int .i64 q] w' fun e w2 => e = .returned (.tuple #[]) ∧ ∃ back' buf', Sd x E w w2 (goesStep E m ⟨34, a, b, imm⟩ q) back' buf' := by
  have hmo : goesStep E m ⟨34, a, b, imm⟩ q = if E.holds 34 (reg m a) (reg m b) then { m with place := q + imm } else { m with place := q } := by simp [goesStep, followsP]
  rw [hmo]
  have HF := Lib.hid (fun (w : World) => (show Calls Tryd.prog 121 #[.int .i64 34] w fun e w' => e = .returned (.int .i64 (0)) ∧ w' = w from by have h5 := rfollows_any 34 w; rwa [show followsP 34 = 0 by decide] at h5))
  obtain ⟨c17, f17⟩ := h.cell (k := 17) (by decide)
  change _ = some (Value.int .i64 m.place) at c17
  have hlm := h.lm
  obtain ⟨ca, fa⟩ := h.cell (k := 1 + a) (by omega)
  rw [dcell_reg _ _ _ _ _ ha] at ca
  change _ = some (Value.int .u32 (reg m a)) at ca
  have ha2 : (a : Int) < 12 := by omega
  obtain ⟨va0, va1⟩ := hI.reg a
  obtain ⟨cb, fb⟩ := h.cell (k := 1 + b) (by omega)
  rw [dcell_reg _ _ _ _ _ hb] at cb
  change _ = some (Value.int .u32 (reg m b)) at cb
  have hb2 : (b : Int) < 12 := by omega
  obtain ⟨vb0, vb1⟩ := hI.reg b
  have HC := Lib.hid (hT.tell 34 ⟨by decide, by decide⟩ (reg m a) (reg m b) (hI.reg a) (hI.reg b))
  have HR := Lib.hid (fun (W : World) (hW : Sd x E w W m back buf) => hW.setPlace q)
  have HS := Lib.hid (fun (W : World) (hW : Sd x E w W { m with place := q } back buf) => hW.setPlace (q + imm))
  have HH := Lib.hid h
  obtain ⟨q0, q1⟩ := hq
  obtain ⟨i0, i1⟩ := hi
  generalize E.holds 34 (reg m a) (reg m b) = t at *
  clear h hI _hE hmo hT
  generalize reg m a = va at *
  generalize reg m b = vb at *
  cases t
  all_goals
    go_enter Tryd.func75, Tryd.ntmps75
    go_wp2_with (go_at_call 121; refine (HF.out _).mono ?_; rintro e w1 ⟨rfl, rfl⟩)
    go_quiet (first | (go_at_call 122; refine (HC.out _).mono ?_; rintro e w1 ⟨rfl, rfl⟩; exact ⟨rfl, _, rfl⟩))
    go_wp2
    go_end0
    exact ⟨rfl, _, _, by repeat' first | exact HH.out | apply HS.out | apply HR.out | apply Sd.alloc | apply Sd.drewN | apply Sd.drew⟩
set_option maxHeartbeats 4000000 in
set_option maxRecDepth 100000 in
theorem gd35 (h : Sd x E w w' m back buf) (hI : Inv m) (_hE : EnvOk E) (a b : Nat) (ha : a < 12) (hb : b < 12) (imm : Int) (hi : -32768 ≤ imm ∧ imm ≤ 32767) (q : Int) (hq : 0 ≤ q ∧ q ≤ 65536) (hT : DHolds E.holds) :
    Calls Tryd.prog 75 #[.pointer (some ⟨x.bm, 0, none⟩), cV ⟨35, a, b, imm⟩, .int .i64 q] w' fun e w2 => e = .returned (.tuple #[]) ∧ ∃ back' buf', Sd x E w w2 (goesStep E m ⟨35, a, b, imm⟩ q) back' buf' := by
  have hmo : goesStep E m ⟨35, a, b, imm⟩ q = if E.holds 35 (reg m a) (reg m b) then { m with place := q + imm } else { m with place := q } := by simp [goesStep, followsP]
  rw [hmo]
  have HF := Lib.hid (fun (w : World) => (show Calls Tryd.prog 121 #[.int .i64 35] w fun e w' => e = .returned (.int .i64 (0)) ∧ w' = w from by have h5 := rfollows_any 35 w; rwa [show followsP 35 = 0 by decide] at h5))
  obtain ⟨c17, f17⟩ := h.cell (k := 17) (by decide)
  change _ = some (Value.int .i64 m.place) at c17
  have hlm := h.lm
  obtain ⟨ca, fa⟩ := h.cell (k := 1 + a) (by omega)
  rw [dcell_reg _ _ _ _ _ ha] at ca
  change _ = some (Value.int .u32 (reg m a)) at ca
  have ha2 : (a : Int) < 12 := by omega
  obtain ⟨va0, va1⟩ := hI.reg a
  obtain ⟨cb, fb⟩ := h.cell (k := 1 + b) (by omega)
  rw [dcell_reg _ _ _ _ _ hb] at cb
  change _ = some (Value.int .u32 (reg m b)) at cb
  have hb2 : (b : Int) < 12 := by omega
  obtain ⟨vb0, vb1⟩ := hI.reg b
  have HC := Lib.hid (hT.tell 35 ⟨by decide, by decide⟩ (reg m a) (reg m b) (hI.reg a) (hI.reg b))
  have HR := Lib.hid (fun (W : World) (hW : Sd x E w W m back buf) => hW.setPlace q)
  have HS := Lib.hid (fun (W : World) (hW : Sd x E w W { m with place := q } back buf) => hW.setPlace (q + imm))
  have HH := Lib.hid h
  obtain ⟨q0, q1⟩ := hq
  obtain ⟨i0, i1⟩ := hi
  generalize E.holds 35 (reg m a) (reg m b) = t at *
  clear h hI _hE hmo hT
  generalize reg m a = va at *
  generalize reg m b = vb at *
  cases t
  all_goals
    go_enter Tryd.func75, Tryd.ntmps75
    go_wp2_with (go_at_call 121; refine (HF.out _).mono ?_; rintro e w1 ⟨rfl, rfl⟩)
    go_quiet (first | (go_at_call 122; refine (HC.out _).mono ?_; rintro e w1 ⟨rfl, rfl⟩; exact ⟨rfl, _, rfl⟩))
    go_wp2
    go_end0
    exact ⟨rfl, _, _, by repeat' first | exact HH.out | apply HS.out | apply HR.out | apply Sd.alloc | apply Sd.drewN | apply Sd.drew⟩
set_option maxHeartbeats 4000000 in
set_option maxRecDepth 100000 in
theorem gd36 (h : Sd x E w w' m back buf) (hI : Inv m) (_hE : EnvOk E) (a b : Nat) (ha : a < 12) (hb : b < 12) (imm : Int) (hi : -32768 ≤ imm ∧ imm ≤ 32767) (q : Int) (hq : 0 ≤ q ∧ q ≤ 65536) (hT : DHolds E.holds) :
    Calls Tryd.prog 75 #[.pointer (some ⟨x.bm, 0, none⟩), cV ⟨36, a, b, imm⟩, .int .i64 q] w' fun e w2 => e = .returned (.tuple #[]) ∧ ∃ back' buf', Sd x E w w2 (goesStep E m ⟨36, a, b, imm⟩ q) back' buf' := by
  have hmo : goesStep E m ⟨36, a, b, imm⟩ q = if E.holds 36 (reg m a) (reg m b) then { m with place := q + imm } else { m with place := q } := by simp [goesStep, followsP]
  rw [hmo]
  have HF := Lib.hid (fun (w : World) => (show Calls Tryd.prog 121 #[.int .i64 36] w fun e w' => e = .returned (.int .i64 (0)) ∧ w' = w from by have h5 := rfollows_any 36 w; rwa [show followsP 36 = 0 by decide] at h5))
  obtain ⟨c17, f17⟩ := h.cell (k := 17) (by decide)
  change _ = some (Value.int .i64 m.place) at c17
  have hlm := h.lm
  obtain ⟨ca, fa⟩ := h.cell (k := 1 + a) (by omega)
  rw [dcell_reg _ _ _ _ _ ha] at ca
  change _ = some (Value.int .u32 (reg m a)) at ca
  have ha2 : (a : Int) < 12 := by omega
  obtain ⟨va0, va1⟩ := hI.reg a
  obtain ⟨cb, fb⟩ := h.cell (k := 1 + b) (by omega)
  rw [dcell_reg _ _ _ _ _ hb] at cb
  change _ = some (Value.int .u32 (reg m b)) at cb
  have hb2 : (b : Int) < 12 := by omega
  obtain ⟨vb0, vb1⟩ := hI.reg b
  have HC := Lib.hid (hT.tell 36 ⟨by decide, by decide⟩ (reg m a) (reg m b) (hI.reg a) (hI.reg b))
  have HR := Lib.hid (fun (W : World) (hW : Sd x E w W m back buf) => hW.setPlace q)
  have HS := Lib.hid (fun (W : World) (hW : Sd x E w W { m with place := q } back buf) => hW.setPlace (q + imm))
  have HH := Lib.hid h
  obtain ⟨q0, q1⟩ := hq
  obtain ⟨i0, i1⟩ := hi
  generalize E.holds 36 (reg m a) (reg m b) = t at *
  clear h hI _hE hmo hT
  generalize reg m a = va at *
  generalize reg m b = vb at *
  cases t
  all_goals
    go_enter Tryd.func75, Tryd.ntmps75
    go_wp2_with (go_at_call 121; refine (HF.out _).mono ?_; rintro e w1 ⟨rfl, rfl⟩)
    go_quiet (first | (go_at_call 122; refine (HC.out _).mono ?_; rintro e w1 ⟨rfl, rfl⟩; exact ⟨rfl, _, rfl⟩))
    go_wp2
    go_end0
    exact ⟨rfl, _, _, by repeat' first | exact HH.out | apply HS.out | apply HR.out | apply Sd.alloc | apply Sd.drewN | apply Sd.drew⟩
set_option maxHeartbeats 4000000 in
set_option maxRecDepth 100000 in
theorem gd37 (h : Sd x E w w' m back buf) (hI : Inv m) (_hE : EnvOk E) (a b : Nat) (ha : a < 12) (hb : b < 12) (imm : Int) (hi : -32768 ≤ imm ∧ imm ≤ 32767) (q : Int) (hq : 0 ≤ q ∧ q ≤ 65536) (hT : DHolds E.holds) :
    Calls Tryd.prog 75 #[.pointer (some ⟨x.bm, 0, none⟩), cV ⟨37, a, b, imm⟩, .int .i64 q] w' fun e w2 => e = .returned (.tuple #[]) ∧ ∃ back' buf', Sd x E w w2 (goesStep E m ⟨37, a, b, imm⟩ q) back' buf' := by
  have hmo : goesStep E m ⟨37, a, b, imm⟩ q = if E.holds 37 (reg m a) (reg m b) then { m with place := q + imm } else { m with place := q } := by simp [goesStep, followsP]
  rw [hmo]
  have HF := Lib.hid (fun (w : World) => (show Calls Tryd.prog 121 #[.int .i64 37] w fun e w' => e = .returned (.int .i64 (0)) ∧ w' = w from by have h5 := rfollows_any 37 w; rwa [show followsP 37 = 0 by decide] at h5))
  obtain ⟨c17, f17⟩ := h.cell (k := 17) (by decide)
  change _ = some (Value.int .i64 m.place) at c17
  have hlm := h.lm
  obtain ⟨ca, fa⟩ := h.cell (k := 1 + a) (by omega)
  rw [dcell_reg _ _ _ _ _ ha] at ca
  change _ = some (Value.int .u32 (reg m a)) at ca
  have ha2 : (a : Int) < 12 := by omega
  obtain ⟨va0, va1⟩ := hI.reg a
  obtain ⟨cb, fb⟩ := h.cell (k := 1 + b) (by omega)
  rw [dcell_reg _ _ _ _ _ hb] at cb
  change _ = some (Value.int .u32 (reg m b)) at cb
  have hb2 : (b : Int) < 12 := by omega
  obtain ⟨vb0, vb1⟩ := hI.reg b
  have HC := Lib.hid (hT.tell 37 ⟨by decide, by decide⟩ (reg m a) (reg m b) (hI.reg a) (hI.reg b))
  have HR := Lib.hid (fun (W : World) (hW : Sd x E w W m back buf) => hW.setPlace q)
  have HS := Lib.hid (fun (W : World) (hW : Sd x E w W { m with place := q } back buf) => hW.setPlace (q + imm))
  have HH := Lib.hid h
  obtain ⟨q0, q1⟩ := hq
  obtain ⟨i0, i1⟩ := hi
  generalize E.holds 37 (reg m a) (reg m b) = t at *
  clear h hI _hE hmo hT
  generalize reg m a = va at *
  generalize reg m b = vb at *
  cases t
  all_goals
    go_enter Tryd.func75, Tryd.ntmps75
    go_wp2_with (go_at_call 121; refine (HF.out _).mono ?_; rintro e w1 ⟨rfl, rfl⟩)
    go_quiet (first | (go_at_call 122; refine (HC.out _).mono ?_; rintro e w1 ⟨rfl, rfl⟩; exact ⟨rfl, _, rfl⟩))
    go_wp2
    go_end0
    exact ⟨rfl, _, _, by repeat' first | exact HH.out | apply HS.out | apply HR.out | apply Sd.alloc | apply Sd.drewN | apply Sd.drew⟩
set_option maxHeartbeats 4000000 in
set_option maxRecDepth 100000 in
theorem gd38 (h : Sd x E w w' m back buf) (hI : Inv m) (_hE : EnvOk E) (a b : Nat) (ha : a < 12) (hb : b < 12) (imm : Int) (hi : -32768 ≤ imm ∧ imm ≤ 32767) (q : Int) (hq : 0 ≤ q ∧ q ≤ 65536) (hT : DHolds E.holds) :
    Calls Tryd.prog 75 #[.pointer (some ⟨x.bm, 0, none⟩), cV ⟨38, a, b, imm⟩, .int .i64 q] w' fun e w2 => e = .returned (.tuple #[]) ∧ ∃ back' buf', Sd x E w w2 (goesStep E m ⟨38, a, b, imm⟩ q) back' buf' := by
  have hmo : goesStep E m ⟨38, a, b, imm⟩ q = if E.holds 38 (reg m a) (reg m b) then { m with place := q + imm } else { m with place := q } := by simp [goesStep, followsP]
  rw [hmo]
  have HF := Lib.hid (fun (w : World) => (show Calls Tryd.prog 121 #[.int .i64 38] w fun e w' => e = .returned (.int .i64 (0)) ∧ w' = w from by have h5 := rfollows_any 38 w; rwa [show followsP 38 = 0 by decide] at h5))
  obtain ⟨c17, f17⟩ := h.cell (k := 17) (by decide)
  change _ = some (Value.int .i64 m.place) at c17
  have hlm := h.lm
  obtain ⟨ca, fa⟩ := h.cell (k := 1 + a) (by omega)
  rw [dcell_reg _ _ _ _ _ ha] at ca
  change _ = some (Value.int .u32 (reg m a)) at ca
  have ha2 : (a : Int) < 12 := by omega
  obtain ⟨va0, va1⟩ := hI.reg a
  obtain ⟨cb, fb⟩ := h.cell (k := 1 + b) (by omega)
  rw [dcell_reg _ _ _ _ _ hb] at cb
  change _ = some (Value.int .u32 (reg m b)) at cb
  have hb2 : (b : Int) < 12 := by omega
  obtain ⟨vb0, vb1⟩ := hI.reg b
  have HC := Lib.hid (hT.tell 38 ⟨by decide, by decide⟩ (reg m a) (reg m b) (hI.reg a) (hI.reg b))
  have HR := Lib.hid (fun (W : World) (hW : Sd x E w W m back buf) => hW.setPlace q)
  have HS := Lib.hid (fun (W : World) (hW : Sd x E w W { m with place := q } back buf) => hW.setPlace (q + imm))
  have HH := Lib.hid h
  obtain ⟨q0, q1⟩ := hq
  obtain ⟨i0, i1⟩ := hi
  generalize E.holds 38 (reg m a) (reg m b) = t at *
  clear h hI _hE hmo hT
  generalize reg m a = va at *
  generalize reg m b = vb at *
  cases t
  all_goals
    go_enter Tryd.func75, Tryd.ntmps75
    go_wp2_with (go_at_call 121; refine (HF.out _).mono ?_; rintro e w1 ⟨rfl, rfl⟩)
    go_quiet (first | (go_at_call 122; refine (HC.out _).mono ?_; rintro e w1 ⟨rfl, rfl⟩; exact ⟨rfl, _, rfl⟩))
    go_wp2
    go_end0
    exact ⟨rfl, _, _, by repeat' first | exact HH.out | apply HS.out | apply HR.out | apply Sd.alloc | apply Sd.drewN | apply Sd.drew⟩
set_option maxHeartbeats 4000000 in
set_option maxRecDepth 100000 in
theorem gd39 (h : Sd x E w w' m back buf) (hI : Inv m) (_hE : EnvOk E) (a b : Nat) (ha : a < 12) (hb : b < 12) (imm : Int) (hi : -32768 ≤ imm ∧ imm ≤ 32767) (q : Int) (hq : 0 ≤ q ∧ q ≤ 65536) (hT : DHolds E.holds) :
    Calls Tryd.prog 75 #[.pointer (some ⟨x.bm, 0, none⟩), cV ⟨39, a, b, imm⟩, .int .i64 q] w' fun e w2 => e = .returned (.tuple #[]) ∧ ∃ back' buf', Sd x E w w2 (goesStep E m ⟨39, a, b, imm⟩ q) back' buf' := by
  have hmo : goesStep E m ⟨39, a, b, imm⟩ q = if E.holds 39 (reg m a) (reg m b) then { m with place := q + imm } else { m with place := q } := by simp [goesStep, followsP]
  rw [hmo]
  have HF := Lib.hid (fun (w : World) => (show Calls Tryd.prog 121 #[.int .i64 39] w fun e w' => e = .returned (.int .i64 (0)) ∧ w' = w from by have h5 := rfollows_any 39 w; rwa [show followsP 39 = 0 by decide] at h5))
  obtain ⟨c17, f17⟩ := h.cell (k := 17) (by decide)
  change _ = some (Value.int .i64 m.place) at c17
  have hlm := h.lm
  obtain ⟨ca, fa⟩ := h.cell (k := 1 + a) (by omega)
  rw [dcell_reg _ _ _ _ _ ha] at ca
  change _ = some (Value.int .u32 (reg m a)) at ca
  have ha2 : (a : Int) < 12 := by omega
  obtain ⟨va0, va1⟩ := hI.reg a
  obtain ⟨cb, fb⟩ := h.cell (k := 1 + b) (by omega)
  rw [dcell_reg _ _ _ _ _ hb] at cb
  change _ = some (Value.int .u32 (reg m b)) at cb
  have hb2 : (b : Int) < 12 := by omega
  obtain ⟨vb0, vb1⟩ := hI.reg b
  have HC := Lib.hid (hT.tell 39 ⟨by decide, by decide⟩ (reg m a) (reg m b) (hI.reg a) (hI.reg b))
  have HR := Lib.hid (fun (W : World) (hW : Sd x E w W m back buf) => hW.setPlace q)
  have HS := Lib.hid (fun (W : World) (hW : Sd x E w W { m with place := q } back buf) => hW.setPlace (q + imm))
  have HH := Lib.hid h
  obtain ⟨q0, q1⟩ := hq
  obtain ⟨i0, i1⟩ := hi
  generalize E.holds 39 (reg m a) (reg m b) = t at *
  clear h hI _hE hmo hT
  generalize reg m a = va at *
  generalize reg m b = vb at *
  cases t
  all_goals
    go_enter Tryd.func75, Tryd.ntmps75
    go_wp2_with (go_at_call 121; refine (HF.out _).mono ?_; rintro e w1 ⟨rfl, rfl⟩)
    go_quiet (first | (go_at_call 122; refine (HC.out _).mono ?_; rintro e w1 ⟨rfl, rfl⟩; exact ⟨rfl, _, rfl⟩))
    go_wp2
    go_end0
    exact ⟨rfl, _, _, by repeat' first | exact HH.out | apply HS.out | apply HR.out | apply Sd.alloc | apply Sd.drewN | apply Sd.drew⟩
end
end Go.Proofs.YtopceggmdieppaaDoor.Emu
