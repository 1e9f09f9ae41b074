/- The instructions: numbers and words moved. No condition. -/
import Derived.Test.YtjbiikbmbacjkaaDoorBo
namespace Go.Proofs.YtjbiikbmbacjkaaDoor.Emu
open Go.RowKit Go.Proofs.YtjbiikbmbacjkaaDoor.Enc Go.Proofs.YtjbiikbmbacjkaaDoor.Graph

section
variable {x : Fz} {E : Env} {wk : Nat → Value} {w w' w1 w2 : World} {m : M} {ad buf back : Value} {pg : Nat → Option Nat}
set_option maxHeartbeats 4000000 in
set_option maxRecDepth 100000 in
theorem do1 (h : St x E wk w w' m ad buf back pg) (h0 : m.stop = 0) (hI : Inv m) (a b : Nat) (ha : a < 12) (hb : b < 12) (imm : Int) (hi : -32768 ≤ imm ∧ imm ≤ 32767) :
    Calls Tryd.prog 37 #[.pointer (some ⟨x.bm, 0, none⟩), iV ⟨1, a, b, imm⟩] w' (DoPost x E wk w m (doStep E m ⟨1, a, b, imm⟩) False) := by
  have hmo : doStep E m ⟨1, a, b, imm⟩ = setR m a (u32 imm) := by simp [doStep, plainStep]
  rw [hmo]
  have HS := Lib.hid (fun (W : World) (hW : St x E wk w W m ad buf back pg) => hW.setR ha hI.rl (u32 imm))
  obtain ⟨ca, fa⟩ := h.cell (k := 2 + a) (by omega)
  rw [cellOf_reg _ ha] at ca
  change _ = some (Value.int .u32 (reg m a)) at ca
  obtain ⟨cb, fb⟩ := h.cell (k := 2 + b) (by omega)
  rw [cellOf_reg _ hb] at cb
  change _ = some (Value.int .u32 (reg m b)) at cb
  have hlm := h.lm
  have ha2 : (a : Int) < 12 := by omega
  have hb2 : (b : Int) < 12 := by omega
  obtain ⟨va0, va1⟩ := hI.reg a
  obtain ⟨vb0, vb1⟩ := hI.reg b
  obtain ⟨i0, i1⟩ := hi
  have HP := Lib.hid (fun (e : Ending) (w2 : World) (he : e = .returned (.tuple #[]) ∧ ∃ ad' buf' pg', St x E wk w w2 (setR m a (u32 imm)) ad' buf' back pg') => (he.2.elim fun _ h2 => h2.elim fun _ h2 => h2.elim fun _ h2 => DoPost.ok (m := m) (T := False) h0 he.1 h2 rfl : DoPost x E wk w m (setR m a (u32 imm)) False e w2))
  have HH := Lib.hid h
  clear h hmo hI
  generalize reg m a = va at *
  generalize reg m b = vb at *
  refine Calls.mono ?_ HP.out
  go_enter Tryd.func37, Tryd.ntmps37
  go_wp2
  go_quiet (fail)
  go_wp2
  go_quiet (fail)
  go_wp2
  go_end0
  exact ⟨rfl, _, _, _, HS.out _ ((HH.out.alloc _).drewN _)⟩
set_option maxHeartbeats 4000000 in
set_option maxRecDepth 100000 in
theorem do3 (h : St x E wk w w' m ad buf back pg) (h0 : m.stop = 0) (hI : Inv m) (a b : Nat) (ha : a < 12) (hb : b < 12) (imm : Int) (hi : -32768 ≤ imm ∧ imm ≤ 32767) :
    Calls Tryd.prog 37 #[.pointer (some ⟨x.bm, 0, none⟩), iV ⟨3, a, b, imm⟩] w' (DoPost x E wk w m (doStep E m ⟨3, a, b, imm⟩) False) := by
  have hmo : doStep E m ⟨3, a, b, imm⟩ = setR m a (reg m b) := by simp [doStep, plainStep]
  rw [hmo]
  have HS := Lib.hid (fun (W : World) (hW : St x E wk w W m ad buf back pg) => hW.setR ha hI.rl (reg m b))
  obtain ⟨ca, fa⟩ := h.cell (k := 2 + a) (by omega)
  rw [cellOf_reg _ ha] at ca
  change _ = some (Value.int .u32 (reg m a)) at ca
  obtain ⟨cb, fb⟩ := h.cell (k := 2 + b) (by omega)
  rw [cellOf_reg _ hb] at cb
  change _ = some (Value.int .u32 (reg m b)) at cb
  have hlm := h.lm
  have ha2 : (a : Int) < 12 := by omega
  have hb2 : (b : Int) < 12 := by omega
  obtain ⟨va0, va1⟩ := hI.reg a
  obtain ⟨vb0, vb1⟩ := hI.reg b
  obtain ⟨i0, i1⟩ := hi
  have HP := Lib.hid (fun (e : Ending) (w2 : World) (he : e = .returned (.tuple #[]) ∧ ∃ ad' buf' pg', St x E wk w w2 (setR m a (reg m b)) ad' buf' back pg') => (he.2.elim fun _ h2 => h2.elim fun _ h2 => h2.elim fun _ h2 => DoPost.ok (m := m) (T := False) h0 he.1 h2 rfl : DoPost x E wk w m (setR m a (reg m b)) False e w2))
  have HH := Lib.hid h
  clear h hmo hI
  generalize reg m a = va at *
  generalize reg m b = vb at *
  refine Calls.mono ?_ HP.out
  go_enter Tryd.func37, Tryd.ntmps37
  go_wp2
  go_quiet (fail)
  go_wp2
  go_quiet (fail)
  go_wp2
  go_end0
  exact ⟨rfl, _, _, _, HS.out _ ((HH.out.alloc _).drewN _)⟩
set_option maxHeartbeats 4000000 in
set_option maxRecDepth 100000 in
theorem do24 (h : St x E wk w w' m ad buf back pg) (h0 : m.stop = 0) (hI : Inv m) (a b : Nat) (ha : a < 12) (hb : b < 12) (imm : Int) (hi : -32768 ≤ imm ∧ imm ≤ 32767) :
    Calls Tryd.prog 37 #[.pointer (some ⟨x.bm, 0, none⟩), iV ⟨24, a, b, imm⟩] w' (DoPost x E wk w m (doStep E m ⟨24, a, b, imm⟩) False) := by
  have hmo : doStep E m ⟨24, a, b, imm⟩ = setR m a (u32 (-(reg m b))) := by simp [doStep, plainStep]
  rw [hmo]
  have HS := Lib.hid (fun (W : World) (hW : St x E wk w W m ad buf back pg) => hW.setR ha hI.rl (u32 (-(reg m b))))
  obtain ⟨ca, fa⟩ := h.cell (k := 2 + a) (by omega)
  rw [cellOf_reg _ ha] at ca
  change _ = some (Value.int .u32 (reg m a)) at ca
  obtain ⟨cb, fb⟩ := h.cell (k := 2 + b) (by omega)
  rw [cellOf_reg _ hb] at cb
  change _ = some (Value.int .u32 (reg m b)) at cb
  have hlm := h.lm
  have ha2 : (a : Int) < 12 := by omega
  have hb2 : (b : Int) < 12 := by omega
  obtain ⟨va0, va1⟩ := hI.reg a
  obtain ⟨vb0, vb1⟩ := hI.reg b
  obtain ⟨i0, i1⟩ := hi
  have HP := Lib.hid (fun (e : Ending) (w2 : World) (he : e = .returned (.tuple #[]) ∧ ∃ ad' buf' pg', St x E wk w w2 (setR m a (u32 (-(reg m b)))) ad' buf' back pg') => (he.2.elim fun _ h2 => h2.elim fun _ h2 => h2.elim fun _ h2 => DoPost.ok (m := m) (T := False) h0 he.1 h2 rfl : DoPost x E wk w m (setR m a (u32 (-(reg m b)))) False e w2))
  have HH := Lib.hid h
  clear h hmo hI
  generalize reg m a = va at *
  generalize reg m b = vb at *
  refine Calls.mono ?_ HP.out
  go_enter Tryd.func37, Tryd.ntmps37
  go_wp2
  go_quiet (fail)
  go_wp2
  go_quiet (fail)
  go_wp2
  go_end0
  exact ⟨rfl, _, _, _, HS.out _ ((HH.out.alloc _).drewN _)⟩
set_option maxHeartbeats 4000000 in
set_option maxRecDepth 100000 in
theorem do25 (h : St x E wk w w' m ad buf back pg) (h0 : m.stop = 0) (hI : Inv m) (a b : Nat) (ha : a < 12) (hb : b < 12) (imm : Int) (hi : -32768 ≤ imm ∧ imm ≤ 32767) :
    Calls Tryd.prog 37 #[.pointer (some ⟨x.bm, 0, none⟩), iV ⟨25, a, b, imm⟩] w' (DoPost x E wk w m (doStep E m ⟨25, a, b, imm⟩) False) := by
  have hmo : doStep E m ⟨25, a, b, imm⟩ = setR m a (4294967295 - reg m b) := by simp [doStep, plainStep]
  rw [hmo]
  have HS := Lib.hid (fun (W : World) (hW : St x E wk w W m ad buf back pg) => hW.setR ha hI.rl (4294967295 - reg m b))
  obtain ⟨ca, fa⟩ := h.cell (k := 2 + a) (by omega)
  rw [cellOf_reg _ ha] at ca
  change _ = some (Value.int .u32 (reg m a)) at ca
  obtain ⟨cb, fb⟩ := h.cell (k := 2 + b) (by omega)
  rw [cellOf_reg _ hb] at cb
  change _ = some (Value.int .u32 (reg m b)) at cb
  have hlm := h.lm
  have ha2 : (a : Int) < 12 := by omega
  have hb2 : (b : Int) < 12 := by omega
  obtain ⟨va0, va1⟩ := hI.reg a
  obtain ⟨vb0, vb1⟩ := hI.reg b
  obtain ⟨i0, i1⟩ := hi
  have HP := Lib.hid (fun (e : Ending) (w2 : World) (he : e = .returned (.tuple #[]) ∧ ∃ ad' buf' pg', St x E wk w w2 (setR m a (4294967295 - reg m b)) ad' buf' back pg') => (he.2.elim fun _ h2 => h2.elim fun _ h2 => h2.elim fun _ h2 => DoPost.ok (m := m) (T := False) h0 he.1 h2 rfl : DoPost x E wk w m (setR m a (4294967295 - reg m b)) False e w2))
  have HH := Lib.hid h
  clear h hmo hI
  generalize reg m a = va at *
  generalize reg m b = vb at *
  refine Calls.mono ?_ HP.out
  go_enter Tryd.func37, Tryd.ntmps37
  go_wp2
  go_quiet (fail)
  go_wp2
  go_quiet (fail)
  go_wp2
  go_end0
  rw [not32 vb0 vb1]
  exact ⟨rfl, _, _, _, HS.out _ ((HH.out.alloc _).drewN _)⟩
set_option maxHeartbeats 4000000 in
set_option maxRecDepth 100000 in
theorem do26 (h : St x E wk w w' m ad buf back pg) (h0 : m.stop = 0) (hI : Inv m) (a b : Nat) (ha : a < 12) (hb : b < 12) (imm : Int) (hi : -32768 ≤ imm ∧ imm ≤ 32767) :
    Calls Tryd.prog 37 #[.pointer (some ⟨x.bm, 0, none⟩), iV ⟨26, a, b, imm⟩] w' (DoPost x E wk w m (doStep E m ⟨26, a, b, imm⟩) False) := by
  have hmo : doStep E m ⟨26, a, b, imm⟩ = setR m a (reg m b % 256) := by simp [doStep, plainStep]
  rw [hmo]
  have HS := Lib.hid (fun (W : World) (hW : St x E wk w W m ad buf back pg) => hW.setR ha hI.rl (reg m b % 256))
  obtain ⟨ca, fa⟩ := h.cell (k := 2 + a) (by omega)
  rw [cellOf_reg _ ha] at ca
  change _ = some (Value.int .u32 (reg m a)) at ca
  obtain ⟨cb, fb⟩ := h.cell (k := 2 + b) (by omega)
  rw [cellOf_reg _ hb] at cb
  change _ = some (Value.int .u32 (reg m b)) at cb
  have hlm := h.lm
  have ha2 : (a : Int) < 12 := by omega
  have hb2 : (b : Int) < 12 := by omega
  obtain ⟨va0, va1⟩ := hI.reg a
  obtain ⟨vb0, vb1⟩ := hI.reg b
  obtain ⟨i0, i1⟩ := hi
  have HP := Lib.hid (fun (e : Ending) (w2 : World) (he : e = .returned (.tuple #[]) ∧ ∃ ad' buf' pg', St x E wk w w2 (setR m a (reg m b % 256)) ad' buf' back pg') => (he.2.elim fun _ h2 => h2.elim fun _ h2 => h2.elim fun _ h2 => DoPost.ok (m := m) (T := False) h0 he.1 h2 rfl : DoPost x E wk w m (setR m a (reg m b % 256)) False e w2))
  have HH := Lib.hid h
  clear h hmo hI
  generalize reg m a = va at *
  generalize reg m b = vb at *
  refine Calls.mono ?_ HP.out
  go_enter Tryd.func37, Tryd.ntmps37
  go_wp2
  go_quiet (fail)
  go_wp2
  go_quiet (fail)
  go_wp2
  go_end0
  exact ⟨rfl, _, _, _, HS.out _ ((HH.out.alloc _).drewN _)⟩
set_option maxHeartbeats 4000000 in
set_option maxRecDepth 100000 in
theorem do4 (h : St x E wk w w' m ad buf back pg) (h0 : m.stop = 0) (hI : Inv m) (a b : Nat) (ha : a < 12) (hb : b < 12) (imm : Int) (hi : -32768 ≤ imm ∧ imm ≤ 32767) :
    Calls Tryd.prog 37 #[.pointer (some ⟨x.bm, 0, none⟩), iV ⟨4, a, b, imm⟩] w' (DoPost x E wk w m (doStep E m ⟨4, a, b, imm⟩) False) := by
  have hmo : doStep E m ⟨4, a, b, imm⟩ = setR m a (u32 (reg m b + imm)) := by simp [doStep, plainStep]
  rw [hmo]
  have HS := Lib.hid (fun (W : World) (hW : St x E wk w W m ad buf back pg) => hW.setR ha hI.rl (u32 (reg m b + imm)))
  obtain ⟨ca, fa⟩ := h.cell (k := 2 + a) (by omega)
  rw [cellOf_reg _ ha] at ca
  change _ = some (Value.int .u32 (reg m a)) at ca
  obtain ⟨cb, fb⟩ := h.cell (k := 2 + b) (by omega)
  rw [cellOf_reg _ hb] at cb
  change _ = some (Value.int .u32 (reg m b)) at cb
  have hlm := h.lm
  have ha2 : (a : Int) < 12 := by omega
  have hb2 : (b : Int) < 12 := by omega
  obtain ⟨va0, va1⟩ := hI.reg a
  obtain ⟨vb0, vb1⟩ := hI.reg b
  obtain ⟨i0, i1⟩ := hi
  have HP := Lib.hid (fun (e : Ending) (w2 : World) (he : e = .returned (.tuple #[]) ∧ ∃ ad' buf' pg', St x E wk w w2 (setR m a (u32 (reg m b + imm))) ad' buf' back pg') => (he.2.elim fun _ h2 => h2.elim fun _ h2 => h2.elim fun _ h2 => DoPost.ok (m := m) (T := False) h0 he.1 h2 rfl : DoPost x E wk w m (setR m a (u32 (reg m b + imm))) False e w2))
  have HH := Lib.hid h
  clear h hmo hI
  generalize reg m a = va at *
  generalize reg m b = vb at *
  refine Calls.mono ?_ HP.out
  go_enter Tryd.func37, Tryd.ntmps37
  go_wp2
  go_quiet (fail)
  go_wp2
  go_quiet (fail)
  go_wp2
  go_end0
  exact ⟨rfl, _, _, _, HS.out _ ((HH.out.alloc _).drewN _)⟩
end
end Go.Proofs.YtjbiikbmbacjkaaDoor.Emu
