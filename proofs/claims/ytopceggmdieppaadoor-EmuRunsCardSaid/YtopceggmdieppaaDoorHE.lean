/- The instructions: numbers and words moved. No condition. -/
import Derived.Test.YtopceggmdieppaaDoorHB
namespace Go.Proofs.YtopceggmdieppaaDoor.Emu
open Go.RowKit Go.Proofs.YtopceggmdieppaaDoor.Enc Go.Proofs.YtopceggmdieppaaDoor.Graph

section
variable {x : Fz} {E : Env} {wk : Nat → Value} {w w' w1 w2 : World} {m : M} {ad buf back : Value} {pg : Nat → Option Nat}
set_option maxHeartbeats 4000000 in
set_option maxRecDepth 100000 in
theorem do1 (h : St x E wk w w' m ad buf back pg) (h0 : m.stop = 0) (hI : Inv m) (a b : Nat) (ha : a < 12) (hb : b < 12) (imm : Int) (hi : -32768 ≤ imm ∧ imm ≤ 32767) :
    Calls Tryd.prog 70 #[.pointer (some ⟨x.bm, 0, none⟩), iV ⟨1, a, b, imm⟩] w' (DoPost x E wk w m (doStep E m ⟨1, a, b, imm⟩) False) := by
  have hmo : doStep E m ⟨1, a, b, imm⟩ = setR m a (u32 imm) := by simp [doStep, plainStep]
  rw [hmo]
  have HS := Lib.hid (fun (W : World) (hW : St x E wk w W m ad buf back pg) => hW.setR ha hI.rl (u32 imm))
  obtain ⟨ca, fa⟩ := h.cell (k := 2 + a) (by omega)
  rw [cellOf_reg _ ha] at ca
  change _ = some (Value.int .u32 (reg m a)) at ca
  obtain ⟨cb, fb⟩ := h.cell (k := 2 + b) (by omega)
  rw [cellOf_reg _ hb] at cb
  change _ = some (Value.int .u32 (reg m b)) at cb
  have hlm := h.lm
  have ha2 : (a : Int) < 12 := by omega
  have hb2 : (b : Int) < 12 := by omega
  obtain ⟨va0, va1⟩ := hI.reg a
  obtain ⟨vb0, vb1⟩ := hI.reg b
  obtain ⟨i0, i1⟩ := hi
  have HP := Lib.hid (fun (e : Ending) (w2 : World) (he : e = .returned (.tuple #[]) ∧ ∃ ad' buf' pg', St x E wk w w2 (setR m a (u32 imm)) ad' buf' back pg') => (he.2.elim fun _ h2 => h2.elim fun _ h2 => h2.elim fun _ h2 => DoPost.ok (m := m) (T := False) h0 he.1 h2 rfl : DoPost x E wk w m (setR m a (u32 imm)) False e w2))
  have HH := Lib.hid h
  clear h hmo hI
  generalize reg m a = va at *
  generalize reg m b = vb at *
  refine Calls.mono ?_ HP.out
  go_enter Tryd.func70, Tryd.ntmps70
  go_wp2
  go_quiet (fail)
  go_wp2
  go_quiet (fail)
  go_wp2
  go_end0
  exact ⟨rfl, _, _, _, HS.out _ ((HH.out.alloc _).drewN _)⟩
set_option maxHeartbeats 4000000 in
set_option maxRecDepth 100000 in
theorem do3 (h : St x E wk w w' m ad buf back pg) (h0 : m.stop = 0) (hI : Inv m) (a b : Nat) (ha : a < 12) (hb : b < 12) (imm : Int) (hi : -32768 ≤ imm ∧ imm ≤ 32767) :
    Calls Tryd.prog 70 #[.pointer (some ⟨x.bm, 0, none⟩), iV ⟨3, a, b, imm⟩] w' (DoPost x E wk w m (doStep E m ⟨3, a, b, imm⟩) False) := by
  have hmo : doStep E m ⟨3, a, b, imm⟩ = setR m a (reg m b) := by simp [doStep, plainStep]
  rw [hmo]
  have HS := Lib.hid (fun (W : World) (hW : St x E wk w W m ad buf back pg) => hW.setR ha hI.rl (reg m b))
  obtain ⟨ca, fa⟩ := h.cell (k := 2 + a) (by omega)
  rw [cellOf_reg _ ha] at ca
  change _ = some (Value.int .u32 (reg m a)) at ca
  obtain ⟨cb, fb⟩ := h.cell (k := 2 + b) (by omega)
  rw [cellOf_reg _ hb] at cb
  change _ = some (Value.int .u32 (reg m b)) at cb
  have hlm := h.lm
  have ha2 : (a : Int) < 12 := by omega
  have hb2 : (b : Int) < 12 := by omega
  obtain ⟨va0, va1⟩ := hI.reg a
  obtain ⟨vb0, vb1⟩ := hI.reg b
  obtain ⟨i0, i1⟩ := hi
  have HP := Lib.hid (fun (e : Ending) (w2 : World) (he : e = .returned (.tuple #[]) ∧ ∃ ad' buf' pg', St x E wk w w2 (setR m a (reg m b)) ad' buf' back pg') => (he.2.elim fun _ h2 => h2.elim fun _ h2 => h2.elim fun _ h2 => DoPost.ok (m := m) (T := False) h0 he.1 h2 rfl : DoPost x E wk w m (setR m a (reg m b)) False e w2))
  have HH := Lib.hid h
  clear h hmo hI
  generalize reg m a = va at *
  generalize reg m b = vb at *
  refine Calls.mono ?_ HP.out
  go_enter Tryd.func70, Tryd.ntmps70
  go_wp2
  go_quiet (fail)
  go_wp2
  go_quiet (fail)
  go_wp2
  go_end0
  exact ⟨rfl, _, _, _, HS.out _ ((HH.out.alloc _).drewN _)⟩
set_option maxHeartbeats 4000000 in
set_option maxRecDepth 100000 in
theorem do24 (h : St x E wk w w' m ad buf back pg) (h0 : m.stop = 0) (hI : Inv m) (a b : Nat) (ha : a < 12) (hb : b < 12) (imm : Int) (hi : -32768 ≤ imm ∧ imm ≤ 32767) :
    Calls Tryd.prog 70 #[.pointer (some ⟨x.bm, 0, none⟩), iV ⟨24, a, b, imm⟩] w' (DoPost x E wk w m (doStep E m ⟨24, a, b, imm⟩) False) := by
  have hmo : doStep E m ⟨24, a, b, imm⟩ = setR m a (u32 (-(reg m b))) := by simp [doStep, plainStep]
  rw [hmo]
  have HS := Lib.hid (fun (W : World) (hW : St x E wk w W m ad buf back pg) => hW.setR ha hI.rl (u32 (-(reg m b))))
  obtain ⟨ca, fa⟩ := h.cell (k := 2 + a) (by omega)
  rw [cellOf_reg _ ha] at ca
  change _ = some (Value.int .u32 (reg m a)) at ca
  obtain ⟨cb, fb⟩ := h.cell (k := 2 + b) (by omega)
  rw [cellOf_reg _ hb] at cb
  change _ = some (Value.int .u32 (reg m b)) at cb
  have hlm := h.lm
  have ha2 : (a : Int) < 12 := by omega
  have hb2 : (b : Int) < 12 := by omega
  obtain ⟨va0, va1⟩ := hI.reg a
  obtain ⟨vb0, vb1⟩ := hI.reg b
  obtain ⟨i0, i1⟩ := hi
  have HP := Lib.hid (fun (e : Ending) (w2 : World) (he : e = .returned (.tuple #[]) ∧ ∃ ad' buf' pg', St x E wk w w2 (setR m a (u32 (-(reg m b)))) ad' buf' back pg') => (he.2.elim fun _ h2 => h2.elim fun _ h2 => h2.elim fun _ h2 => DoPost.ok (m := m) (T := False) h0 he.1 h2 rfl : DoPost x E wk w m (setR m a (u32 (-(reg m b)))) False e w2))
  have HH := Lib.hid h
  clear h hmo hI
  generalize reg m a = va at *
  generalize reg m b = vb at *
  refine Calls.mono ?_ HP.out
  go_enter Tryd.func70, Tryd.ntmps70
  go_wp2
  go_quiet (fail)
  go_wp2
  go_quiet (fail)
  go_wp2
  go_end0
  exact ⟨rfl, _, _, _, HS.out _ ((HH.out.alloc _).drewN _)⟩
set_option maxHeartbeats 4000000 in
set_option maxRecDepth 100000 in
theorem do25 (h : St x E wk w w' m ad buf back pg) (h0 : m.stop = 0) (hI : Inv m) (a b : Nat) (ha : a < 12) (hb : b < 12) (imm : Int) (hi : -32768 ≤ imm ∧ imm ≤ 32767) :
    Calls Tryd.prog 70 #[.pointer (some ⟨x.bm, 0, none⟩), iV ⟨25, a, b, imm⟩] w' (DoPost x E wk w m (doStep E m ⟨25, a, b, imm⟩) False) := by
  have hmo : doStep E m ⟨25, a, b, imm⟩ = setR m a (4294967295 - reg m b) := by simp [doStep, plainStep]
  rw [hmo]
  have HS := Lib.hid (fun (W : World) (hW : St x E wk w W m ad buf back pg) => hW.setR ha hI.rl (4294967295 - reg m b))
  obtain ⟨ca, fa⟩ := h.cell (k := 2 + a) (by omega)
  rw [cellOf_reg _ ha] at ca
  change _ = some (Value.int .u32 (reg m a)) at ca
  obtain ⟨cb, fb⟩ := h.cell (k := 2 + b) (by omega)
  rw [cellOf_reg _ hb] at cb
  change _ = some (Value.int .u32 (reg m b)) at cb
  have hlm := h.lm
  have ha2 : (a : Int) < 12 := by omega
  have hb2 : (b : Int) < 12 := by omega
  obtain ⟨va0, va1⟩ := hI.reg a
  obtain ⟨vb0, vb1⟩ := hI.reg b
  obtain ⟨i0, i1⟩ := hi
  have HP := Lib.hid (fun (e : Ending) (w2 : World) (he : e = .returned (.tuple #[]) ∧ ∃ ad' buf' pg', St x E wk w w2 (setR m a (4294967295 - reg m b)) ad' buf' back pg') => (he.2.elim fun _ h2 => h2.elim fun _ h2 => h2.elim fun _ h2 => DoPost.ok (m := m) (T := False) h0 he.1 h2 rfl : DoPost x E wk w m (setR m a (4294967295 - reg m b)) False e w2))
  have HH := Lib.hid h
  clear h hmo hI
  generalize reg m a = va at *
  generalize reg m b = vb at *
  refine Calls.mono ?_ HP.out
  go_enter Tryd.func70, Tryd.ntmps70
  go_wp2
  go_quiet (fail)
  go_wp2
  go_quiet (fail)
  go_wp2
  go_end0
  rw [not32 vb0 vb1]
  exact ⟨rfl, _, _, _, HS.out _ ((HH.out.alloc _).drewN _)⟩
set_option maxHeartbeats 4000000 in
set_option maxRecDepth 100000 in
theorem do26 (h : St x E wk w w' m ad buf back pg) (h0 : m.stop = 0) (hI : Inv m) (a b : Nat) (ha : a < 12) (hb : b < 12) (imm : Int) (hi : -32768 ≤ imm ∧ imm ≤ 32767) :
    Calls Tryd.prog 70 #[.pointer (some ⟨x.bm, 0, none⟩), iV ⟨26, a, b, imm⟩] w' (DoPost x E wk w m (doStep E m ⟨26, a, b, imm⟩) False) := by
  have hmo : doStep E m ⟨26, a, b, imm⟩ = setR m a (reg m b % 256) := by simp [doStep, plainStep]
  rw [hmo]
  have HS := Lib.hid (fun (W : World) (hW : St x E wk w W m ad buf back pg) => hW.setR ha hI.rl (reg m b % 256))
  obtain ⟨ca, fa⟩ := h.cell (k := 2 + a) (by omega)
  rw [cellOf_reg _ ha] at ca
  change _ = some (Value.int .u32 (reg m a)) at ca
  obtain ⟨cb, fb⟩ := h.cell (k := 2 + b) (by omega)
  rw [cellOf_reg _ hb] at cb
  change _ = some (Value.int .u32 (reg m b)) at cb
  have hlm := h.lm
  have ha2 : (a : Int) < 12 := by omega
  have hb2 : (b : Int) < 12 := by omega
  obtain ⟨va0, va1⟩ := hI.reg a
  obtain ⟨vb0, vb1⟩ := hI.reg b
  obtain ⟨i0, i1⟩ := hi
  have HP := Lib.hid (fun (e : Ending) (w2 : World) (he : e = .returned (.tuple #[]) ∧ ∃ ad' buf' pg', St x E wk w w2 (setR m a (reg m b % 256)) ad' buf' back pg') => (he.2.elim fun _ h2 => h2.elim fun _ h2 => h2.elim fun _ h2 => DoPost.ok (m := m) (T := False) h0 he.1 h2 rfl : DoPost x E wk w m (setR m a (reg m b % 256)) False e w2))
  have HH := Lib.hid h
  clear h hmo hI
  generalize reg m a = va at *
  generalize reg m b = vb at *
  refine Calls.mono ?_ HP.out
  go_enter Tryd.func70, Tryd.ntmps70
  go_wp2
  go_quiet (fail)
  go_wp2
  go_quiet (fail)
  go_wp2
  go_end0
  exact ⟨rfl, _, _, _, HS.out _ ((HH.out.alloc _).drewN _)⟩
set_option maxHeartbeats 4000000 in
set_option maxRecDepth 100000 in
theorem do4 (h : St x E wk w w' m ad buf back pg) (h0 : m.stop = 0) (hI : Inv m) (a b : Nat) (ha : a < 12) (hb : b < 12) (imm : Int) (hi : -32768 ≤ imm ∧ imm ≤ 32767) :
    Calls Tryd.prog 70 #[.pointer (some ⟨x.bm, 0, none⟩), iV ⟨4, a, b, imm⟩] w' (DoPost x E wk w m (doStep E m ⟨4, a, b, imm⟩) False) := by
  have hmo : doStep E m ⟨4, a, b, imm⟩ = setR m a (u32 (reg m b + imm)) := by simp [doStep, plainStep]
  rw [hmo]
  have HS := Lib.hid (fun (W : World) (hW : St x E wk w W m ad buf back pg) => hW.setR ha hI.rl (u32 (reg m b + imm)))
  obtain ⟨ca, fa⟩ := h.cell (k := 2 + a) (by omega)
  rw [cellOf_reg _ ha] at ca
  change _ = some (Value.int .u32 (reg m a)) at ca
  obtain ⟨cb, fb⟩ := h.cell (k := 2 + b) (by omega)
  rw [cellOf_reg _ hb] at cb
  change _ = some (Value.int .u32 (reg m b)) at cb
  have hlm := h.lm
  have ha2 : (a : Int) < 12 := by omega
  have hb2 : (b : Int) < 12 := by omega
  obtain ⟨va0, va1⟩ := hI.reg a
  obtain ⟨vb0, vb1⟩ := hI.reg b
  obtain ⟨i0, i1⟩ := hi
  have HP := Lib.hid (fun (e : Ending) (w2 : World) (he : e = .returned (.tuple #[]) ∧ ∃ ad' buf' pg', St x E wk w w2 (setR m a (u32 (reg m b + imm))) ad' buf' back pg') => (he.2.elim fun _ h2 => h2.elim fun _ h2 => h2.elim fun _ h2 => DoPost.ok (m := m) (T := False) h0 he.1 h2 rfl : DoPost x E wk w m (setR m a (u32 (reg m b + imm))) False e w2))
  have HH := Lib.hid h
  clear h hmo hI
  generalize reg m a = va at *
  generalize reg m b = vb at *
  refine Calls.mono ?_ HP.out
  go_enter Tryd.func70, Tryd.ntmps70
  go_wp2
  go_quiet (fail)
  go_wp2
  go_quiet (fail)
  go_wp2
  go_end0
  exact ⟨rfl, _, _, _, HS.out _ ((HH.out.alloc _).drewN _)⟩
end
end Go.Proofs.YtopceggmdieppaaDoor.Emu
namespace Go.Proofs.YtopceggmdieppaaDoor.Emu
open Go.RowKit Go.Proofs.YtopceggmdieppaaDoor.Enc Go.Proofs.YtopceggmdieppaaDoor.Graph

section
variable {x : Fz} {E : Env} {wk : Nat → Value} {w w' w1 w2 : World} {m : M} {ad buf back : Value} {pg : Nat → Option Nat}
set_option maxHeartbeats 4000000 in
set_option maxRecDepth 100000 in
theorem do2 (h : St x E wk w w' m ad buf back pg) (h0 : m.stop = 0) (hI : Inv m) (a b : Nat) (ha : a < 12) (hb : b < 12) (imm : Int) (hi : -32768 ≤ imm ∧ imm ≤ 32767) (hE : EnvOk E) (hp : 0 ≤ m.place ∧ m.place ≤ 65536) :
    Calls Tryd.prog 70 #[.pointer (some ⟨x.bm, 0, none⟩), iV ⟨2, a, b, imm⟩] w' (DoPost x E wk w m (doStep E m ⟨2, a, b, imm⟩) False) := by
  have hmo : doStep E m ⟨2, a, b, imm⟩ = match wordAt E m.place with | none => trap m 5 | some v => { setR m a v with place := m.place + 1 } := by simp [doStep, plainStep, goesStep, followsP]; cases wordAt E m.place <;> rfl
  rw [hmo]
  obtain ⟨ca, fa⟩ := h.cell (k := 2 + a) (by omega)
  rw [cellOf_reg _ ha] at ca
  change _ = some (Value.int .u32 (reg m a)) at ca
  obtain ⟨cb, fb⟩ := h.cell (k := 2 + b) (by omega)
  rw [cellOf_reg _ hb] at cb
  change _ = some (Value.int .u32 (reg m b)) at cb
  have hlm := h.lm
  have ha2 : (a : Int) < 12 := by omega
  have hb2 : (b : Int) < 12 := by omega
  obtain ⟨va0, va1⟩ := hI.reg a
  obtain ⟨vb0, vb1⟩ := hI.reg b
  obtain ⟨i0, i1⟩ := hi
  have HH := Lib.hid h
  have HCA := Lib.hid (fun (w1 : World) (m1 : M) (ad1 buf1 : Value) (h1 : St x E wk w w1 m1 ad1 buf1 back pg) (hm1 : m1.r = m.r) => (show w1.cell? ⟨x.bm, 2 + a, none⟩ = some (.int .u32 (reg m a)) ∧ w1.frozen? ⟨x.bm, 2 + a, none⟩ = false from by
    have h2 := h1.cell (k := 2 + a) (by omega)
    rw [cellOf_reg _ ha] at h2
    change w1.cell? _ = some (.int .u32 (m1.r.getD a 0)) ∧ _ at h2
    rw [hm1] at h2
    exact h2))
  by_cases hlt : 0 ≤ m.place ∧ m.place < E.words.length
  · rw [wordAt_some hlt]
    simp only
    have HB := Lib.hid (fun (W : World) (hW : St x E wk w W m ad buf back pg) => behind_ok hW hE.len hlt)
    generalize E.words.getD m.place.toNat 0 = v at *
    have HS := Lib.hid (fun (W : World) (hW : St x E wk w W { m with place := m.place + 1 } ad buf back pg) => hW.setR ha hI.rl v)
    have HP := Lib.hid (fun (e : Ending) (w2 : World) (he : e = .returned (.tuple #[]) ∧ ∃ ad' buf' pg', St x E wk w w2 ({ setR m a v with place := m.place + 1 }) ad' buf' back pg') => (he.2.elim fun _ h2 => h2.elim fun _ h2 => h2.elim fun _ h2 => DoPost.ok (m := m) (T := False) h0 he.1 h2 rfl : DoPost x E wk w m ({ setR m a v with place := m.place + 1 }) False e w2))
    clear h hmo hI hlt
    generalize reg m a = va at *
    generalize reg m b = vb at *
    refine Calls.mono ?_ HP.out
    go_enter Tryd.func70, Tryd.ntmps70
    go_wp2
    go_quiet (fail)
    go_wp2
    go_quiet (fail)
    go_wp2_with (go_at_call 108; refine (HB.out _ ((HH.out.alloc _).drewN _)).mono ?_; rintro e w3 ⟨rfl, h3⟩; obtain ⟨ca3, fa3⟩ := HCA.out _ _ _ _ h3 rfl; have hl3 := h3.lm; have H3 := Lib.hid h3; clear h3)
    go_end0
    exact ⟨rfl, _, _, _, HS.out _ H3.out⟩
  · rw [wordAt_none hlt]
    have HB := Lib.hid (fun (W : World) (hW : St x E wk w W m ad buf back pg) => behind_no hW hE.len ⟨by omega, by omega⟩ hlt)
    have HP := Lib.hid (fun (e : Ending) (w2 : World) (he : e = thrown 5 ∧ St x E wk w w2 (m) ad buf back pg) => DoPost.trap (T := False) (m := m) (m2 := m) (fun h => h) he.1 rfl rfl he.2)
    clear h hmo hI hlt
    generalize reg m a = va at *
    generalize reg m b = vb at *
    refine Calls.mono ?_ HP.out
    go_enter Tryd.func70, Tryd.ntmps70
    go_wp2
    go_quiet (fail)
    go_wp2
    go_quiet (fail)
    go_wp2_with (go_at_call 108; refine (HB.out _ ((HH.out.alloc _).drewN _)).mono ?_; rintro e w3 ⟨rfl, hw2⟩; have hw3 := hw2.symm; clear hw2; subst hw3)
    exact ⟨rfl, rfl, (HH.out.alloc _).drewN _⟩
set_option maxHeartbeats 4000000 in
set_option maxRecDepth 100000 in
theorem do29 (h : St x E wk w w' m ad buf back pg) (h0 : m.stop = 0) (hI : Inv m) (a b : Nat) (ha : a < 12) (hb : b < 12) (imm : Int) (hi : -32768 ≤ imm ∧ imm ≤ 32767) :
    Calls Tryd.prog 70 #[.pointer (some ⟨x.bm, 0, none⟩), iV ⟨29, a, b, imm⟩] w' (DoPost x E wk w m (doStep E m ⟨29, a, b, imm⟩) False) := by
  have hmo : doStep E m ⟨29, a, b, imm⟩ = if reg m b ≤ reg m a then trap m 2 else m := by simp [doStep, plainStep]
  rw [hmo]
  obtain ⟨ca, fa⟩ := h.cell (k := 2 + a) (by omega)
  rw [cellOf_reg _ ha] at ca
  change _ = some (Value.int .u32 (reg m a)) at ca
  obtain ⟨cb, fb⟩ := h.cell (k := 2 + b) (by omega)
  rw [cellOf_reg _ hb] at cb
  change _ = some (Value.int .u32 (reg m b)) at cb
  have hlm := h.lm
  have ha2 : (a : Int) < 12 := by omega
  have hb2 : (b : Int) < 12 := by omega
  obtain ⟨va0, va1⟩ := hI.reg a
  obtain ⟨vb0, vb1⟩ := hI.reg b
  obtain ⟨i0, i1⟩ := hi
  have HH := Lib.hid h
  by_cases hle : reg m b ≤ reg m a
  · rw [if_pos hle]
    have HP := Lib.hid (fun (e : Ending) (w2 : World) (he : e = thrown 2 ∧ St x E wk w w2 (m) ad buf back pg) => DoPost.trap (T := False) (m := m) (m2 := m) (fun h => h) he.1 rfl rfl he.2)
    clear h hmo hI
    generalize reg m a = va at *
    generalize reg m b = vb at *
    refine Calls.mono ?_ HP.out
    go_enter Tryd.func70, Tryd.ntmps70
    go_wp2
    go_quiet (fail)
    go_wp2
    go_quiet (fail)
    go_wp2
    exact ⟨rfl, rfl, (HH.out.alloc _).drewN _⟩
  · rw [if_neg hle]
    have HP := Lib.hid (fun (e : Ending) (w2 : World) (he : e = .returned (.tuple #[]) ∧ ∃ ad' buf' pg', St x E wk w w2 (m) ad' buf' back pg') => (he.2.elim fun _ h2 => h2.elim fun _ h2 => h2.elim fun _ h2 => DoPost.ok (m := m) (T := False) h0 he.1 h2 rfl : DoPost x E wk w m (m) False e w2))
    clear h hmo hI
    generalize reg m a = va at *
    generalize reg m b = vb at *
    refine Calls.mono ?_ HP.out
    go_enter Tryd.func70, Tryd.ntmps70
    go_wp2
    go_quiet (fail)
    go_wp2
    go_quiet (fail)
    go_wp2
    go_end0
    exact ⟨rfl, _, _, _, (HH.out.alloc _).drewN _⟩
set_option maxHeartbeats 4000000 in
set_option maxRecDepth 100000 in
theorem do47 (h : St x E wk w w' m ad buf back pg) (_h0 : m.stop = 0) (hI : Inv m) (a b : Nat) (ha : a < 12) (hb : b < 12) (imm : Int) (hi : -32768 ≤ imm ∧ imm ≤ 32767) :
    Calls Tryd.prog 70 #[.pointer (some ⟨x.bm, 0, none⟩), iV ⟨47, a, b, imm⟩] w' (DoPost x E wk w m (doStep E m ⟨47, a, b, imm⟩) False) := by
  have hmo : doStep E m ⟨47, a, b, imm⟩ = halt m 1 (reg m a) := by simp [doStep, plainStep]
  rw [hmo]
  obtain ⟨ca, fa⟩ := h.cell (k := 2 + a) (by omega)
  rw [cellOf_reg _ ha] at ca
  change _ = some (Value.int .u32 (reg m a)) at ca
  obtain ⟨cb, fb⟩ := h.cell (k := 2 + b) (by omega)
  rw [cellOf_reg _ hb] at cb
  change _ = some (Value.int .u32 (reg m b)) at cb
  have hlm := h.lm
  have ha2 : (a : Int) < 12 := by omega
  have hb2 : (b : Int) < 12 := by omega
  obtain ⟨va0, va1⟩ := hI.reg a
  obtain ⟨vb0, vb1⟩ := hI.reg b
  obtain ⟨i0, i1⟩ := hi
  have HH := Lib.hid h
  have HB := Lib.hid (fun (W : World) (hW : St x E wk w W m ad buf back pg) => halt_prog hW 1 (reg m a))
  have HP := Lib.hid (fun (e : Ending) (w2 : World) (he : e = .returned (.tuple #[]) ∧ St x E wk w w2 (halt m 1 (reg m a)) ad buf back pg) => (.inl ⟨.inl (by show (1 : Int) ≠ 2; decide), he.1, _, _, _, _, he.2⟩ : DoPost x E wk w m (halt m 1 (reg m a)) False e w2))
  clear h hmo hI
  generalize reg m a = va at *
  generalize reg m b = vb at *
  refine Calls.mono ?_ HP.out
  go_enter Tryd.func70, Tryd.ntmps70
  go_wp2
  go_quiet (fail)
  go_wp2
  go_quiet (fail)
  go_wp2_with (go_at_call 68; refine (HB.out _ ((HH.out.alloc _).drewN _)).mono ?_; rintro e w3 ⟨rfl, h3⟩; have H3 := Lib.hid h3; clear h3)
  go_end0
  exact ⟨rfl, H3.out⟩
set_option maxHeartbeats 4000000 in
set_option maxRecDepth 100000 in
theorem do48 (h : St x E wk w w' m ad buf back pg) (_h0 : m.stop = 0) (hI : Inv m) (a b : Nat) (ha : a < 12) (hb : b < 12) (imm : Int) (hi : -32768 ≤ imm ∧ imm ≤ 32767) (hi2 : 0 ≤ imm ∧ imm ≤ 255) :
    Calls Tryd.prog 70 #[.pointer (some ⟨x.bm, 0, none⟩), iV ⟨48, a, b, imm⟩] w' (DoPost x E wk w m (doStep E m ⟨48, a, b, imm⟩) True) := by
  have hmo : doStep E m ⟨48, a, b, imm⟩ = halt m 2 (imm) := by simp [doStep, plainStep, trap]
  rw [hmo]
  obtain ⟨ca, fa⟩ := h.cell (k := 2 + a) (by omega)
  rw [cellOf_reg _ ha] at ca
  change _ = some (Value.int .u32 (reg m a)) at ca
  obtain ⟨cb, fb⟩ := h.cell (k := 2 + b) (by omega)
  rw [cellOf_reg _ hb] at cb
  change _ = some (Value.int .u32 (reg m b)) at cb
  have hlm := h.lm
  have ha2 : (a : Int) < 12 := by omega
  have hb2 : (b : Int) < 12 := by omega
  obtain ⟨va0, va1⟩ := hI.reg a
  obtain ⟨vb0, vb1⟩ := hI.reg b
  obtain ⟨i0, i1⟩ := hi
  have HH := Lib.hid h
  have HB := Lib.hid (fun (W : World) (hW : St x E wk w W m ad buf back pg) => halt_prog hW 2 (imm))
  have HP := Lib.hid (fun (e : Ending) (w2 : World) (he : e = .returned (.tuple #[]) ∧ St x E wk w w2 (halt m 2 (imm)) ad buf back pg) => (.inl ⟨.inr trivial, he.1, _, _, _, _, he.2⟩ : DoPost x E wk w m (halt m 2 (imm)) True e w2))
  have e1 : imm % 4294967296 = imm := by omega
  clear h hmo hI
  generalize reg m a = va at *
  generalize reg m b = vb at *
  refine Calls.mono ?_ HP.out
  go_enter Tryd.func70, Tryd.ntmps70
  go_wp2
  go_quiet (fail)
  go_wp2
  go_quiet (fail)
  go_wp2_with (go_at_call 68; refine (HB.out _ ((HH.out.alloc _).drewN _)).mono ?_; rintro e w3 ⟨rfl, h3⟩; have H3 := Lib.hid h3; clear h3)
  go_end0
  exact ⟨rfl, H3.out⟩
end
end Go.Proofs.YtopceggmdieppaaDoor.Emu
