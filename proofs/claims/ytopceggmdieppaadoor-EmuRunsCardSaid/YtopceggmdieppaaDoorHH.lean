/- The instructions: more branches. No condition. -/
import Derived.Test.YtopceggmdieppaaDoorHB
namespace Go.Proofs.YtopceggmdieppaaDoor.Emu
open Go.RowKit Go.Proofs.YtopceggmdieppaaDoor.Enc Go.Proofs.YtopceggmdieppaaDoor.Graph

section
variable {x : Fz} {E : Env} {wk : Nat → Value} {w w' w1 w2 : World} {m : M} {ad buf back : Value} {pg : Nat → Option Nat}
set_option maxHeartbeats 4000000 in
set_option maxRecDepth 100000 in
theorem do35 (h : St x E wk w w' m ad buf back pg) (h0 : m.stop = 0) (hI : Inv m) (a b : Nat) (ha : a < 12) (hb : b < 12) (imm : Int) (hi : -32768 ≤ imm ∧ imm ≤ 32767) (hp : 0 ≤ m.place ∧ m.place ≤ 65536) (hEh : E.holds = hs) :
    Calls Tryd.prog 70 #[.pointer (some ⟨x.bm, 0, none⟩), iV ⟨35, a, b, imm⟩] w' (DoPost x E wk w m (doStep E m ⟨35, a, b, imm⟩) False) := by
  have hmo : doStep E m ⟨35, a, b, imm⟩ = if hs 35 (reg m a) (reg m b) then { m with place := m.place + imm } else m := by rw [← hEh]; simp [doStep, plainStep, goesStep, followsP]
  rw [hmo]
  have HB := Lib.hid (fun (W : World) => holds_prog (op := 35) ⟨by omega, by omega⟩ (hI.reg a) (hI.reg b) W)
  obtain ⟨ca, fa⟩ := h.cell (k := 2 + a) (by omega)
  rw [cellOf_reg _ ha] at ca
  change _ = some (Value.int .u32 (reg m a)) at ca
  obtain ⟨cb, fb⟩ := h.cell (k := 2 + b) (by omega)
  rw [cellOf_reg _ hb] at cb
  change _ = some (Value.int .u32 (reg m b)) at cb
  have hlm := h.lm
  have ha2 : (a : Int) < 12 := by omega
  have hb2 : (b : Int) < 12 := by omega
  obtain ⟨va0, va1⟩ := hI.reg a
  obtain ⟨vb0, vb1⟩ := hI.reg b
  obtain ⟨i0, i1⟩ := hi
  have HH := Lib.hid h
  obtain ⟨c19, f19⟩ := h.cell (k := 19) (by decide)
  change _ = some (Value.int .i64 m.place) at c19
  have HS := Lib.hid (fun (W : World) (hW : St x E wk w W m ad buf back pg) => hW.setPlace (m.place + imm))
  generalize hs 35 (reg m a) (reg m b) = c at *
  obtain ⟨p0, p1⟩ := hp
  cases c with
  | true =>
    rw [if_pos rfl]
    have HP := Lib.hid (fun (e : Ending) (w2 : World) (he : e = .returned (.tuple #[]) ∧ ∃ ad' buf' pg', St x E wk w w2 ({ m with place := m.place + imm }) ad' buf' back pg') => (he.2.elim fun _ h2 => h2.elim fun _ h2 => h2.elim fun _ h2 => DoPost.ok (m := m) (T := False) h0 he.1 h2 rfl : DoPost x E wk w m ({ m with place := m.place + imm }) False e w2))
    clear h hmo hI hEh
    generalize m.place = p at *
    generalize reg m a = va at *
    generalize reg m b = vb at *
    refine Calls.mono ?_ HP.out
    go_enter Tryd.func70, Tryd.ntmps70
    go_wp2
    go_quiet (fail)
    go_wp2
    go_quiet (fail)
    go_wp2
    go_quiet (first | (go_at_call 114; refine (HB.out _).mono ?_; rintro e w3 ⟨rfl, rfl⟩; exact ⟨rfl, _, rfl⟩))
    go_wp2
    go_region
    all_goals
      go_wp2
      go_end0
      exact ⟨rfl, _, _, _, HS.out _ (by repeat' first | exact HH.out | apply St.alloc | apply St.drewN | apply St.drew)⟩
  | false =>
    rw [if_neg (by decide)]
    have HP := Lib.hid (fun (e : Ending) (w2 : World) (he : e = .returned (.tuple #[]) ∧ ∃ ad' buf' pg', St x E wk w w2 (m) ad' buf' back pg') => (he.2.elim fun _ h2 => h2.elim fun _ h2 => h2.elim fun _ h2 => DoPost.ok (m := m) (T := False) h0 he.1 h2 rfl : DoPost x E wk w m (m) False e w2))
    clear h hmo hI hEh
    generalize reg m a = va at *
    generalize reg m b = vb at *
    refine Calls.mono ?_ HP.out
    go_enter Tryd.func70, Tryd.ntmps70
    go_wp2
    go_quiet (fail)
    go_wp2
    go_quiet (fail)
    go_wp2
    go_quiet (first | (go_at_call 114; refine (HB.out _).mono ?_; rintro e w3 ⟨rfl, rfl⟩; exact ⟨rfl, _, rfl⟩))
    go_wp2
    go_end0
    exact ⟨rfl, _, _, _, (by repeat' first | exact HH.out | apply St.alloc | apply St.drewN | apply St.drew)⟩
set_option maxHeartbeats 4000000 in
set_option maxRecDepth 100000 in
theorem do36 (h : St x E wk w w' m ad buf back pg) (h0 : m.stop = 0) (hI : Inv m) (a b : Nat) (ha : a < 12) (hb : b < 12) (imm : Int) (hi : -32768 ≤ imm ∧ imm ≤ 32767) (hp : 0 ≤ m.place ∧ m.place ≤ 65536) (hEh : E.holds = hs) :
    Calls Tryd.prog 70 #[.pointer (some ⟨x.bm, 0, none⟩), iV ⟨36, a, b, imm⟩] w' (DoPost x E wk w m (doStep E m ⟨36, a, b, imm⟩) False) := by
  have hmo : doStep E m ⟨36, a, b, imm⟩ = if hs 36 (reg m a) (reg m b) then { m with place := m.place + imm } else m := by rw [← hEh]; simp [doStep, plainStep, goesStep, followsP]
  rw [hmo]
  have HB := Lib.hid (fun (W : World) => holds_prog (op := 36) ⟨by omega, by omega⟩ (hI.reg a) (hI.reg b) W)
  obtain ⟨ca, fa⟩ := h.cell (k := 2 + a) (by omega)
  rw [cellOf_reg _ ha] at ca
  change _ = some (Value.int .u32 (reg m a)) at ca
  obtain ⟨cb, fb⟩ := h.cell (k := 2 + b) (by omega)
  rw [cellOf_reg _ hb] at cb
  change _ = some (Value.int .u32 (reg m b)) at cb
  have hlm := h.lm
  have ha2 : (a : Int) < 12 := by omega
  have hb2 : (b : Int) < 12 := by omega
  obtain ⟨va0, va1⟩ := hI.reg a
  obtain ⟨vb0, vb1⟩ := hI.reg b
  obtain ⟨i0, i1⟩ := hi
  have HH := Lib.hid h
  obtain ⟨c19, f19⟩ := h.cell (k := 19) (by decide)
  change _ = some (Value.int .i64 m.place) at c19
  have HS := Lib.hid (fun (W : World) (hW : St x E wk w W m ad buf back pg) => hW.setPlace (m.place + imm))
  generalize hs 36 (reg m a) (reg m b) = c at *
  obtain ⟨p0, p1⟩ := hp
  cases c with
  | true =>
    rw [if_pos rfl]
    have HP := Lib.hid (fun (e : Ending) (w2 : World) (he : e = .returned (.tuple #[]) ∧ ∃ ad' buf' pg', St x E wk w w2 ({ m with place := m.place + imm }) ad' buf' back pg') => (he.2.elim fun _ h2 => h2.elim fun _ h2 => h2.elim fun _ h2 => DoPost.ok (m := m) (T := False) h0 he.1 h2 rfl : DoPost x E wk w m ({ m with place := m.place + imm }) False e w2))
    clear h hmo hI hEh
    generalize m.place = p at *
    generalize reg m a = va at *
    generalize reg m b = vb at *
    refine Calls.mono ?_ HP.out
    go_enter Tryd.func70, Tryd.ntmps70
    go_wp2
    go_quiet (fail)
    go_wp2
    go_quiet (fail)
    go_wp2
    go_quiet (first | (go_at_call 114; refine (HB.out _).mono ?_; rintro e w3 ⟨rfl, rfl⟩; exact ⟨rfl, _, rfl⟩))
    go_wp2
    go_region
    all_goals
      go_wp2
      go_end0
      exact ⟨rfl, _, _, _, HS.out _ (by repeat' first | exact HH.out | apply St.alloc | apply St.drewN | apply St.drew)⟩
  | false =>
    rw [if_neg (by decide)]
    have HP := Lib.hid (fun (e : Ending) (w2 : World) (he : e = .returned (.tuple #[]) ∧ ∃ ad' buf' pg', St x E wk w w2 (m) ad' buf' back pg') => (he.2.elim fun _ h2 => h2.elim fun _ h2 => h2.elim fun _ h2 => DoPost.ok (m := m) (T := False) h0 he.1 h2 rfl : DoPost x E wk w m (m) False e w2))
    clear h hmo hI hEh
    generalize reg m a = va at *
    generalize reg m b = vb at *
    refine Calls.mono ?_ HP.out
    go_enter Tryd.func70, Tryd.ntmps70
    go_wp2
    go_quiet (fail)
    go_wp2
    go_quiet (fail)
    go_wp2
    go_quiet (first | (go_at_call 114; refine (HB.out _).mono ?_; rintro e w3 ⟨rfl, rfl⟩; exact ⟨rfl, _, rfl⟩))
    go_wp2
    go_end0
    exact ⟨rfl, _, _, _, (by repeat' first | exact HH.out | apply St.alloc | apply St.drewN | apply St.drew)⟩
set_option maxHeartbeats 4000000 in
set_option maxRecDepth 100000 in
theorem do37 (h : St x E wk w w' m ad buf back pg) (h0 : m.stop = 0) (hI : Inv m) (a b : Nat) (ha : a < 12) (hb : b < 12) (imm : Int) (hi : -32768 ≤ imm ∧ imm ≤ 32767) (hp : 0 ≤ m.place ∧ m.place ≤ 65536) (hEh : E.holds = hs) :
    Calls Tryd.prog 70 #[.pointer (some ⟨x.bm, 0, none⟩), iV ⟨37, a, b, imm⟩] w' (DoPost x E wk w m (doStep E m ⟨37, a, b, imm⟩) False) := by
  have hmo : doStep E m ⟨37, a, b, imm⟩ = if hs 37 (reg m a) (reg m b) then { m with place := m.place + imm } else m := by rw [← hEh]; simp [doStep, plainStep, goesStep, followsP]
  rw [hmo]
  have HB := Lib.hid (fun (W : World) => holds_prog (op := 37) ⟨by omega, by omega⟩ (hI.reg a) (hI.reg b) W)
  obtain ⟨ca, fa⟩ := h.cell (k := 2 + a) (by omega)
  rw [cellOf_reg _ ha] at ca
  change _ = some (Value.int .u32 (reg m a)) at ca
  obtain ⟨cb, fb⟩ := h.cell (k := 2 + b) (by omega)
  rw [cellOf_reg _ hb] at cb
  change _ = some (Value.int .u32 (reg m b)) at cb
  have hlm := h.lm
  have ha2 : (a : Int) < 12 := by omega
  have hb2 : (b : Int) < 12 := by omega
  obtain ⟨va0, va1⟩ := hI.reg a
  obtain ⟨vb0, vb1⟩ := hI.reg b
  obtain ⟨i0, i1⟩ := hi
  have HH := Lib.hid h
  obtain ⟨c19, f19⟩ := h.cell (k := 19) (by decide)
  change _ = some (Value.int .i64 m.place) at c19
  have HS := Lib.hid (fun (W : World) (hW : St x E wk w W m ad buf back pg) => hW.setPlace (m.place + imm))
  generalize hs 37 (reg m a) (reg m b) = c at *
  obtain ⟨p0, p1⟩ := hp
  cases c with
  | true =>
    rw [if_pos rfl]
    have HP := Lib.hid (fun (e : Ending) (w2 : World) (he : e = .returned (.tuple #[]) ∧ ∃ ad' buf' pg', St x E wk w w2 ({ m with place := m.place + imm }) ad' buf' back pg') => (he.2.elim fun _ h2 => h2.elim fun _ h2 => h2.elim fun _ h2 => DoPost.ok (m := m) (T := False) h0 he.1 h2 rfl : DoPost x E wk w m ({ m with place := m.place + imm }) False e w2))
    clear h hmo hI hEh
    generalize m.place = p at *
    generalize reg m a = va at *
    generalize reg m b = vb at *
    refine Calls.mono ?_ HP.out
    go_enter Tryd.func70, Tryd.ntmps70
    go_wp2
    go_quiet (fail)
    go_wp2
    go_quiet (fail)
    go_wp2
    go_quiet (first | (go_at_call 114; refine (HB.out _).mono ?_; rintro e w3 ⟨rfl, rfl⟩; exact ⟨rfl, _, rfl⟩))
    go_wp2
    go_region
    all_goals
      go_wp2
      go_end0
      exact ⟨rfl, _, _, _, HS.out _ (by repeat' first | exact HH.out | apply St.alloc | apply St.drewN | apply St.drew)⟩
  | false =>
    rw [if_neg (by decide)]
    have HP := Lib.hid (fun (e : Ending) (w2 : World) (he : e = .returned (.tuple #[]) ∧ ∃ ad' buf' pg', St x E wk w w2 (m) ad' buf' back pg') => (he.2.elim fun _ h2 => h2.elim fun _ h2 => h2.elim fun _ h2 => DoPost.ok (m := m) (T := False) h0 he.1 h2 rfl : DoPost x E wk w m (m) False e w2))
    clear h hmo hI hEh
    generalize reg m a = va at *
    generalize reg m b = vb at *
    refine Calls.mono ?_ HP.out
    go_enter Tryd.func70, Tryd.ntmps70
    go_wp2
    go_quiet (fail)
    go_wp2
    go_quiet (fail)
    go_wp2
    go_quiet (first | (go_at_call 114; refine (HB.out _).mono ?_; rintro e w3 ⟨rfl, rfl⟩; exact ⟨rfl, _, rfl⟩))
    go_wp2
    go_end0
    exact ⟨rfl, _, _, _, (by repeat' first | exact HH.out | apply St.alloc | apply St.drewN | apply St.drew)⟩
set_option maxHeartbeats 4000000 in
set_option maxRecDepth 100000 in
theorem do38 (h : St x E wk w w' m ad buf back pg) (h0 : m.stop = 0) (hI : Inv m) (a b : Nat) (ha : a < 12) (hb : b < 12) (imm : Int) (hi : -32768 ≤ imm ∧ imm ≤ 32767) (hp : 0 ≤ m.place ∧ m.place ≤ 65536) (hEh : E.holds = hs) :
    Calls Tryd.prog 70 #[.pointer (some ⟨x.bm, 0, none⟩), iV ⟨38, a, b, imm⟩] w' (DoPost x E wk w m (doStep E m ⟨38, a, b, imm⟩) False) := by
  have hmo : doStep E m ⟨38, a, b, imm⟩ = if hs 38 (reg m a) (reg m b) then { m with place := m.place + imm } else m := by rw [← hEh]; simp [doStep, plainStep, goesStep, followsP]
  rw [hmo]
  have HB := Lib.hid (fun (W : World) => holds_prog (op := 38) ⟨by omega, by omega⟩ (hI.reg a) (hI.reg b) W)
  obtain ⟨ca, fa⟩ := h.cell (k := 2 + a) (by omega)
  rw [cellOf_reg _ ha] at ca
  change _ = some (Value.int .u32 (reg m a)) at ca
  obtain ⟨cb, fb⟩ := h.cell (k := 2 + b) (by omega)
  rw [cellOf_reg _ hb] at cb
  change _ = some (Value.int .u32 (reg m b)) at cb
  have hlm := h.lm
  have ha2 : (a : Int) < 12 := by omega
  have hb2 : (b : Int) < 12 := by omega
  obtain ⟨va0, va1⟩ := hI.reg a
  obtain ⟨vb0, vb1⟩ := hI.reg b
  obtain ⟨i0, i1⟩ := hi
  have HH := Lib.hid h
  obtain ⟨c19, f19⟩ := h.cell (k := 19) (by decide)
  change _ = some (Value.int .i64 m.place) at c19
  have HS := Lib.hid (fun (W : World) (hW : St x E wk w W m ad buf back pg) => hW.setPlace (m.place + imm))
  generalize hs 38 (reg m a) (reg m b) = c at *
  obtain ⟨p0, p1⟩ := hp
  cases c with
  | true =>
    rw [if_pos rfl]
    have HP := Lib.hid (fun (e : Ending) (w2 : World) (he : e = .returned (.tuple #[]) ∧ ∃ ad' buf' pg', St x E wk w w2 ({ m with place := m.place + imm }) ad' buf' back pg') => (he.2.elim fun _ h2 => h2.elim fun _ h2 => h2.elim fun _ h2 => DoPost.ok (m := m) (T := False) h0 he.1 h2 rfl : DoPost x E wk w m ({ m with place := m.place + imm }) False e w2))
    clear h hmo hI hEh
    generalize m.place = p at *
    generalize reg m a = va at *
    generalize reg m b = vb at *
    refine Calls.mono ?_ HP.out
    go_enter Tryd.func70, Tryd.ntmps70
    go_wp2
    go_quiet (fail)
    go_wp2
    go_quiet (fail)
    go_wp2
    go_quiet (first | (go_at_call 114; refine (HB.out _).mono ?_; rintro e w3 ⟨rfl, rfl⟩; exact ⟨rfl, _, rfl⟩))
    go_wp2
    go_region
    all_goals
      go_wp2
      go_end0
      exact ⟨rfl, _, _, _, HS.out _ (by repeat' first | exact HH.out | apply St.alloc | apply St.drewN | apply St.drew)⟩
  | false =>
    rw [if_neg (by decide)]
    have HP := Lib.hid (fun (e : Ending) (w2 : World) (he : e = .returned (.tuple #[]) ∧ ∃ ad' buf' pg', St x E wk w w2 (m) ad' buf' back pg') => (he.2.elim fun _ h2 => h2.elim fun _ h2 => h2.elim fun _ h2 => DoPost.ok (m := m) (T := False) h0 he.1 h2 rfl : DoPost x E wk w m (m) False e w2))
    clear h hmo hI hEh
    generalize reg m a = va at *
    generalize reg m b = vb at *
    refine Calls.mono ?_ HP.out
    go_enter Tryd.func70, Tryd.ntmps70
    go_wp2
    go_quiet (fail)
    go_wp2
    go_quiet (fail)
    go_wp2
    go_quiet (first | (go_at_call 114; refine (HB.out _).mono ?_; rintro e w3 ⟨rfl, rfl⟩; exact ⟨rfl, _, rfl⟩))
    go_wp2
    go_end0
    exact ⟨rfl, _, _, _, (by repeat' first | exact HH.out | apply St.alloc | apply St.drewN | apply St.drew)⟩
set_option maxHeartbeats 4000000 in
set_option maxRecDepth 100000 in
theorem do39 (h : St x E wk w w' m ad buf back pg) (h0 : m.stop = 0) (hI : Inv m) (a b : Nat) (ha : a < 12) (hb : b < 12) (imm : Int) (hi : -32768 ≤ imm ∧ imm ≤ 32767) (hp : 0 ≤ m.place ∧ m.place ≤ 65536) (hEh : E.holds = hs) :
    Calls Tryd.prog 70 #[.pointer (some ⟨x.bm, 0, none⟩), iV ⟨39, a, b, imm⟩] w' (DoPost x E wk w m (doStep E m ⟨39, a, b, imm⟩) False) := by
  have hmo : doStep E m ⟨39, a, b, imm⟩ = if hs 39 (reg m a) (reg m b) then { m with place := m.place + imm } else m := by rw [← hEh]; simp [doStep, plainStep, goesStep, followsP]
  rw [hmo]
  have HB := Lib.hid (fun (W : World) => holds_prog (op := 39) ⟨by omega, by omega⟩ (hI.reg a) (hI.reg b) W)
  obtain ⟨ca, fa⟩ := h.cell (k := 2 + a) (by omega)
  rw [cellOf_reg _ ha] at ca
  change _ = some (Value.int .u32 (reg m a)) at ca
  obtain ⟨cb, fb⟩ := h.cell (k := 2 + b) (by omega)
  rw [cellOf_reg _ hb] at cb
  change _ = some (Value.int .u32 (reg m b)) at cb
  have hlm := h.lm
  have ha2 : (a : Int) < 12 := by omega
  have hb2 : (b : Int) < 12 := by omega
  obtain ⟨va0, va1⟩ := hI.reg a
  obtain ⟨vb0, vb1⟩ := hI.reg b
  obtain ⟨i0, i1⟩ := hi
  have HH := Lib.hid h
  obtain ⟨c19, f19⟩ := h.cell (k := 19) (by decide)
  change _ = some (Value.int .i64 m.place) at c19
  have HS := Lib.hid (fun (W : World) (hW : St x E wk w W m ad buf back pg) => hW.setPlace (m.place + imm))
  generalize hs 39 (reg m a) (reg m b) = c at *
  obtain ⟨p0, p1⟩ := hp
  cases c with
  | true =>
    rw [if_pos rfl]
    have HP := Lib.hid (fun (e : Ending) (w2 : World) (he : e = .returned (.tuple #[]) ∧ ∃ ad' buf' pg', St x E wk w w2 ({ m with place := m.place + imm }) ad' buf' back pg') => (he.2.elim fun _ h2 => h2.elim fun _ h2 => h2.elim fun _ h2 => DoPost.ok (m := m) (T := False) h0 he.1 h2 rfl : DoPost x E wk w m ({ m with place := m.place + imm }) False e w2))
    clear h hmo hI hEh
    generalize m.place = p at *
    generalize reg m a = va at *
    generalize reg m b = vb at *
    refine Calls.mono ?_ HP.out
    go_enter Tryd.func70, Tryd.ntmps70
    go_wp2
    go_quiet (fail)
    go_wp2
    go_quiet (fail)
    go_wp2
    go_quiet (first | (go_at_call 114; refine (HB.out _).mono ?_; rintro e w3 ⟨rfl, rfl⟩; exact ⟨rfl, _, rfl⟩))
    go_wp2
    go_region
    all_goals
      go_wp2
      go_end0
      exact ⟨rfl, _, _, _, HS.out _ (by repeat' first | exact HH.out | apply St.alloc | apply St.drewN | apply St.drew)⟩
  | false =>
    rw [if_neg (by decide)]
    have HP := Lib.hid (fun (e : Ending) (w2 : World) (he : e = .returned (.tuple #[]) ∧ ∃ ad' buf' pg', St x E wk w w2 (m) ad' buf' back pg') => (he.2.elim fun _ h2 => h2.elim fun _ h2 => h2.elim fun _ h2 => DoPost.ok (m := m) (T := False) h0 he.1 h2 rfl : DoPost x E wk w m (m) False e w2))
    clear h hmo hI hEh
    generalize reg m a = va at *
    generalize reg m b = vb at *
    refine Calls.mono ?_ HP.out
    go_enter Tryd.func70, Tryd.ntmps70
    go_wp2
    go_quiet (fail)
    go_wp2
    go_quiet (fail)
    go_wp2
    go_quiet (first | (go_at_call 114; refine (HB.out _).mono ?_; rintro e w3 ⟨rfl, rfl⟩; exact ⟨rfl, _, rfl⟩))
    go_wp2
    go_end0
    exact ⟨rfl, _, _, _, (by repeat' first | exact HH.out | apply St.alloc | apply St.drewN | apply St.drew)⟩
end
end Go.Proofs.YtopceggmdieppaaDoor.Emu
namespace Go.Proofs.YtopceggmdieppaaDoor.Emu
open Go.RowKit Go.Proofs.YtopceggmdieppaaDoor.Enc Go.Proofs.YtopceggmdieppaaDoor.Graph

section
variable {x : Fz} {E : Env} {wk : Nat → Value} {w w' w1 w2 : World} {m : M} {ad buf back : Value} {pg : Nat → Option Nat}
set_option maxHeartbeats 4000000 in
set_option maxRecDepth 100000 in
theorem doJ40 (h : St x E wk w w' m ad buf back pg) (h0 : m.stop = 0) (hI : Inv m) (hE : EnvOk E) (hp : 0 ≤ m.place ∧ m.place ≤ 65536) (a b : Nat) (ha : a < 12) (hb : b < 12) (imm : Int) (hi : -32768 ≤ imm ∧ imm ≤ 32767) :
    Calls Tryd.prog 70 #[.pointer (some ⟨x.bm, 0, none⟩), iV ⟨40, a, b, imm⟩] w' (DoPost x E wk w m (doStep E m ⟨40, a, b, imm⟩) False) := by
  have HJ := Lib.hid (fun (W : World) (hW : St x E wk w W m ad buf back pg) => jump_prog hW h0 hI hE hp ⟨40, a, b, imm⟩ ⟨by simp only; omega, by simp only; omega, by simp only; omega, hi⟩ (by simp only; omega))
  obtain ⟨ca, fa⟩ := h.cell (k := 2 + a) (by omega)
  rw [cellOf_reg _ ha] at ca
  change _ = some (Value.int .u32 (reg m a)) at ca
  obtain ⟨cb, fb⟩ := h.cell (k := 2 + b) (by omega)
  rw [cellOf_reg _ hb] at cb
  change _ = some (Value.int .u32 (reg m b)) at cb
  have hlm := h.lm
  have ha2 : (a : Int) < 12 := by omega
  have hb2 : (b : Int) < 12 := by omega
  obtain ⟨va0, va1⟩ := hI.reg a
  obtain ⟨vb0, vb1⟩ := hI.reg b
  obtain ⟨i0, i1⟩ := hi
  have HH := Lib.hid h
  by_cases hc : (doStep E m ⟨40, a, b, imm⟩).stop ≠ 2 ∨ False
  · have HTW := Lib.hid (fun (W : World) (hW : St x E wk w W m ad buf back pg) => (HJ.out W hW).mono (fun e w2 hd => hd.went hc))
    have HP := Lib.hid (fun (e : Ending) (w2 : World) he => DoPost.of_went (x := x) (E := E) (wk := wk) (w := w) (w2 := w2) (e := e) (m := m) hc he)
    clear HJ hc h hI h0
    generalize doStep E m ⟨40, a, b, imm⟩ = mo at *
    generalize reg m a = va at *
    generalize reg m b = vb at *
    refine Calls.mono ?_ HP.out
    go_enter Tryd.func70, Tryd.ntmps70
    go_wp2
    go_quiet (fail)
    go_wp2
    go_quiet (fail)
    go_wp2_with (go_at_call 113; refine (HTW.out _ ((HH.out.alloc _).drewN _)).mono ?_; rintro e w3 ⟨rfl, h3⟩; have H3 := Lib.hid h3; clear h3)
    go_end0
    exact ⟨rfl, H3.out⟩
  · have HTF := Lib.hid (fun (W : World) (hW : St x E wk w W m ad buf back pg) => (HJ.out W hW).mono (fun e w2 hd => hd.fell hc))
    have HP := Lib.hid (fun (e : Ending) (w2 : World) he => DoPost.of_fell (x := x) (E := E) (wk := wk) (w := w) (w2 := w2) (e := e) (m := m) hc he)
    clear HJ hc h hI h0
    generalize doStep E m ⟨40, a, b, imm⟩ = mo at *
    generalize reg m a = va at *
    generalize reg m b = vb at *
    refine Calls.mono ?_ HP.out
    go_enter Tryd.func70, Tryd.ntmps70
    go_wp2
    go_quiet (fail)
    go_wp2
    go_quiet (fail)
    go_wp2_with (go_at_call 113; refine (HTF.out _ ((HH.out.alloc _).drewN _)).mono ?_; rintro e w3 ⟨rfl, h3⟩; have H3 := Lib.hid h3; clear h3)
    exact ⟨rfl, rfl, H3.out⟩
set_option maxHeartbeats 4000000 in
set_option maxRecDepth 100000 in
theorem doJ41 (h : St x E wk w w' m ad buf back pg) (h0 : m.stop = 0) (hI : Inv m) (hE : EnvOk E) (hp : 0 ≤ m.place ∧ m.place ≤ 65536) (a b : Nat) (ha : a < 12) (hb : b < 12) (imm : Int) (hi : -32768 ≤ imm ∧ imm ≤ 32767) :
    Calls Tryd.prog 70 #[.pointer (some ⟨x.bm, 0, none⟩), iV ⟨41, a, b, imm⟩] w' (DoPost x E wk w m (doStep E m ⟨41, a, b, imm⟩) False) := by
  have HJ := Lib.hid (fun (W : World) (hW : St x E wk w W m ad buf back pg) => jump_prog hW h0 hI hE hp ⟨41, a, b, imm⟩ ⟨by simp only; omega, by simp only; omega, by simp only; omega, hi⟩ (by simp only; omega))
  obtain ⟨ca, fa⟩ := h.cell (k := 2 + a) (by omega)
  rw [cellOf_reg _ ha] at ca
  change _ = some (Value.int .u32 (reg m a)) at ca
  obtain ⟨cb, fb⟩ := h.cell (k := 2 + b) (by omega)
  rw [cellOf_reg _ hb] at cb
  change _ = some (Value.int .u32 (reg m b)) at cb
  have hlm := h.lm
  have ha2 : (a : Int) < 12 := by omega
  have hb2 : (b : Int) < 12 := by omega
  obtain ⟨va0, va1⟩ := hI.reg a
  obtain ⟨vb0, vb1⟩ := hI.reg b
  obtain ⟨i0, i1⟩ := hi
  have HH := Lib.hid h
  by_cases hc : (doStep E m ⟨41, a, b, imm⟩).stop ≠ 2 ∨ False
  · have HTW := Lib.hid (fun (W : World) (hW : St x E wk w W m ad buf back pg) => (HJ.out W hW).mono (fun e w2 hd => hd.went hc))
    have HP := Lib.hid (fun (e : Ending) (w2 : World) he => DoPost.of_went (x := x) (E := E) (wk := wk) (w := w) (w2 := w2) (e := e) (m := m) hc he)
    clear HJ hc h hI h0
    generalize doStep E m ⟨41, a, b, imm⟩ = mo at *
    generalize reg m a = va at *
    generalize reg m b = vb at *
    refine Calls.mono ?_ HP.out
    go_enter Tryd.func70, Tryd.ntmps70
    go_wp2
    go_quiet (fail)
    go_wp2
    go_quiet (fail)
    go_wp2_with (go_at_call 113; refine (HTW.out _ ((HH.out.alloc _).drewN _)).mono ?_; rintro e w3 ⟨rfl, h3⟩; have H3 := Lib.hid h3; clear h3)
    go_end0
    exact ⟨rfl, H3.out⟩
  · have HTF := Lib.hid (fun (W : World) (hW : St x E wk w W m ad buf back pg) => (HJ.out W hW).mono (fun e w2 hd => hd.fell hc))
    have HP := Lib.hid (fun (e : Ending) (w2 : World) he => DoPost.of_fell (x := x) (E := E) (wk := wk) (w := w) (w2 := w2) (e := e) (m := m) hc he)
    clear HJ hc h hI h0
    generalize doStep E m ⟨41, a, b, imm⟩ = mo at *
    generalize reg m a = va at *
    generalize reg m b = vb at *
    refine Calls.mono ?_ HP.out
    go_enter Tryd.func70, Tryd.ntmps70
    go_wp2
    go_quiet (fail)
    go_wp2
    go_quiet (fail)
    go_wp2_with (go_at_call 113; refine (HTF.out _ ((HH.out.alloc _).drewN _)).mono ?_; rintro e w3 ⟨rfl, h3⟩; have H3 := Lib.hid h3; clear h3)
    exact ⟨rfl, rfl, H3.out⟩
set_option maxHeartbeats 4000000 in
set_option maxRecDepth 100000 in
theorem doJ42 (h : St x E wk w w' m ad buf back pg) (h0 : m.stop = 0) (hI : Inv m) (hE : EnvOk E) (hp : 0 ≤ m.place ∧ m.place ≤ 65536) (a b : Nat) (ha : a < 12) (hb : b < 12) (imm : Int) (hi : -32768 ≤ imm ∧ imm ≤ 32767) :
    Calls Tryd.prog 70 #[.pointer (some ⟨x.bm, 0, none⟩), iV ⟨42, a, b, imm⟩] w' (DoPost x E wk w m (doStep E m ⟨42, a, b, imm⟩) False) := by
  have HJ := Lib.hid (fun (W : World) (hW : St x E wk w W m ad buf back pg) => jump_prog hW h0 hI hE hp ⟨42, a, b, imm⟩ ⟨by simp only; omega, by simp only; omega, by simp only; omega, hi⟩ (by simp only; omega))
  obtain ⟨ca, fa⟩ := h.cell (k := 2 + a) (by omega)
  rw [cellOf_reg _ ha] at ca
  change _ = some (Value.int .u32 (reg m a)) at ca
  obtain ⟨cb, fb⟩ := h.cell (k := 2 + b) (by omega)
  rw [cellOf_reg _ hb] at cb
  change _ = some (Value.int .u32 (reg m b)) at cb
  have hlm := h.lm
  have ha2 : (a : Int) < 12 := by omega
  have hb2 : (b : Int) < 12 := by omega
  obtain ⟨va0, va1⟩ := hI.reg a
  obtain ⟨vb0, vb1⟩ := hI.reg b
  obtain ⟨i0, i1⟩ := hi
  have HH := Lib.hid h
  by_cases hc : (doStep E m ⟨42, a, b, imm⟩).stop ≠ 2 ∨ False
  · have HTW := Lib.hid (fun (W : World) (hW : St x E wk w W m ad buf back pg) => (HJ.out W hW).mono (fun e w2 hd => hd.went hc))
    have HP := Lib.hid (fun (e : Ending) (w2 : World) he => DoPost.of_went (x := x) (E := E) (wk := wk) (w := w) (w2 := w2) (e := e) (m := m) hc he)
    clear HJ hc h hI h0
    generalize doStep E m ⟨42, a, b, imm⟩ = mo at *
    generalize reg m a = va at *
    generalize reg m b = vb at *
    refine Calls.mono ?_ HP.out
    go_enter Tryd.func70, Tryd.ntmps70
    go_wp2
    go_quiet (fail)
    go_wp2
    go_quiet (fail)
    go_wp2_with (go_at_call 113; refine (HTW.out _ ((HH.out.alloc _).drewN _)).mono ?_; rintro e w3 ⟨rfl, h3⟩; have H3 := Lib.hid h3; clear h3)
    go_end0
    exact ⟨rfl, H3.out⟩
  · have HTF := Lib.hid (fun (W : World) (hW : St x E wk w W m ad buf back pg) => (HJ.out W hW).mono (fun e w2 hd => hd.fell hc))
    have HP := Lib.hid (fun (e : Ending) (w2 : World) he => DoPost.of_fell (x := x) (E := E) (wk := wk) (w := w) (w2 := w2) (e := e) (m := m) hc he)
    clear HJ hc h hI h0
    generalize doStep E m ⟨42, a, b, imm⟩ = mo at *
    generalize reg m a = va at *
    generalize reg m b = vb at *
    refine Calls.mono ?_ HP.out
    go_enter Tryd.func70, Tryd.ntmps70
    go_wp2
    go_quiet (fail)
    go_wp2
    go_quiet (fail)
    go_wp2_with (go_at_call 113; refine (HTF.out _ ((HH.out.alloc _).drewN _)).mono ?_; rintro e w3 ⟨rfl, h3⟩; have H3 := Lib.hid h3; clear h3)
    exact ⟨rfl, rfl, H3.out⟩
set_option maxHeartbeats 4000000 in
set_option maxRecDepth 100000 in
theorem doJ43 (h : St x E wk w w' m ad buf back pg) (h0 : m.stop = 0) (hI : Inv m) (hE : EnvOk E) (hp : 0 ≤ m.place ∧ m.place ≤ 65536) (a b : Nat) (ha : a < 12) (hb : b < 12) (imm : Int) (hi : -32768 ≤ imm ∧ imm ≤ 32767) :
    Calls Tryd.prog 70 #[.pointer (some ⟨x.bm, 0, none⟩), iV ⟨43, a, b, imm⟩] w' (DoPost x E wk w m (doStep E m ⟨43, a, b, imm⟩) False) := by
  have HJ := Lib.hid (fun (W : World) (hW : St x E wk w W m ad buf back pg) => jump_prog hW h0 hI hE hp ⟨43, a, b, imm⟩ ⟨by simp only; omega, by simp only; omega, by simp only; omega, hi⟩ (by simp only; omega))
  obtain ⟨ca, fa⟩ := h.cell (k := 2 + a) (by omega)
  rw [cellOf_reg _ ha] at ca
  change _ = some (Value.int .u32 (reg m a)) at ca
  obtain ⟨cb, fb⟩ := h.cell (k := 2 + b) (by omega)
  rw [cellOf_reg _ hb] at cb
  change _ = some (Value.int .u32 (reg m b)) at cb
  have hlm := h.lm
  have ha2 : (a : Int) < 12 := by omega
  have hb2 : (b : Int) < 12 := by omega
  obtain ⟨va0, va1⟩ := hI.reg a
  obtain ⟨vb0, vb1⟩ := hI.reg b
  obtain ⟨i0, i1⟩ := hi
  have HH := Lib.hid h
  by_cases hc : (doStep E m ⟨43, a, b, imm⟩).stop ≠ 2 ∨ False
  · have HTW := Lib.hid (fun (W : World) (hW : St x E wk w W m ad buf back pg) => (HJ.out W hW).mono (fun e w2 hd => hd.went hc))
    have HP := Lib.hid (fun (e : Ending) (w2 : World) he => DoPost.of_went (x := x) (E := E) (wk := wk) (w := w) (w2 := w2) (e := e) (m := m) hc he)
    clear HJ hc h hI h0
    generalize doStep E m ⟨43, a, b, imm⟩ = mo at *
    generalize reg m a = va at *
    generalize reg m b = vb at *
    refine Calls.mono ?_ HP.out
    go_enter Tryd.func70, Tryd.ntmps70
    go_wp2
    go_quiet (fail)
    go_wp2
    go_quiet (fail)
    go_wp2_with (go_at_call 113; refine (HTW.out _ ((HH.out.alloc _).drewN _)).mono ?_; rintro e w3 ⟨rfl, h3⟩; have H3 := Lib.hid h3; clear h3)
    go_end0
    exact ⟨rfl, H3.out⟩
  · have HTF := Lib.hid (fun (W : World) (hW : St x E wk w W m ad buf back pg) => (HJ.out W hW).mono (fun e w2 hd => hd.fell hc))
    have HP := Lib.hid (fun (e : Ending) (w2 : World) he => DoPost.of_fell (x := x) (E := E) (wk := wk) (w := w) (w2 := w2) (e := e) (m := m) hc he)
    clear HJ hc h hI h0
    generalize doStep E m ⟨43, a, b, imm⟩ = mo at *
    generalize reg m a = va at *
    generalize reg m b = vb at *
    refine Calls.mono ?_ HP.out
    go_enter Tryd.func70, Tryd.ntmps70
    go_wp2
    go_quiet (fail)
    go_wp2
    go_quiet (fail)
    go_wp2_with (go_at_call 113; refine (HTF.out _ ((HH.out.alloc _).drewN _)).mono ?_; rintro e w3 ⟨rfl, h3⟩; have H3 := Lib.hid h3; clear h3)
    exact ⟨rfl, rfl, H3.out⟩
set_option maxHeartbeats 4000000 in
set_option maxRecDepth 100000 in
theorem doJ44 (h : St x E wk w w' m ad buf back pg) (h0 : m.stop = 0) (hI : Inv m) (hE : EnvOk E) (hp : 0 ≤ m.place ∧ m.place ≤ 65536) (a b : Nat) (ha : a < 12) (hb : b < 12) (imm : Int) (hi : -32768 ≤ imm ∧ imm ≤ 32767) :
    Calls Tryd.prog 70 #[.pointer (some ⟨x.bm, 0, none⟩), iV ⟨44, a, b, imm⟩] w' (DoPost x E wk w m (doStep E m ⟨44, a, b, imm⟩) False) := by
  have HJ := Lib.hid (fun (W : World) (hW : St x E wk w W m ad buf back pg) => jump_prog hW h0 hI hE hp ⟨44, a, b, imm⟩ ⟨by simp only; omega, by simp only; omega, by simp only; omega, hi⟩ (by simp only; omega))
  obtain ⟨ca, fa⟩ := h.cell (k := 2 + a) (by omega)
  rw [cellOf_reg _ ha] at ca
  change _ = some (Value.int .u32 (reg m a)) at ca
  obtain ⟨cb, fb⟩ := h.cell (k := 2 + b) (by omega)
  rw [cellOf_reg _ hb] at cb
  change _ = some (Value.int .u32 (reg m b)) at cb
  have hlm := h.lm
  have ha2 : (a : Int) < 12 := by omega
  have hb2 : (b : Int) < 12 := by omega
  obtain ⟨va0, va1⟩ := hI.reg a
  obtain ⟨vb0, vb1⟩ := hI.reg b
  obtain ⟨i0, i1⟩ := hi
  have HH := Lib.hid h
  by_cases hc : (doStep E m ⟨44, a, b, imm⟩).stop ≠ 2 ∨ False
  · have HTW := Lib.hid (fun (W : World) (hW : St x E wk w W m ad buf back pg) => (HJ.out W hW).mono (fun e w2 hd => hd.went hc))
    have HP := Lib.hid (fun (e : Ending) (w2 : World) he => DoPost.of_went (x := x) (E := E) (wk := wk) (w := w) (w2 := w2) (e := e) (m := m) hc he)
    clear HJ hc h hI h0
    generalize doStep E m ⟨44, a, b, imm⟩ = mo at *
    generalize reg m a = va at *
    generalize reg m b = vb at *
    refine Calls.mono ?_ HP.out
    go_enter Tryd.func70, Tryd.ntmps70
    go_wp2
    go_quiet (fail)
    go_wp2
    go_quiet (fail)
    go_wp2_with (go_at_call 113; refine (HTW.out _ ((HH.out.alloc _).drewN _)).mono ?_; rintro e w3 ⟨rfl, h3⟩; have H3 := Lib.hid h3; clear h3)
    go_end0
    exact ⟨rfl, H3.out⟩
  · have HTF := Lib.hid (fun (W : World) (hW : St x E wk w W m ad buf back pg) => (HJ.out W hW).mono (fun e w2 hd => hd.fell hc))
    have HP := Lib.hid (fun (e : Ending) (w2 : World) he => DoPost.of_fell (x := x) (E := E) (wk := wk) (w := w) (w2 := w2) (e := e) (m := m) hc he)
    clear HJ hc h hI h0
    generalize doStep E m ⟨44, a, b, imm⟩ = mo at *
    generalize reg m a = va at *
    generalize reg m b = vb at *
    refine Calls.mono ?_ HP.out
    go_enter Tryd.func70, Tryd.ntmps70
    go_wp2
    go_quiet (fail)
    go_wp2
    go_quiet (fail)
    go_wp2_with (go_at_call 113; refine (HTF.out _ ((HH.out.alloc _).drewN _)).mono ?_; rintro e w3 ⟨rfl, h3⟩; have H3 := Lib.hid h3; clear h3)
    exact ⟨rfl, rfl, H3.out⟩
end
end Go.Proofs.YtopceggmdieppaaDoor.Emu
