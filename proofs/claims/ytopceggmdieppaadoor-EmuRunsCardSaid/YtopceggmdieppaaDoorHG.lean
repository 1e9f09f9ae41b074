/- The instructions: branches. No condition. -/
import Derived.Test.YtopceggmdieppaaDoorHB
namespace Go.Proofs.YtopceggmdieppaaDoor.Emu
open Go.RowKit Go.Proofs.YtopceggmdieppaaDoor.Enc Go.Proofs.YtopceggmdieppaaDoor.Graph

section
variable {x : Fz} {E : Env} {wk : Nat → Value} {w w' w1 w2 : World} {m : M} {ad buf back : Value} {pg : Nat → Option Nat}
set_option maxHeartbeats 4000000 in
set_option maxRecDepth 100000 in
theorem do30 (h : St x E wk w w' m ad buf back pg) (h0 : m.stop = 0) (hI : Inv m) (a b : Nat) (ha : a < 12) (hb : b < 12) (imm : Int) (hi : -32768 ≤ imm ∧ imm ≤ 32767) (hp : 0 ≤ m.place ∧ m.place ≤ 65536) (hEh : E.holds = hs) :
    Calls Tryd.prog 70 #[.pointer (some ⟨x.bm, 0, none⟩), iV ⟨30, a, b, imm⟩] w' (DoPost x E wk w m (doStep E m ⟨30, a, b, imm⟩) False) := by
  have hmo : doStep E m ⟨30, a, b, imm⟩ = if hs 30 (reg m a) (reg m b) then { m with place := m.place + imm } else m := by rw [← hEh]; simp [doStep, plainStep, goesStep, followsP]
  rw [hmo]
  have HB := Lib.hid (fun (W : World) => holds_prog (op := 30) ⟨by omega, by omega⟩ (hI.reg a) (hI.reg b) W)
  obtain ⟨ca, fa⟩ := h.cell (k := 2 + a) (by omega)
  rw [cellOf_reg _ ha] at ca
  change _ = some (Value.int .u32 (reg m a)) at ca
  obtain ⟨cb, fb⟩ := h.cell (k := 2 + b) (by omega)
  rw [cellOf_reg _ hb] at cb
  change _ = some (Value.int .u32 (reg m b)) at cb
  have hlm := h.lm
  have ha2 : (a : Int) < 12 := by omega
  have hb2 : (b : Int) < 12 := by omega
  obtain ⟨va0, va1⟩ := hI.reg a
  obtain ⟨vb0, vb1⟩ := hI.reg b
  obtain ⟨i0, i1⟩ := hi
  have HH := Lib.hid h
  obtain ⟨c19, f19⟩ := h.cell (k := 19) (by decide)
  change _ = some (Value.int .i64 m.place) at c19
  have HS := Lib.hid (fun (W : World) (hW : St x E wk w W m ad buf back pg) => hW.setPlace (m.place + imm))
  generalize hs 30 (reg m a) (reg m b) = c at *
  obtain ⟨p0, p1⟩ := hp
  cases c with
  | true =>
    rw [if_pos rfl]
    have HP := Lib.hid (fun (e : Ending) (w2 : World) (he : e = .returned (.tuple #[]) ∧ ∃ ad' buf' pg', St x E wk w w2 ({ m with place := m.place + imm }) ad' buf' back pg') => (he.2.elim fun _ h2 => h2.elim fun _ h2 => h2.elim fun _ h2 => DoPost.ok (m := m) (T := False) h0 he.1 h2 rfl : DoPost x E wk w m ({ m with place := m.place + imm }) False e w2))
    clear h hmo hI hEh
    generalize m.place = p at *
    generalize reg m a = va at *
    generalize reg m b = vb at *
    refine Calls.mono ?_ HP.out
    go_enter Tryd.func70, Tryd.ntmps70
    go_wp2
    go_quiet (fail)
    go_wp2
    go_quiet (fail)
    go_wp2
    go_quiet (first | (go_at_call 114; refine (HB.out _).mono ?_; rintro e w3 ⟨rfl, rfl⟩; exact ⟨rfl, _, rfl⟩))
    go_wp2
    go_region
    all_goals
      go_wp2
      go_end0
      exact ⟨rfl, _, _, _, HS.out _ (by repeat' first | exact HH.out | apply St.alloc | apply St.drewN | apply St.drew)⟩
  | false =>
    rw [if_neg (by decide)]
    have HP := Lib.hid (fun (e : Ending) (w2 : World) (he : e = .returned (.tuple #[]) ∧ ∃ ad' buf' pg', St x E wk w w2 (m) ad' buf' back pg') => (he.2.elim fun _ h2 => h2.elim fun _ h2 => h2.elim fun _ h2 => DoPost.ok (m := m) (T := False) h0 he.1 h2 rfl : DoPost x E wk w m (m) False e w2))
    clear h hmo hI hEh
    generalize reg m a = va at *
    generalize reg m b = vb at *
    refine Calls.mono ?_ HP.out
    go_enter Tryd.func70, Tryd.ntmps70
    go_wp2
    go_quiet (fail)
    go_wp2
    go_quiet (fail)
    go_wp2
    go_quiet (first | (go_at_call 114; refine (HB.out _).mono ?_; rintro e w3 ⟨rfl, rfl⟩; exact ⟨rfl, _, rfl⟩))
    go_wp2
    go_end0
    exact ⟨rfl, _, _, _, (by repeat' first | exact HH.out | apply St.alloc | apply St.drewN | apply St.drew)⟩
set_option maxHeartbeats 4000000 in
set_option maxRecDepth 100000 in
theorem do31 (h : St x E wk w w' m ad buf back pg) (h0 : m.stop = 0) (hI : Inv m) (a b : Nat) (ha : a < 12) (hb : b < 12) (imm : Int) (hi : -32768 ≤ imm ∧ imm ≤ 32767) (hp : 0 ≤ m.place ∧ m.place ≤ 65536) (hEh : E.holds = hs) :
    Calls Tryd.prog 70 #[.pointer (some ⟨x.bm, 0, none⟩), iV ⟨31, a, b, imm⟩] w' (DoPost x E wk w m (doStep E m ⟨31, a, b, imm⟩) False) := by
  have hmo : doStep E m ⟨31, a, b, imm⟩ = if hs 31 (reg m a) (reg m b) then { m with place := m.place + imm } else m := by rw [← hEh]; simp [doStep, plainStep, goesStep, followsP]
  rw [hmo]
  have HB := Lib.hid (fun (W : World) => holds_prog (op := 31) ⟨by omega, by omega⟩ (hI.reg a) (hI.reg b) W)
  obtain ⟨ca, fa⟩ := h.cell (k := 2 + a) (by omega)
  rw [cellOf_reg _ ha] at ca
  change _ = some (Value.int .u32 (reg m a)) at ca
  obtain ⟨cb, fb⟩ := h.cell (k := 2 + b) (by omega)
  rw [cellOf_reg _ hb] at cb
  change _ = some (Value.int .u32 (reg m b)) at cb
  have hlm := h.lm
  have ha2 : (a : Int) < 12 := by omega
  have hb2 : (b : Int) < 12 := by omega
  obtain ⟨va0, va1⟩ := hI.reg a
  obtain ⟨vb0, vb1⟩ := hI.reg b
  obtain ⟨i0, i1⟩ := hi
  have HH := Lib.hid h
  obtain ⟨c19, f19⟩ := h.cell (k := 19) (by decide)
  change _ = some (Value.int .i64 m.place) at c19
  have HS := Lib.hid (fun (W : World) (hW : St x E wk w W m ad buf back pg) => hW.setPlace (m.place + imm))
  generalize hs 31 (reg m a) (reg m b) = c at *
  obtain ⟨p0, p1⟩ := hp
  cases c with
  | true =>
    rw [if_pos rfl]
    have HP := Lib.hid (fun (e : Ending) (w2 : World) (he : e = .returned (.tuple #[]) ∧ ∃ ad' buf' pg', St x E wk w w2 ({ m with place := m.place + imm }) ad' buf' back pg') => (he.2.elim fun _ h2 => h2.elim fun _ h2 => h2.elim fun _ h2 => DoPost.ok (m := m) (T := False) h0 he.1 h2 rfl : DoPost x E wk w m ({ m with place := m.place + imm }) False e w2))
    clear h hmo hI hEh
    generalize m.place = p at *
    generalize reg m a = va at *
    generalize reg m b = vb at *
    refine Calls.mono ?_ HP.out
    go_enter Tryd.func70, Tryd.ntmps70
    go_wp2
    go_quiet (fail)
    go_wp2
    go_quiet (fail)
    go_wp2
    go_quiet (first | (go_at_call 114; refine (HB.out _).mono ?_; rintro e w3 ⟨rfl, rfl⟩; exact ⟨rfl, _, rfl⟩))
    go_wp2
    go_region
    all_goals
      go_wp2
      go_end0
      exact ⟨rfl, _, _, _, HS.out _ (by repeat' first | exact HH.out | apply St.alloc | apply St.drewN | apply St.drew)⟩
  | false =>
    rw [if_neg (by decide)]
    have HP := Lib.hid (fun (e : Ending) (w2 : World) (he : e = .returned (.tuple #[]) ∧ ∃ ad' buf' pg', St x E wk w w2 (m) ad' buf' back pg') => (he.2.elim fun _ h2 => h2.elim fun _ h2 => h2.elim fun _ h2 => DoPost.ok (m := m) (T := False) h0 he.1 h2 rfl : DoPost x E wk w m (m) False e w2))
    clear h hmo hI hEh
    generalize reg m a = va at *
    generalize reg m b = vb at *
    refine Calls.mono ?_ HP.out
    go_enter Tryd.func70, Tryd.ntmps70
    go_wp2
    go_quiet (fail)
    go_wp2
    go_quiet (fail)
    go_wp2
    go_quiet (first | (go_at_call 114; refine (HB.out _).mono ?_; rintro e w3 ⟨rfl, rfl⟩; exact ⟨rfl, _, rfl⟩))
    go_wp2
    go_end0
    exact ⟨rfl, _, _, _, (by repeat' first | exact HH.out | apply St.alloc | apply St.drewN | apply St.drew)⟩
set_option maxHeartbeats 4000000 in
set_option maxRecDepth 100000 in
theorem do32 (h : St x E wk w w' m ad buf back pg) (h0 : m.stop = 0) (hI : Inv m) (a b : Nat) (ha : a < 12) (hb : b < 12) (imm : Int) (hi : -32768 ≤ imm ∧ imm ≤ 32767) (hp : 0 ≤ m.place ∧ m.place ≤ 65536) (hEh : E.holds = hs) :
    Calls Tryd.prog 70 #[.pointer (some ⟨x.bm, 0, none⟩), iV ⟨32, a, b, imm⟩] w' (DoPost x E wk w m (doStep E m ⟨32, a, b, imm⟩) False) := by
  have hmo : doStep E m ⟨32, a, b, imm⟩ = if hs 32 (reg m a) (reg m b) then { m with place := m.place + imm } else m := by rw [← hEh]; simp [doStep, plainStep, goesStep, followsP]
  rw [hmo]
  have HB := Lib.hid (fun (W : World) => holds_prog (op := 32) ⟨by omega, by omega⟩ (hI.reg a) (hI.reg b) W)
  obtain ⟨ca, fa⟩ := h.cell (k := 2 + a) (by omega)
  rw [cellOf_reg _ ha] at ca
  change _ = some (Value.int .u32 (reg m a)) at ca
  obtain ⟨cb, fb⟩ := h.cell (k := 2 + b) (by omega)
  rw [cellOf_reg _ hb] at cb
  change _ = some (Value.int .u32 (reg m b)) at cb
  have hlm := h.lm
  have ha2 : (a : Int) < 12 := by omega
  have hb2 : (b : Int) < 12 := by omega
  obtain ⟨va0, va1⟩ := hI.reg a
  obtain ⟨vb0, vb1⟩ := hI.reg b
  obtain ⟨i0, i1⟩ := hi
  have HH := Lib.hid h
  obtain ⟨c19, f19⟩ := h.cell (k := 19) (by decide)
  change _ = some (Value.int .i64 m.place) at c19
  have HS := Lib.hid (fun (W : World) (hW : St x E wk w W m ad buf back pg) => hW.setPlace (m.place + imm))
  generalize hs 32 (reg m a) (reg m b) = c at *
  obtain ⟨p0, p1⟩ := hp
  cases c with
  | true =>
    rw [if_pos rfl]
    have HP := Lib.hid (fun (e : Ending) (w2 : World) (he : e = .returned (.tuple #[]) ∧ ∃ ad' buf' pg', St x E wk w w2 ({ m with place := m.place + imm }) ad' buf' back pg') => (he.2.elim fun _ h2 => h2.elim fun _ h2 => h2.elim fun _ h2 => DoPost.ok (m := m) (T := False) h0 he.1 h2 rfl : DoPost x E wk w m ({ m with place := m.place + imm }) False e w2))
    clear h hmo hI hEh
    generalize m.place = p at *
    generalize reg m a = va at *
    generalize reg m b = vb at *
    refine Calls.mono ?_ HP.out
    go_enter Tryd.func70, Tryd.ntmps70
    go_wp2
    go_quiet (fail)
    go_wp2
    go_quiet (fail)
    go_wp2
    go_quiet (first | (go_at_call 114; refine (HB.out _).mono ?_; rintro e w3 ⟨rfl, rfl⟩; exact ⟨rfl, _, rfl⟩))
    go_wp2
    go_region
    all_goals
      go_wp2
      go_end0
      exact ⟨rfl, _, _, _, HS.out _ (by repeat' first | exact HH.out | apply St.alloc | apply St.drewN | apply St.drew)⟩
  | false =>
    rw [if_neg (by decide)]
    have HP := Lib.hid (fun (e : Ending) (w2 : World) (he : e = .returned (.tuple #[]) ∧ ∃ ad' buf' pg', St x E wk w w2 (m) ad' buf' back pg') => (he.2.elim fun _ h2 => h2.elim fun _ h2 => h2.elim fun _ h2 => DoPost.ok (m := m) (T := False) h0 he.1 h2 rfl : DoPost x E wk w m (m) False e w2))
    clear h hmo hI hEh
    generalize reg m a = va at *
    generalize reg m b = vb at *
    refine Calls.mono ?_ HP.out
    go_enter Tryd.func70, Tryd.ntmps70
    go_wp2
    go_quiet (fail)
    go_wp2
    go_quiet (fail)
    go_wp2
    go_quiet (first | (go_at_call 114; refine (HB.out _).mono ?_; rintro e w3 ⟨rfl, rfl⟩; exact ⟨rfl, _, rfl⟩))
    go_wp2
    go_end0
    exact ⟨rfl, _, _, _, (by repeat' first | exact HH.out | apply St.alloc | apply St.drewN | apply St.drew)⟩
set_option maxHeartbeats 4000000 in
set_option maxRecDepth 100000 in
theorem do33 (h : St x E wk w w' m ad buf back pg) (h0 : m.stop = 0) (hI : Inv m) (a b : Nat) (ha : a < 12) (hb : b < 12) (imm : Int) (hi : -32768 ≤ imm ∧ imm ≤ 32767) (hp : 0 ≤ m.place ∧ m.place ≤ 65536) (hEh : E.holds = hs) :
    Calls Tryd.prog 70 #[.pointer (some ⟨x.bm, 0, none⟩), iV ⟨33, a, b, imm⟩] w' (DoPost x E wk w m (doStep E m ⟨33, a, b, imm⟩) False) := by
  have hmo : doStep E m ⟨33, a, b, imm⟩ = if hs 33 (reg m a) (reg m b) then { m with place := m.place + imm } else m := by rw [← hEh]; simp [doStep, plainStep, goesStep, followsP]
  rw [hmo]
  have HB := Lib.hid (fun (W : World) => holds_prog (op := 33) ⟨by omega, by omega⟩ (hI.reg a) (hI.reg b) W)
  obtain ⟨ca, fa⟩ := h.cell (k := 2 + a) (by omega)
  rw [cellOf_reg _ ha] at ca
  change _ = some (Value.int .u32 (reg m a)) at ca
  obtain ⟨cb, fb⟩ := h.cell (k := 2 + b) (by omega)
  rw [cellOf_reg _ hb] at cb
  change _ = some (Value.int .u32 (reg m b)) at cb
  have hlm := h.lm
  have ha2 : (a : Int) < 12 := by omega
  have hb2 : (b : Int) < 12 := by omega
  obtain ⟨va0, va1⟩ := hI.reg a
  obtain ⟨vb0, vb1⟩ := hI.reg b
  obtain ⟨i0, i1⟩ := hi
  have HH := Lib.hid h
  obtain ⟨c19, f19⟩ := h.cell (k := 19) (by decide)
  change _ = some (Value.int .i64 m.place) at c19
  have HS := Lib.hid (fun (W : World) (hW : St x E wk w W m ad buf back pg) => hW.setPlace (m.place + imm))
  generalize hs 33 (reg m a) (reg m b) = c at *
  obtain ⟨p0, p1⟩ := hp
  cases c with
  | true =>
    rw [if_pos rfl]
    have HP := Lib.hid (fun (e : Ending) (w2 : World) (he : e = .returned (.tuple #[]) ∧ ∃ ad' buf' pg', St x E wk w w2 ({ m with place := m.place + imm }) ad' buf' back pg') => (he.2.elim fun _ h2 => h2.elim fun _ h2 => h2.elim fun _ h2 => DoPost.ok (m := m) (T := False) h0 he.1 h2 rfl : DoPost x E wk w m ({ m with place := m.place + imm }) False e w2))
    clear h hmo hI hEh
    generalize m.place = p at *
    generalize reg m a = va at *
    generalize reg m b = vb at *
    refine Calls.mono ?_ HP.out
    go_enter Tryd.func70, Tryd.ntmps70
    go_wp2
    go_quiet (fail)
    go_wp2
    go_quiet (fail)
    go_wp2
    go_quiet (first | (go_at_call 114; refine (HB.out _).mono ?_; rintro e w3 ⟨rfl, rfl⟩; exact ⟨rfl, _, rfl⟩))
    go_wp2
    go_region
    all_goals
      go_wp2
      go_end0
      exact ⟨rfl, _, _, _, HS.out _ (by repeat' first | exact HH.out | apply St.alloc | apply St.drewN | apply St.drew)⟩
  | false =>
    rw [if_neg (by decide)]
    have HP := Lib.hid (fun (e : Ending) (w2 : World) (he : e = .returned (.tuple #[]) ∧ ∃ ad' buf' pg', St x E wk w w2 (m) ad' buf' back pg') => (he.2.elim fun _ h2 => h2.elim fun _ h2 => h2.elim fun _ h2 => DoPost.ok (m := m) (T := False) h0 he.1 h2 rfl : DoPost x E wk w m (m) False e w2))
    clear h hmo hI hEh
    generalize reg m a = va at *
    generalize reg m b = vb at *
    refine Calls.mono ?_ HP.out
    go_enter Tryd.func70, Tryd.ntmps70
    go_wp2
    go_quiet (fail)
    go_wp2
    go_quiet (fail)
    go_wp2
    go_quiet (first | (go_at_call 114; refine (HB.out _).mono ?_; rintro e w3 ⟨rfl, rfl⟩; exact ⟨rfl, _, rfl⟩))
    go_wp2
    go_end0
    exact ⟨rfl, _, _, _, (by repeat' first | exact HH.out | apply St.alloc | apply St.drewN | apply St.drew)⟩
set_option maxHeartbeats 4000000 in
set_option maxRecDepth 100000 in
theorem do34 (h : St x E wk w w' m ad buf back pg) (h0 : m.stop = 0) (hI : Inv m) (a b : Nat) (ha : a < 12) (hb : b < 12) (imm : Int) (hi : -32768 ≤ imm ∧ imm ≤ 32767) (hp : 0 ≤ m.place ∧ m.place ≤ 65536) (hEh : E.holds = hs) :
    Calls Tryd.prog 70 #[.pointer (some ⟨x.bm, 0, none⟩), iV ⟨34, a, b, imm⟩] w' (DoPost x E wk w m (doStep E m ⟨34, a, b, imm⟩) False) := by
  have hmo : doStep E m ⟨34, a, b, imm⟩ = if hs 34 (reg m a) (reg m b) then { m with place := m.place + imm } else m := by rw [← hEh]; simp [doStep, plainStep, goesStep, followsP]
  rw [hmo]
  have HB := Lib.hid (fun (W : World) => holds_prog (op := 34) ⟨by omega, by omega⟩ (hI.reg a) (hI.reg b) W)
  obtain ⟨ca, fa⟩ := h.cell (k := 2 + a) (by omega)
  rw [cellOf_reg _ ha] at ca
  change _ = some (Value.int .u32 (reg m a)) at ca
  obtain ⟨cb, fb⟩ := h.cell (k := 2 + b) (by omega)
  rw [cellOf_reg _ hb] at cb
  change _ = some (Value.int .u32 (reg m b)) at cb
  have hlm := h.lm
  have ha2 : (a : Int) < 12 := by omega
  have hb2 : (b : Int) < 12 := by omega
  obtain ⟨va0, va1⟩ := hI.reg a
  obtain ⟨vb0, vb1⟩ := hI.reg b
  obtain ⟨i0, i1⟩ := hi
  have HH := Lib.hid h
  obtain ⟨c19, f19⟩ := h.cell (k := 19) (by decide)
  change _ = some (Value.int .i64 m.place) at c19
  have HS := Lib.hid (fun (W : World) (hW : St x E wk w W m ad buf back pg) => hW.setPlace (m.place + imm))
  generalize hs 34 (reg m a) (reg m b) = c at *
  obtain ⟨p0, p1⟩ := hp
  cases c with
  | true =>
    rw [if_pos rfl]
    have HP := Lib.hid (fun (e : Ending) (w2 : World) (he : e = .returned (.tuple #[]) ∧ ∃ ad' buf' pg', St x E wk w w2 ({ m with place := m.place + imm }) ad' buf' back pg') => (he.2.elim fun _ h2 => h2.elim fun _ h2 => h2.elim fun _ h2 => DoPost.ok (m := m) (T := False) h0 he.1 h2 rfl : DoPost x E wk w m ({ m with place := m.place + imm }) False e w2))
    clear h hmo hI hEh
    generalize m.place = p at *
    generalize reg m a = va at *
    generalize reg m b = vb at *
    refine Calls.mono ?_ HP.out
    go_enter Tryd.func70, Tryd.ntmps70
    go_wp2
    go_quiet (fail)
    go_wp2
    go_quiet (fail)
    go_wp2
    go_quiet (first | (go_at_call 114; refine (HB.out _).mono ?_; rintro e w3 ⟨rfl, rfl⟩; exact ⟨rfl, _, rfl⟩))
    go_wp2
    go_region
    all_goals
      go_wp2
      go_end0
      exact ⟨rfl, _, _, _, HS.out _ (by repeat' first | exact HH.out | apply St.alloc | apply St.drewN | apply St.drew)⟩
  | false =>
    rw [if_neg (by decide)]
    have HP := Lib.hid (fun (e : Ending) (w2 : World) (he : e = .returned (.tuple #[]) ∧ ∃ ad' buf' pg', St x E wk w w2 (m) ad' buf' back pg') => (he.2.elim fun _ h2 => h2.elim fun _ h2 => h2.elim fun _ h2 => DoPost.ok (m := m) (T := False) h0 he.1 h2 rfl : DoPost x E wk w m (m) False e w2))
    clear h hmo hI hEh
    generalize reg m a = va at *
    generalize reg m b = vb at *
    refine Calls.mono ?_ HP.out
    go_enter Tryd.func70, Tryd.ntmps70
    go_wp2
    go_quiet (fail)
    go_wp2
    go_quiet (fail)
    go_wp2
    go_quiet (first | (go_at_call 114; refine (HB.out _).mono ?_; rintro e w3 ⟨rfl, rfl⟩; exact ⟨rfl, _, rfl⟩))
    go_wp2
    go_end0
    exact ⟨rfl, _, _, _, (by repeat' first | exact HH.out | apply St.alloc | apply St.drewN | apply St.drew)⟩
end
end Go.Proofs.YtopceggmdieppaaDoor.Emu
namespace Go.Proofs.YtopceggmdieppaaDoor.Emu
open Go.RowKit Go.Proofs.YtopceggmdieppaaDoor.Enc Go.Proofs.YtopceggmdieppaaDoor.Graph

section
variable {x : Fz} {E : Env} {wk : Nat → Value} {w w' w1 w2 : World} {m : M} {ad buf back : Value} {pg : Nat → Option Nat}
set_option maxHeartbeats 4000000 in
set_option maxRecDepth 100000 in
theorem do28 (h : St x E wk w w' m ad buf back pg) (h0 : m.stop = 0) (hI : Inv m) (a b : Nat) (ha : a < 12) (hb : b < 12) (imm : Int) (hi : -32768 ≤ imm ∧ imm ≤ 32767) :
    Calls Tryd.prog 70 #[.pointer (some ⟨x.bm, 0, none⟩), iV ⟨28, a, b, imm⟩] w' (DoPost x E wk w m (doStep E m ⟨28, a, b, imm⟩) False) := by
  have hmo : doStep E m ⟨28, a, b, imm⟩ = if u32 (reg m b + imm) < memN then { m with mem := m.mem.set (u32 (reg m b + imm)).toNat (reg m a) } else trap m 6 := by simp [doStep, plainStep]
  rw [hmo]
  obtain ⟨ca, fa⟩ := h.cell (k := 2 + a) (by omega)
  rw [cellOf_reg _ ha] at ca
  change _ = some (Value.int .u32 (reg m a)) at ca
  obtain ⟨cb, fb⟩ := h.cell (k := 2 + b) (by omega)
  rw [cellOf_reg _ hb] at cb
  change _ = some (Value.int .u32 (reg m b)) at cb
  have hlm := h.lm
  have ha2 : (a : Int) < 12 := by omega
  have hb2 : (b : Int) < 12 := by omega
  obtain ⟨va0, va1⟩ := hI.reg a
  obtain ⟨vb0, vb1⟩ := hI.reg b
  obtain ⟨i0, i1⟩ := hi
  have HH := Lib.hid h
  obtain ⟨cm, fm⟩ := h.cell (k := 14) (by decide)
  change _ = some (Value.pointer (some ⟨x.mm, 0, none⟩)) at cm
  have hu : u32 (reg m b + imm) = IntKind.u32.wrap (reg m b + IntKind.u32.wrap imm) := by rw [IntKind.wrap_u32, IntKind.wrap_u32]; unfold u32; omega
  have hu0 : 0 ≤ u32 (reg m b + imm) := by unfold u32; omega
  have HB0 := fun (W : World) (hW : St x E wk w W m ad buf back pg) => store_prog hW hI.ml (u32 (reg m b + imm)) (reg m a) hu0
  by_cases hlt : u32 (reg m b + imm) < memN
  · rw [if_pos hlt]
    have HB1 := fun (W : World) (hW : St x E wk w W m ad buf back pg) => (HB0 W hW).mono (R' := fun e w2 => e = .returned (.tuple #[]) ∧ ∃ pg', St x E wk w w2 { m with mem := m.mem.set (u32 (reg m b + imm)).toNat (reg m a) } ad buf back pg') fun e w2 he => he.1 hlt
    have HP := Lib.hid (fun (e : Ending) (w2 : World) (he : e = .returned (.tuple #[]) ∧ ∃ ad' buf' pg', St x E wk w w2 ({ m with mem := m.mem.set (u32 (reg m b + imm)).toNat (reg m a) }) ad' buf' back pg') => (he.2.elim fun _ h2 => h2.elim fun _ h2 => h2.elim fun _ h2 => DoPost.ok (m := m) (T := False) h0 he.1 h2 rfl : DoPost x E wk w m ({ m with mem := m.mem.set (u32 (reg m b + imm)).toNat (reg m a) }) False e w2))
    generalize ({ m with mem := m.mem.set (u32 (reg m b + imm)).toNat (reg m a) } : M) = mo at *
    rw [hu] at HB1
    have HB := Lib.hid HB1
    clear h hmo hI hlt hu hu0 HB0 HB1
    generalize reg m a = va at *
    generalize reg m b = vb at *
    refine Calls.mono ?_ HP.out
    go_enter Tryd.func70, Tryd.ntmps70
    go_wp2
    go_quiet (fail)
    go_wp2
    go_quiet (fail)
    go_wp2
    go_region_law (first | ((try go_simp); go_at_call 110; refine (HB.out _ ((HH.out.alloc _).drewN _)).mono ?_; rintro e w3 ⟨rfl, pg3, h3⟩; have H3 := Lib.hid h3; clear h3))
    all_goals
      go_wp2
      go_end0
      exact ⟨rfl, _, _, _, H3.out⟩
  · rw [if_neg hlt]
    have HB1 := fun (W : World) (hW : St x E wk w W m ad buf back pg) => (HB0 W hW).mono (R' := fun e w2 => e = thrown 6 ∧ w2 = W) fun e w2 he => he.2 hlt
    rw [hu] at HB1
    have HB := Lib.hid HB1
    have HP := Lib.hid (fun (e : Ending) (w2 : World) (he : e = thrown 6 ∧ St x E wk w w2 (m) ad buf back pg) => DoPost.trap (T := False) (m := m) (m2 := m) (fun h => h) he.1 rfl rfl he.2)
    clear h hmo hI hlt hu hu0 HB0 HB1
    generalize reg m a = va at *
    generalize reg m b = vb at *
    refine Calls.mono ?_ HP.out
    go_enter Tryd.func70, Tryd.ntmps70
    go_wp2
    go_quiet (fail)
    go_wp2
    go_quiet (fail)
    go_wp2
    go_region_dies
    all_goals
      (try go_simp)
      go_at_call 110
      refine (HB.out _ ((HH.out.alloc _).drewN _)).mono ?_
      rintro e w3 ⟨rfl, rfl⟩
      exact ⟨rfl, rfl, (HH.out.alloc _).drewN _⟩
end
end Go.Proofs.YtopceggmdieppaaDoor.Emu
