/- The instructions: reckoned. No condition. -/
import Derived.Test.YtopceggmdieppaaDoorHB
namespace Go.Proofs.YtopceggmdieppaaDoor.Emu
open Go.RowKit Go.Proofs.YtopceggmdieppaaDoor.Enc Go.Proofs.YtopceggmdieppaaDoor.Graph

section
variable {x : Fz} {E : Env} {wk : Nat → Value} {w w' w1 w2 : World} {m : M} {ad buf back : Value} {pg : Nat → Option Nat}
set_option maxHeartbeats 4000000 in
set_option maxRecDepth 100000 in
theorem do10 (h : St x E wk w w' m ad buf back pg) (h0 : m.stop = 0) (hI : Inv m) (a b : Nat) (ha : a < 12) (hb : b < 12) (c : Nat) (hc : c < 12) (hEa : E.ar = ar) (hwk : ∀ k, k < 19 → wk (k + 6) = funV (fOf k)) :
    Calls Tryd.prog 70 #[.pointer (some ⟨x.bm, 0, none⟩), iV ⟨10, a, b, (c : Int)⟩] w' (DoPost x E wk w m (doStep E m ⟨10, a, b, (c : Int)⟩) False) := by
  have hmo : doStep E m ⟨10, a, b, (c : Int)⟩ = match ar (5 : Nat) (reg m b) (reg m c) with | none => trap m 1 | some v => setR m a v := by rw [← hEa]; simp [doStep, plainStep]; cases E.ar 5 (reg m b) (reg m c) <;> rfl
  rw [hmo]
  have HB0 := fun (W : World) (hW : St x E wk w W m ad buf back pg) => reckon_prog hW hwk 5 (by omega) _ _ (hI.reg b) (hI.reg c)
  have hi : (-32768 : Int) ≤ c ∧ (c : Int) ≤ 32767 := ⟨by omega, by omega⟩
  obtain ⟨ca, fa⟩ := h.cell (k := 2 + a) (by omega)
  rw [cellOf_reg _ ha] at ca
  change _ = some (Value.int .u32 (reg m a)) at ca
  obtain ⟨cb, fb⟩ := h.cell (k := 2 + b) (by omega)
  rw [cellOf_reg _ hb] at cb
  change _ = some (Value.int .u32 (reg m b)) at cb
  have hlm := h.lm
  have ha2 : (a : Int) < 12 := by omega
  have hb2 : (b : Int) < 12 := by omega
  obtain ⟨va0, va1⟩ := hI.reg a
  obtain ⟨vb0, vb1⟩ := hI.reg b
  obtain ⟨i0, i1⟩ := hi
  obtain ⟨cc, fc⟩ := h.cell (k := 2 + c) (by omega)
  rw [cellOf_reg _ hc] at cc
  change _ = some (Value.int .u32 (reg m c)) at cc
  have hc2 : (c : Int) < 12 := by omega
  have HH := Lib.hid h
  cases har : ar (5 : Nat) (reg m b) (reg m c) with
  | none =>
    simp only
    have HB := Lib.hid (fun (W : World) (hW : St x E wk w W m ad buf back pg) => (HB0 W hW).mono (R' := fun e w2 => e = thrown 1 ∧ w2 = W) fun e w2 he => ⟨he.1 har, he.2.2⟩)
    have HP := Lib.hid (fun (e : Ending) (w2 : World) (he : e = thrown 1 ∧ St x E wk w w2 (m) ad buf back pg) => DoPost.trap (T := False) (m := m) (m2 := m) (fun h => h) he.1 rfl rfl he.2)
    clear h hmo hI har HB0 hEa hwk
    generalize reg m a = va at *
    generalize reg m b = vb at *
    generalize reg m c = vc at *
    refine Calls.mono ?_ HP.out
    go_enter Tryd.func70, Tryd.ntmps70
    go_wp2
    go_quiet (fail)
    go_wp2
    go_quiet (fail)
    go_wp2
    go_region_dies
    all_goals
      (try go_simp)
      go_at_call 115
      refine (HB.out _ ((HH.out.alloc _).drewN _)).mono ?_
      rintro e w3 ⟨rfl, rfl⟩
      exact ⟨rfl, rfl, (HH.out.alloc _).drewN _⟩
  | some v =>
    simp only
    have HB := Lib.hid (fun (W : World) (hW : St x E wk w W m ad buf back pg) => (HB0 W hW).mono (R' := fun e w2 => e = .returned (.int .u32 v) ∧ w2 = W) fun e w2 he => ⟨he.2.1 v har, he.2.2⟩)
    have HS := Lib.hid (fun (W : World) (hW : St x E wk w W m ad buf back pg) => hW.setR ha hI.rl v)
    have HP := Lib.hid (fun (e : Ending) (w2 : World) (he : e = .returned (.tuple #[]) ∧ ∃ ad' buf' pg', St x E wk w w2 (setR m a v) ad' buf' back pg') => (he.2.elim fun _ h2 => h2.elim fun _ h2 => h2.elim fun _ h2 => DoPost.ok (m := m) (T := False) h0 he.1 h2 rfl : DoPost x E wk w m (setR m a v) False e w2))
    clear h hmo hI har HB0 hEa hwk
    generalize reg m a = va at *
    generalize reg m b = vb at *
    generalize reg m c = vc at *
    refine Calls.mono ?_ HP.out
    go_enter Tryd.func70, Tryd.ntmps70
    go_wp2
    go_quiet (fail)
    go_wp2
    go_quiet (fail)
    go_wp2
    go_region_law (first | ((try go_simp); go_at_call 115; refine (HB.out _ ((HH.out.alloc _).drewN _)).mono ?_; rintro e w3 ⟨rfl, hw2⟩; have hw3 := hw2.symm; clear hw2; subst hw3))
    all_goals
      go_wp2
      go_end0
      exact ⟨rfl, _, _, _, HS.out _ ((HH.out.alloc _).drewN _)⟩
set_option maxHeartbeats 4000000 in
set_option maxRecDepth 100000 in
theorem do11 (h : St x E wk w w' m ad buf back pg) (h0 : m.stop = 0) (hI : Inv m) (a b : Nat) (ha : a < 12) (hb : b < 12) (c : Nat) (hc : c < 12) (hEa : E.ar = ar) (hwk : ∀ k, k < 19 → wk (k + 6) = funV (fOf k)) :
    Calls Tryd.prog 70 #[.pointer (some ⟨x.bm, 0, none⟩), iV ⟨11, a, b, (c : Int)⟩] w' (DoPost x E wk w m (doStep E m ⟨11, a, b, (c : Int)⟩) False) := by
  have hmo : doStep E m ⟨11, a, b, (c : Int)⟩ = match ar (6 : Nat) (reg m b) (reg m c) with | none => trap m 1 | some v => setR m a v := by rw [← hEa]; simp [doStep, plainStep]; cases E.ar 6 (reg m b) (reg m c) <;> rfl
  rw [hmo]
  have HB0 := fun (W : World) (hW : St x E wk w W m ad buf back pg) => reckon_prog hW hwk 6 (by omega) _ _ (hI.reg b) (hI.reg c)
  have hi : (-32768 : Int) ≤ c ∧ (c : Int) ≤ 32767 := ⟨by omega, by omega⟩
  obtain ⟨ca, fa⟩ := h.cell (k := 2 + a) (by omega)
  rw [cellOf_reg _ ha] at ca
  change _ = some (Value.int .u32 (reg m a)) at ca
  obtain ⟨cb, fb⟩ := h.cell (k := 2 + b) (by omega)
  rw [cellOf_reg _ hb] at cb
  change _ = some (Value.int .u32 (reg m b)) at cb
  have hlm := h.lm
  have ha2 : (a : Int) < 12 := by omega
  have hb2 : (b : Int) < 12 := by omega
  obtain ⟨va0, va1⟩ := hI.reg a
  obtain ⟨vb0, vb1⟩ := hI.reg b
  obtain ⟨i0, i1⟩ := hi
  obtain ⟨cc, fc⟩ := h.cell (k := 2 + c) (by omega)
  rw [cellOf_reg _ hc] at cc
  change _ = some (Value.int .u32 (reg m c)) at cc
  have hc2 : (c : Int) < 12 := by omega
  have HH := Lib.hid h
  cases har : ar (6 : Nat) (reg m b) (reg m c) with
  | none =>
    simp only
    have HB := Lib.hid (fun (W : World) (hW : St x E wk w W m ad buf back pg) => (HB0 W hW).mono (R' := fun e w2 => e = thrown 1 ∧ w2 = W) fun e w2 he => ⟨he.1 har, he.2.2⟩)
    have HP := Lib.hid (fun (e : Ending) (w2 : World) (he : e = thrown 1 ∧ St x E wk w w2 (m) ad buf back pg) => DoPost.trap (T := False) (m := m) (m2 := m) (fun h => h) he.1 rfl rfl he.2)
    clear h hmo hI har HB0 hEa hwk
    generalize reg m a = va at *
    generalize reg m b = vb at *
    generalize reg m c = vc at *
    refine Calls.mono ?_ HP.out
    go_enter Tryd.func70, Tryd.ntmps70
    go_wp2
    go_quiet (fail)
    go_wp2
    go_quiet (fail)
    go_wp2
    go_region_dies
    all_goals
      (try go_simp)
      go_at_call 115
      refine (HB.out _ ((HH.out.alloc _).drewN _)).mono ?_
      rintro e w3 ⟨rfl, rfl⟩
      exact ⟨rfl, rfl, (HH.out.alloc _).drewN _⟩
  | some v =>
    simp only
    have HB := Lib.hid (fun (W : World) (hW : St x E wk w W m ad buf back pg) => (HB0 W hW).mono (R' := fun e w2 => e = .returned (.int .u32 v) ∧ w2 = W) fun e w2 he => ⟨he.2.1 v har, he.2.2⟩)
    have HS := Lib.hid (fun (W : World) (hW : St x E wk w W m ad buf back pg) => hW.setR ha hI.rl v)
    have HP := Lib.hid (fun (e : Ending) (w2 : World) (he : e = .returned (.tuple #[]) ∧ ∃ ad' buf' pg', St x E wk w w2 (setR m a v) ad' buf' back pg') => (he.2.elim fun _ h2 => h2.elim fun _ h2 => h2.elim fun _ h2 => DoPost.ok (m := m) (T := False) h0 he.1 h2 rfl : DoPost x E wk w m (setR m a v) False e w2))
    clear h hmo hI har HB0 hEa hwk
    generalize reg m a = va at *
    generalize reg m b = vb at *
    generalize reg m c = vc at *
    refine Calls.mono ?_ HP.out
    go_enter Tryd.func70, Tryd.ntmps70
    go_wp2
    go_quiet (fail)
    go_wp2
    go_quiet (fail)
    go_wp2
    go_region_law (first | ((try go_simp); go_at_call 115; refine (HB.out _ ((HH.out.alloc _).drewN _)).mono ?_; rintro e w3 ⟨rfl, hw2⟩; have hw3 := hw2.symm; clear hw2; subst hw3))
    all_goals
      go_wp2
      go_end0
      exact ⟨rfl, _, _, _, HS.out _ ((HH.out.alloc _).drewN _)⟩
set_option maxHeartbeats 4000000 in
set_option maxRecDepth 100000 in
theorem do12 (h : St x E wk w w' m ad buf back pg) (h0 : m.stop = 0) (hI : Inv m) (a b : Nat) (ha : a < 12) (hb : b < 12) (c : Nat) (hc : c < 12) (hEa : E.ar = ar) (hwk : ∀ k, k < 19 → wk (k + 6) = funV (fOf k)) :
    Calls Tryd.prog 70 #[.pointer (some ⟨x.bm, 0, none⟩), iV ⟨12, a, b, (c : Int)⟩] w' (DoPost x E wk w m (doStep E m ⟨12, a, b, (c : Int)⟩) False) := by
  have hmo : doStep E m ⟨12, a, b, (c : Int)⟩ = match ar (7 : Nat) (reg m b) (reg m c) with | none => trap m 1 | some v => setR m a v := by rw [← hEa]; simp [doStep, plainStep]; cases E.ar 7 (reg m b) (reg m c) <;> rfl
  rw [hmo]
  have HB0 := fun (W : World) (hW : St x E wk w W m ad buf back pg) => reckon_prog hW hwk 7 (by omega) _ _ (hI.reg b) (hI.reg c)
  have hi : (-32768 : Int) ≤ c ∧ (c : Int) ≤ 32767 := ⟨by omega, by omega⟩
  obtain ⟨ca, fa⟩ := h.cell (k := 2 + a) (by omega)
  rw [cellOf_reg _ ha] at ca
  change _ = some (Value.int .u32 (reg m a)) at ca
  obtain ⟨cb, fb⟩ := h.cell (k := 2 + b) (by omega)
  rw [cellOf_reg _ hb] at cb
  change _ = some (Value.int .u32 (reg m b)) at cb
  have hlm := h.lm
  have ha2 : (a : Int) < 12 := by omega
  have hb2 : (b : Int) < 12 := by omega
  obtain ⟨va0, va1⟩ := hI.reg a
  obtain ⟨vb0, vb1⟩ := hI.reg b
  obtain ⟨i0, i1⟩ := hi
  obtain ⟨cc, fc⟩ := h.cell (k := 2 + c) (by omega)
  rw [cellOf_reg _ hc] at cc
  change _ = some (Value.int .u32 (reg m c)) at cc
  have hc2 : (c : Int) < 12 := by omega
  have HH := Lib.hid h
  cases har : ar (7 : Nat) (reg m b) (reg m c) with
  | none =>
    simp only
    have HB := Lib.hid (fun (W : World) (hW : St x E wk w W m ad buf back pg) => (HB0 W hW).mono (R' := fun e w2 => e = thrown 1 ∧ w2 = W) fun e w2 he => ⟨he.1 har, he.2.2⟩)
    have HP := Lib.hid (fun (e : Ending) (w2 : World) (he : e = thrown 1 ∧ St x E wk w w2 (m) ad buf back pg) => DoPost.trap (T := False) (m := m) (m2 := m) (fun h => h) he.1 rfl rfl he.2)
    clear h hmo hI har HB0 hEa hwk
    generalize reg m a = va at *
    generalize reg m b = vb at *
    generalize reg m c = vc at *
    refine Calls.mono ?_ HP.out
    go_enter Tryd.func70, Tryd.ntmps70
    go_wp2
    go_quiet (fail)
    go_wp2
    go_quiet (fail)
    go_wp2
    go_region_dies
    all_goals
      (try go_simp)
      go_at_call 115
      refine (HB.out _ ((HH.out.alloc _).drewN _)).mono ?_
      rintro e w3 ⟨rfl, rfl⟩
      exact ⟨rfl, rfl, (HH.out.alloc _).drewN _⟩
  | some v =>
    simp only
    have HB := Lib.hid (fun (W : World) (hW : St x E wk w W m ad buf back pg) => (HB0 W hW).mono (R' := fun e w2 => e = .returned (.int .u32 v) ∧ w2 = W) fun e w2 he => ⟨he.2.1 v har, he.2.2⟩)
    have HS := Lib.hid (fun (W : World) (hW : St x E wk w W m ad buf back pg) => hW.setR ha hI.rl v)
    have HP := Lib.hid (fun (e : Ending) (w2 : World) (he : e = .returned (.tuple #[]) ∧ ∃ ad' buf' pg', St x E wk w w2 (setR m a v) ad' buf' back pg') => (he.2.elim fun _ h2 => h2.elim fun _ h2 => h2.elim fun _ h2 => DoPost.ok (m := m) (T := False) h0 he.1 h2 rfl : DoPost x E wk w m (setR m a v) False e w2))
    clear h hmo hI har HB0 hEa hwk
    generalize reg m a = va at *
    generalize reg m b = vb at *
    generalize reg m c = vc at *
    refine Calls.mono ?_ HP.out
    go_enter Tryd.func70, Tryd.ntmps70
    go_wp2
    go_quiet (fail)
    go_wp2
    go_quiet (fail)
    go_wp2
    go_region_law (first | ((try go_simp); go_at_call 115; refine (HB.out _ ((HH.out.alloc _).drewN _)).mono ?_; rintro e w3 ⟨rfl, hw2⟩; have hw3 := hw2.symm; clear hw2; subst hw3))
    all_goals
      go_wp2
      go_end0
      exact ⟨rfl, _, _, _, HS.out _ ((HH.out.alloc _).drewN _)⟩
end
end Go.Proofs.YtopceggmdieppaaDoor.Emu
