/- The instructions: input and output. No condition. -/
import Derived.Test.YtopceggmdieppaaDoorHB
namespace Go.Proofs.YtopceggmdieppaaDoor.Emu
open Go.RowKit Go.Proofs.YtopceggmdieppaaDoor.Enc Go.Proofs.YtopceggmdieppaaDoor.Graph

section
variable {x : Fz} {E : Env} {wk : Nat → Value} {w w' w1 w2 : World} {m : M} {ad buf back : Value} {pg : Nat → Option Nat}
set_option maxHeartbeats 4000000 in
set_option maxRecDepth 100000 in
theorem do45 (h : St x E wk w w' m ad buf back pg) (h0 : m.stop = 0) (hI : Inv m) (a b : Nat) (ha : a < 12) (hb : b < 12) (imm : Int) (hi : -32768 ≤ imm ∧ imm ≤ 32767) (hE : EnvOk E) :
    Calls Tryd.prog 70 #[.pointer (some ⟨x.bm, 0, none⟩), iV ⟨45, a, b, imm⟩] w' (DoPost x E wk w m (doStep E m ⟨45, a, b, imm⟩) False) := by
  have hmo : doStep E m ⟨45, a, b, imm⟩ = match E.input[m.at_]? with | none => setR m a 4294967295 | some c => { setR m a c.toNat with at_ := m.at_ + 1 } := by simp [doStep, plainStep]; cases E.input[m.at_]? <;> rfl
  rw [hmo]
  obtain ⟨ca, fa⟩ := h.cell (k := 2 + a) (by omega)
  rw [cellOf_reg _ ha] at ca
  change _ = some (Value.int .u32 (reg m a)) at ca
  obtain ⟨cb, fb⟩ := h.cell (k := 2 + b) (by omega)
  rw [cellOf_reg _ hb] at cb
  change _ = some (Value.int .u32 (reg m b)) at cb
  have hlm := h.lm
  have ha2 : (a : Int) < 12 := by omega
  have hb2 : (b : Int) < 12 := by omega
  obtain ⟨va0, va1⟩ := hI.reg a
  obtain ⟨vb0, vb1⟩ := hI.reg b
  obtain ⟨i0, i1⟩ := hi
  have HH := Lib.hid h
  have HCA := Lib.hid (fun (w1 : World) (m1 : M) (ad1 buf1 : Value) (h1 : St x E wk w w1 m1 ad1 buf1 back pg) (hm1 : m1.r = m.r) => (show w1.cell? ⟨x.bm, 2 + a, none⟩ = some (.int .u32 (reg m a)) ∧ w1.frozen? ⟨x.bm, 2 + a, none⟩ = false from by
    have h2 := h1.cell (k := 2 + a) (by omega)
    rw [cellOf_reg _ ha] at h2
    change w1.cell? _ = some (.int .u32 (m1.r.getD a 0)) ∧ _ at h2
    rw [hm1] at h2
    exact h2))
  have HB0 := fun (W : World) (hW : St x E wk w W m ad buf back pg) => getc_prog hW hE.inp
  cases hin : E.input[m.at_]? with
  | none =>
    simp only [hin] at HB0
    have HB := Lib.hid HB0
    simp only
    have HS := Lib.hid (fun (W : World) (hW : St x E wk w W m ad buf back pg) => hW.setR ha hI.rl 4294967295)
    have HP := Lib.hid (fun (e : Ending) (w2 : World) (he : e = .returned (.tuple #[]) ∧ ∃ ad' buf' pg', St x E wk w w2 (setR m a 4294967295) ad' buf' back pg') => (he.2.elim fun _ h2 => h2.elim fun _ h2 => h2.elim fun _ h2 => DoPost.ok (m := m) (T := False) h0 he.1 h2 rfl : DoPost x E wk w m (setR m a 4294967295) False e w2))
    clear h hmo hI HB0 hin
    generalize reg m a = va at *
    generalize reg m b = vb at *
    refine Calls.mono ?_ HP.out
    go_enter Tryd.func70, Tryd.ntmps70
    go_wp2
    go_quiet (fail)
    go_wp2
    go_quiet (fail)
    go_wp2_with (go_at_call 111; refine (HB.out _ ((HH.out.alloc _).drewN _)).mono ?_; rintro e w3 ⟨rfl, hw2⟩; have hw3 := hw2.symm; clear hw2; subst hw3)
    go_end0
    exact ⟨rfl, _, _, _, HS.out _ ((HH.out.alloc _).drewN _)⟩
  | some c =>
    simp only [hin] at HB0
    have HB := Lib.hid HB0
    simp only
    have HS := Lib.hid (fun (W : World) (hW : St x E wk w W { m with at_ := m.at_ + 1 } ad buf back pg) => hW.setR ha hI.rl c.toNat)
    have HP := Lib.hid (fun (e : Ending) (w2 : World) (he : e = .returned (.tuple #[]) ∧ ∃ ad' buf' pg', St x E wk w w2 ({ setR m a c.toNat with at_ := m.at_ + 1 }) ad' buf' back pg') => (he.2.elim fun _ h2 => h2.elim fun _ h2 => h2.elim fun _ h2 => DoPost.ok (m := m) (T := False) h0 he.1 h2 rfl : DoPost x E wk w m ({ setR m a c.toNat with at_ := m.at_ + 1 }) False e w2))
    clear h hmo hI HB0 hin
    generalize reg m a = va at *
    generalize reg m b = vb at *
    refine Calls.mono ?_ HP.out
    go_enter Tryd.func70, Tryd.ntmps70
    go_wp2
    go_quiet (fail)
    go_wp2
    go_quiet (fail)
    go_wp2_with (go_at_call 111; refine (HB.out _ ((HH.out.alloc _).drewN _)).mono ?_; rintro e w3 ⟨rfl, h3⟩; obtain ⟨ca3, fa3⟩ := HCA.out _ _ _ _ h3 rfl; have hl3 := h3.lm; have H3 := Lib.hid h3; clear h3)
    go_end0
    exact ⟨rfl, _, _, _, HS.out _ H3.out⟩
set_option maxHeartbeats 4000000 in
set_option maxRecDepth 100000 in
theorem do46 (h : St x E wk w w' m ad buf back pg) (h0 : m.stop = 0) (hI : Inv m) (a b : Nat) (ha : a < 12) (hb : b < 12) (imm : Int) (hi : -32768 ≤ imm ∧ imm ≤ 32767) (hbl : m.bytes.length ≤ 1073741824) :
    Calls Tryd.prog 70 #[.pointer (some ⟨x.bm, 0, none⟩), iV ⟨46, a, b, imm⟩] w' (DoPost x E wk w m (doStep E m ⟨46, a, b, imm⟩) False) := by
  have hmo : doStep E m ⟨46, a, b, imm⟩ = { m with bytes := m.bytes ++ [UInt8.ofNat (reg m a % 256).toNat] } := by simp [doStep, plainStep]
  rw [hmo]
  obtain ⟨ca, fa⟩ := h.cell (k := 2 + a) (by omega)
  rw [cellOf_reg _ ha] at ca
  change _ = some (Value.int .u32 (reg m a)) at ca
  obtain ⟨cb, fb⟩ := h.cell (k := 2 + b) (by omega)
  rw [cellOf_reg _ hb] at cb
  change _ = some (Value.int .u32 (reg m b)) at cb
  have hlm := h.lm
  have ha2 : (a : Int) < 12 := by omega
  have hb2 : (b : Int) < 12 := by omega
  obtain ⟨va0, va1⟩ := hI.reg a
  obtain ⟨vb0, vb1⟩ := hI.reg b
  obtain ⟨i0, i1⟩ := hi
  have HH := Lib.hid h
  have hB0 : ((UInt8.ofNat (reg m a % 256).toNat).toNat : Int) = reg m a % 256 := by
    rw [UInt8.toNat_ofNat_of_lt' (by show _ < 256; omega)]; omega
  have HB1 := fun (W : World) (hW : St x E wk w W m ad buf back pg) => writeByte_st hW hbl (UInt8.ofNat (reg m a % 256).toNat)
  rw [hB0] at HB1
  have HB := Lib.hid HB1
  have HP := Lib.hid (fun (e : Ending) (w2 : World) (he : e = .returned (.tuple #[]) ∧ ∃ ad' buf' pg', St x E wk w w2 ({ m with bytes := m.bytes ++ [UInt8.ofNat (reg m a % 256).toNat] }) ad' buf' back pg') => (he.2.elim fun _ h2 => h2.elim fun _ h2 => h2.elim fun _ h2 => DoPost.ok (m := m) (T := False) h0 he.1 h2 rfl : DoPost x E wk w m ({ m with bytes := m.bytes ++ [UInt8.ofNat (reg m a % 256).toNat] }) False e w2))
  clear h hmo hI HB1 hB0
  generalize reg m a = va at *
  generalize reg m b = vb at *
  refine Calls.mono ?_ HP.out
  go_enter Tryd.func70, Tryd.ntmps70
  go_wp2
  go_quiet (fail)
  go_wp2
  go_quiet (fail)
  go_wp2
  go_region_law (first | ((try go_simp); go_at_call 112; refine (HB.out _ ((HH.out.alloc _).drewN _).drew).mono ?_; rintro e w3 ⟨rfl, ad3, buf3, h3⟩; have H3 := Lib.hid h3; clear h3))
  all_goals
    go_wp2
    go_end0
    exact ⟨rfl, _, _, _, H3.out⟩
end
end Go.Proofs.YtopceggmdieppaaDoor.Emu
namespace Go.Proofs.YtopceggmdieppaaDoor.Emu
open Go.RowKit Go.Proofs.YtopceggmdieppaaDoor.Enc Go.Proofs.YtopceggmdieppaaDoor.Graph

section
variable {x : Fz} {E : Env} {wk : Nat → Value} {w w' w1 w2 : World} {m : M} {ad buf back : Value} {pg : Nat → Option Nat}
set_option maxHeartbeats 4000000 in
set_option maxRecDepth 100000 in
theorem do27 (h : St x E wk w w' m ad buf back pg) (h0 : m.stop = 0) (hI : Inv m) (a b : Nat) (ha : a < 12) (hb : b < 12) (imm : Int) (hi : -32768 ≤ imm ∧ imm ≤ 32767) :
    Calls Tryd.prog 70 #[.pointer (some ⟨x.bm, 0, none⟩), iV ⟨27, a, b, imm⟩] w' (DoPost x E wk w m (doStep E m ⟨27, a, b, imm⟩) False) := by
  have hmo : doStep E m ⟨27, a, b, imm⟩ = if u32 (reg m b + imm) < memN then setR m a (m.mem.getD (u32 (reg m b + imm)).toNat 0) else trap m 6 := by simp [doStep, plainStep]
  rw [hmo]
  obtain ⟨ca, fa⟩ := h.cell (k := 2 + a) (by omega)
  rw [cellOf_reg _ ha] at ca
  change _ = some (Value.int .u32 (reg m a)) at ca
  obtain ⟨cb, fb⟩ := h.cell (k := 2 + b) (by omega)
  rw [cellOf_reg _ hb] at cb
  change _ = some (Value.int .u32 (reg m b)) at cb
  have hlm := h.lm
  have ha2 : (a : Int) < 12 := by omega
  have hb2 : (b : Int) < 12 := by omega
  obtain ⟨va0, va1⟩ := hI.reg a
  obtain ⟨vb0, vb1⟩ := hI.reg b
  obtain ⟨i0, i1⟩ := hi
  have HH := Lib.hid h
  have HCA := Lib.hid (fun (w1 : World) (m1 : M) (ad1 buf1 : Value) (h1 : St x E wk w w1 m1 ad1 buf1 back pg) (hm1 : m1.r = m.r) => (show w1.cell? ⟨x.bm, 2 + a, none⟩ = some (.int .u32 (reg m a)) ∧ w1.frozen? ⟨x.bm, 2 + a, none⟩ = false from by
    have h2 := h1.cell (k := 2 + a) (by omega)
    rw [cellOf_reg _ ha] at h2
    change w1.cell? _ = some (.int .u32 (m1.r.getD a 0)) ∧ _ at h2
    rw [hm1] at h2
    exact h2))
  obtain ⟨cm, fm⟩ := h.cell (k := 14) (by decide)
  change _ = some (Value.pointer (some ⟨x.mm, 0, none⟩)) at cm
  have hu : u32 (reg m b + imm) = IntKind.u32.wrap (reg m b + IntKind.u32.wrap imm) := by rw [IntKind.wrap_u32, IntKind.wrap_u32]; unfold u32; omega
  have hu0 : 0 ≤ u32 (reg m b + imm) := by unfold u32; omega
  by_cases hlt : u32 (reg m b + imm) < memN
  · rw [if_pos hlt]
    have HB := Lib.hid (fun (W : World) (hW : St x E wk w W m ad buf back pg) => (load_prog hW.mem (u32 (reg m b + imm)) hu0).mono (R' := fun e w2 => e = .returned (.int .u32 (m.mem.getD (u32 (reg m b + imm)).toNat 0)) ∧ w2 = W) fun e w2 he => ⟨he.1 hlt, he.2.2⟩)
    generalize m.mem.getD (u32 (reg m b + imm)).toNat 0 = v at *
    rw [hu] at HB
    have HS := Lib.hid (fun (W : World) (hW : St x E wk w W m ad buf back pg) => hW.setR ha hI.rl v)
    have HP := Lib.hid (fun (e : Ending) (w2 : World) (he : e = .returned (.tuple #[]) ∧ ∃ ad' buf' pg', St x E wk w w2 (setR m a v) ad' buf' back pg') => (he.2.elim fun _ h2 => h2.elim fun _ h2 => h2.elim fun _ h2 => DoPost.ok (m := m) (T := False) h0 he.1 h2 rfl : DoPost x E wk w m (setR m a v) False e w2))
    clear h hmo hI hlt hu hu0
    generalize reg m a = va at *
    generalize reg m b = vb at *
    refine Calls.mono ?_ HP.out
    go_enter Tryd.func70, Tryd.ntmps70
    go_wp2
    go_quiet (fail)
    go_wp2
    go_quiet (fail)
    go_wp2
    go_region_law (first | ((try go_simp); go_at_call 109; refine (HB.out _ ((HH.out.alloc _).drewN _)).mono ?_; rintro e w3 ⟨rfl, hw2⟩; have hw3 := hw2.symm; clear hw2; subst hw3))
    all_goals
      go_wp2
      go_end0
      exact ⟨rfl, _, _, _, HS.out _ ((HH.out.alloc _).drewN _)⟩
  · rw [if_neg hlt]
    have HB := Lib.hid (fun (W : World) (hW : St x E wk w W m ad buf back pg) => (load_prog hW.mem (u32 (reg m b + imm)) hu0).mono (R' := fun e w2 => e = thrown 6 ∧ w2 = W) fun e w2 he => ⟨he.2.1 hlt, he.2.2⟩)
    rw [hu] at HB
    have HP := Lib.hid (fun (e : Ending) (w2 : World) (he : e = thrown 6 ∧ St x E wk w w2 (m) ad buf back pg) => DoPost.trap (T := False) (m := m) (m2 := m) (fun h => h) he.1 rfl rfl he.2)
    clear h hmo hI hlt hu hu0
    generalize reg m a = va at *
    generalize reg m b = vb at *
    refine Calls.mono ?_ HP.out
    go_enter Tryd.func70, Tryd.ntmps70
    go_wp2
    go_quiet (fail)
    go_wp2
    go_quiet (fail)
    go_wp2
    go_region_dies
    all_goals
      (try go_simp)
      go_at_call 109
      refine (HB.out _ ((HH.out.alloc _).drewN _)).mono ?_
      rintro e w3 ⟨rfl, rfl⟩
      exact ⟨rfl, rfl, (HH.out.alloc _).drewN _⟩
end
end Go.Proofs.YtopceggmdieppaaDoor.Emu
