/- The document's machine, instructions that go on: reckoned. No condition. -/
import Derived.Test.YtopceggmdieppaaDoorKD
import Derived.Test.YtopceggmdieppaaDoorHB
namespace Go.Proofs.YtopceggmdieppaaDoor.Emu
open Go.RowKit Go.Proofs.YtopceggmdieppaaDoor.Enc Go.Proofs.YtopceggmdieppaaDoor.Graph

section
variable {x : Dz} {E : Env} {w w' w1 w2 : World} {m : M} {back buf : Value}
set_option maxHeartbeats 4000000 in
set_option maxRecDepth 100000 in
theorem pd15 (h : Sd x E w w' m back buf) (hI : Inv m) (a b : Nat) (ha : a < 12) (hb : b < 12) (c : Nat) (hc : c < 12) (ar : Int → Int → Int → Option Int) (hA : DArith ar) :
    Calls Tryd.prog 74 #[.pointer (some ⟨x.bm, 0, none⟩), cV ⟨15, a, b, (c : Int)⟩] w' fun e w2 => e = .returned (.bool true) ∧ ∃ back' buf', Sd x E w w2 (match ar 10 (reg m b) (reg m c) with | none => trap m 1 | some v => setR m a v) back' buf' := by
  obtain ⟨cc, fc⟩ := h.cell (k := 1 + c) (by omega)
  rw [dcell_reg _ _ _ _ _ hc] at cc
  change _ = some (Value.int .u32 (reg m c)) at cc
  have hc2 : (c : Int) < 12 := by omega
  have hi : (-32768 : Int) ≤ c ∧ (c : Int) ≤ 32767 := ⟨by omega, by omega⟩
  cases har : ar 10 (reg m b) (reg m c) with
  | none =>
    simp only
    have HA := Lib.hid (hA.none_ 10 (by omega) _ _ (hI.reg b) (hI.reg c) har)
    have HT := Lib.hid (fun (W : World) (hW : Sd x E w W m back buf) => stop_d hW 2 1)
    obtain ⟨ca, fa⟩ := h.cell (k := 1 + a) (by omega)
    rw [dcell_reg _ _ _ _ _ ha] at ca
    change _ = some (Value.int .u32 (reg m a)) at ca
    obtain ⟨cb, fb⟩ := h.cell (k := 1 + b) (by omega)
    rw [dcell_reg _ _ _ _ _ hb] at cb
    change _ = some (Value.int .u32 (reg m b)) at cb
    have hlm := h.lm
    have ha2 : (a : Int) < 12 := by omega
    have hb2 : (b : Int) < 12 := by omega
    obtain ⟨va0, va1⟩ := hI.reg a
    obtain ⟨vb0, vb1⟩ := hI.reg b
    obtain ⟨i0, i1⟩ := hi
    have HH := Lib.hid h
    clear h hI har
    generalize reg m a = va at *
    generalize reg m b = vb at *
    generalize reg m c = vc at *
    go_enter Tryd.func74, Tryd.ntmps74
    go_wp2
    go_quiet (fail)
    go_wp2
    go_quiet (first | (go_at_call 120; refine (HA.out _).mono ?_; rintro e w3 ⟨rfl, rfl⟩; exact ⟨rfl, _, rfl⟩))
    go_wp2_with (go_at_call 46; refine (HT.out _ (by repeat' first | exact HH.out | apply Sd.alloc | apply Sd.drewN | apply Sd.drew)).mono ?_; rintro e w3 ⟨rfl, h3⟩; have H3 := Lib.hid h3; clear h3)
    go_ret
    exact ⟨rfl, _, _, H3.out⟩
  | some v =>
    simp only
    have HA := Lib.hid (hA.some_ 10 (by omega) _ _ v (hI.reg b) (hI.reg c) har)
    have HS := Lib.hid (fun (W : World) (hW : Sd x E w W m back buf) => hW.setR ha hI.rl v)
    obtain ⟨ca, fa⟩ := h.cell (k := 1 + a) (by omega)
    rw [dcell_reg _ _ _ _ _ ha] at ca
    change _ = some (Value.int .u32 (reg m a)) at ca
    obtain ⟨cb, fb⟩ := h.cell (k := 1 + b) (by omega)
    rw [dcell_reg _ _ _ _ _ hb] at cb
    change _ = some (Value.int .u32 (reg m b)) at cb
    have hlm := h.lm
    have ha2 : (a : Int) < 12 := by omega
    have hb2 : (b : Int) < 12 := by omega
    obtain ⟨va0, va1⟩ := hI.reg a
    obtain ⟨vb0, vb1⟩ := hI.reg b
    obtain ⟨i0, i1⟩ := hi
    have HH := Lib.hid h
    clear h hI har
    generalize reg m a = va at *
    generalize reg m b = vb at *
    generalize reg m c = vc at *
    go_enter Tryd.func74, Tryd.ntmps74
    go_wp2
    go_quiet (fail)
    go_wp2
    go_quiet (first | (go_at_call 120; refine (HA.out _).mono ?_; rintro e w3 ⟨rfl, rfl⟩; exact ⟨rfl, _, rfl⟩))
    go_wp2
    go_region
    all_goals
      go_wp2
      go_ret
      exact ⟨rfl, _, _, by repeat' first | exact HS.out _ (by repeat' first | exact HH.out | apply Sd.alloc | apply Sd.drewN | apply Sd.drew) | apply Sd.alloc | apply Sd.drewN | apply Sd.drew⟩
set_option maxHeartbeats 4000000 in
set_option maxRecDepth 100000 in
theorem pd16 (h : Sd x E w w' m back buf) (hI : Inv m) (a b : Nat) (ha : a < 12) (hb : b < 12) (c : Nat) (hc : c < 12) (ar : Int → Int → Int → Option Int) (hA : DArith ar) :
    Calls Tryd.prog 74 #[.pointer (some ⟨x.bm, 0, none⟩), cV ⟨16, a, b, (c : Int)⟩] w' fun e w2 => e = .returned (.bool true) ∧ ∃ back' buf', Sd x E w w2 (match ar 11 (reg m b) (reg m c) with | none => trap m 1 | some v => setR m a v) back' buf' := by
  obtain ⟨cc, fc⟩ := h.cell (k := 1 + c) (by omega)
  rw [dcell_reg _ _ _ _ _ hc] at cc
  change _ = some (Value.int .u32 (reg m c)) at cc
  have hc2 : (c : Int) < 12 := by omega
  have hi : (-32768 : Int) ≤ c ∧ (c : Int) ≤ 32767 := ⟨by omega, by omega⟩
  cases har : ar 11 (reg m b) (reg m c) with
  | none =>
    simp only
    have HA := Lib.hid (hA.none_ 11 (by omega) _ _ (hI.reg b) (hI.reg c) har)
    have HT := Lib.hid (fun (W : World) (hW : Sd x E w W m back buf) => stop_d hW 2 1)
    obtain ⟨ca, fa⟩ := h.cell (k := 1 + a) (by omega)
    rw [dcell_reg _ _ _ _ _ ha] at ca
    change _ = some (Value.int .u32 (reg m a)) at ca
    obtain ⟨cb, fb⟩ := h.cell (k := 1 + b) (by omega)
    rw [dcell_reg _ _ _ _ _ hb] at cb
    change _ = some (Value.int .u32 (reg m b)) at cb
    have hlm := h.lm
    have ha2 : (a : Int) < 12 := by omega
    have hb2 : (b : Int) < 12 := by omega
    obtain ⟨va0, va1⟩ := hI.reg a
    obtain ⟨vb0, vb1⟩ := hI.reg b
    obtain ⟨i0, i1⟩ := hi
    have HH := Lib.hid h
    clear h hI har
    generalize reg m a = va at *
    generalize reg m b = vb at *
    generalize reg m c = vc at *
    go_enter Tryd.func74, Tryd.ntmps74
    go_wp2
    go_quiet (fail)
    go_wp2
    go_quiet (first | (go_at_call 120; refine (HA.out _).mono ?_; rintro e w3 ⟨rfl, rfl⟩; exact ⟨rfl, _, rfl⟩))
    go_wp2_with (go_at_call 46; refine (HT.out _ (by repeat' first | exact HH.out | apply Sd.alloc | apply Sd.drewN | apply Sd.drew)).mono ?_; rintro e w3 ⟨rfl, h3⟩; have H3 := Lib.hid h3; clear h3)
    go_ret
    exact ⟨rfl, _, _, H3.out⟩
  | some v =>
    simp only
    have HA := Lib.hid (hA.some_ 11 (by omega) _ _ v (hI.reg b) (hI.reg c) har)
    have HS := Lib.hid (fun (W : World) (hW : Sd x E w W m back buf) => hW.setR ha hI.rl v)
    obtain ⟨ca, fa⟩ := h.cell (k := 1 + a) (by omega)
    rw [dcell_reg _ _ _ _ _ ha] at ca
    change _ = some (Value.int .u32 (reg m a)) at ca
    obtain ⟨cb, fb⟩ := h.cell (k := 1 + b) (by omega)
    rw [dcell_reg _ _ _ _ _ hb] at cb
    change _ = some (Value.int .u32 (reg m b)) at cb
    have hlm := h.lm
    have ha2 : (a : Int) < 12 := by omega
    have hb2 : (b : Int) < 12 := by omega
    obtain ⟨va0, va1⟩ := hI.reg a
    obtain ⟨vb0, vb1⟩ := hI.reg b
    obtain ⟨i0, i1⟩ := hi
    have HH := Lib.hid h
    clear h hI har
    generalize reg m a = va at *
    generalize reg m b = vb at *
    generalize reg m c = vc at *
    go_enter Tryd.func74, Tryd.ntmps74
    go_wp2
    go_quiet (fail)
    go_wp2
    go_quiet (first | (go_at_call 120; refine (HA.out _).mono ?_; rintro e w3 ⟨rfl, rfl⟩; exact ⟨rfl, _, rfl⟩))
    go_wp2
    go_region
    all_goals
      go_wp2
      go_ret
      exact ⟨rfl, _, _, by repeat' first | exact HS.out _ (by repeat' first | exact HH.out | apply Sd.alloc | apply Sd.drewN | apply Sd.drew) | apply Sd.alloc | apply Sd.drewN | apply Sd.drew⟩
set_option maxHeartbeats 4000000 in
set_option maxRecDepth 100000 in
theorem pd17 (h : Sd x E w w' m back buf) (hI : Inv m) (a b : Nat) (ha : a < 12) (hb : b < 12) (c : Nat) (hc : c < 12) (ar : Int → Int → Int → Option Int) (hA : DArith ar) :
    Calls Tryd.prog 74 #[.pointer (some ⟨x.bm, 0, none⟩), cV ⟨17, a, b, (c : Int)⟩] w' fun e w2 => e = .returned (.bool true) ∧ ∃ back' buf', Sd x E w w2 (match ar 12 (reg m b) (reg m c) with | none => trap m 1 | some v => setR m a v) back' buf' := by
  obtain ⟨cc, fc⟩ := h.cell (k := 1 + c) (by omega)
  rw [dcell_reg _ _ _ _ _ hc] at cc
  change _ = some (Value.int .u32 (reg m c)) at cc
  have hc2 : (c : Int) < 12 := by omega
  have hi : (-32768 : Int) ≤ c ∧ (c : Int) ≤ 32767 := ⟨by omega, by omega⟩
  cases har : ar 12 (reg m b) (reg m c) with
  | none =>
    simp only
    have HA := Lib.hid (hA.none_ 12 (by omega) _ _ (hI.reg b) (hI.reg c) har)
    have HT := Lib.hid (fun (W : World) (hW : Sd x E w W m back buf) => stop_d hW 2 1)
    obtain ⟨ca, fa⟩ := h.cell (k := 1 + a) (by omega)
    rw [dcell_reg _ _ _ _ _ ha] at ca
    change _ = some (Value.int .u32 (reg m a)) at ca
    obtain ⟨cb, fb⟩ := h.cell (k := 1 + b) (by omega)
    rw [dcell_reg _ _ _ _ _ hb] at cb
    change _ = some (Value.int .u32 (reg m b)) at cb
    have hlm := h.lm
    have ha2 : (a : Int) < 12 := by omega
    have hb2 : (b : Int) < 12 := by omega
    obtain ⟨va0, va1⟩ := hI.reg a
    obtain ⟨vb0, vb1⟩ := hI.reg b
    obtain ⟨i0, i1⟩ := hi
    have HH := Lib.hid h
    clear h hI har
    generalize reg m a = va at *
    generalize reg m b = vb at *
    generalize reg m c = vc at *
    go_enter Tryd.func74, Tryd.ntmps74
    go_wp2
    go_quiet (fail)
    go_wp2
    go_quiet (first | (go_at_call 120; refine (HA.out _).mono ?_; rintro e w3 ⟨rfl, rfl⟩; exact ⟨rfl, _, rfl⟩))
    go_wp2_with (go_at_call 46; refine (HT.out _ (by repeat' first | exact HH.out | apply Sd.alloc | apply Sd.drewN | apply Sd.drew)).mono ?_; rintro e w3 ⟨rfl, h3⟩; have H3 := Lib.hid h3; clear h3)
    go_ret
    exact ⟨rfl, _, _, H3.out⟩
  | some v =>
    simp only
    have HA := Lib.hid (hA.some_ 12 (by omega) _ _ v (hI.reg b) (hI.reg c) har)
    have HS := Lib.hid (fun (W : World) (hW : Sd x E w W m back buf) => hW.setR ha hI.rl v)
    obtain ⟨ca, fa⟩ := h.cell (k := 1 + a) (by omega)
    rw [dcell_reg _ _ _ _ _ ha] at ca
    change _ = some (Value.int .u32 (reg m a)) at ca
    obtain ⟨cb, fb⟩ := h.cell (k := 1 + b) (by omega)
    rw [dcell_reg _ _ _ _ _ hb] at cb
    change _ = some (Value.int .u32 (reg m b)) at cb
    have hlm := h.lm
    have ha2 : (a : Int) < 12 := by omega
    have hb2 : (b : Int) < 12 := by omega
    obtain ⟨va0, va1⟩ := hI.reg a
    obtain ⟨vb0, vb1⟩ := hI.reg b
    obtain ⟨i0, i1⟩ := hi
    have HH := Lib.hid h
    clear h hI har
    generalize reg m a = va at *
    generalize reg m b = vb at *
    generalize reg m c = vc at *
    go_enter Tryd.func74, Tryd.ntmps74
    go_wp2
    go_quiet (fail)
    go_wp2
    go_quiet (first | (go_at_call 120; refine (HA.out _).mono ?_; rintro e w3 ⟨rfl, rfl⟩; exact ⟨rfl, _, rfl⟩))
    go_wp2
    go_region
    all_goals
      go_wp2
      go_ret
      exact ⟨rfl, _, _, by repeat' first | exact HS.out _ (by repeat' first | exact HH.out | apply Sd.alloc | apply Sd.drewN | apply Sd.drew) | apply Sd.alloc | apply Sd.drewN | apply Sd.drew⟩
set_option maxHeartbeats 4000000 in
set_option maxRecDepth 100000 in
theorem pd18 (h : Sd x E w w' m back buf) (hI : Inv m) (a b : Nat) (ha : a < 12) (hb : b < 12) (c : Nat) (hc : c < 12) (ar : Int → Int → Int → Option Int) (hA : DArith ar) :
    Calls Tryd.prog 74 #[.pointer (some ⟨x.bm, 0, none⟩), cV ⟨18, a, b, (c : Int)⟩] w' fun e w2 => e = .returned (.bool true) ∧ ∃ back' buf', Sd x E w w2 (match ar 13 (reg m b) (reg m c) with | none => trap m 1 | some v => setR m a v) back' buf' := by
  obtain ⟨cc, fc⟩ := h.cell (k := 1 + c) (by omega)
  rw [dcell_reg _ _ _ _ _ hc] at cc
  change _ = some (Value.int .u32 (reg m c)) at cc
  have hc2 : (c : Int) < 12 := by omega
  have hi : (-32768 : Int) ≤ c ∧ (c : Int) ≤ 32767 := ⟨by omega, by omega⟩
  cases har : ar 13 (reg m b) (reg m c) with
  | none =>
    simp only
    have HA := Lib.hid (hA.none_ 13 (by omega) _ _ (hI.reg b) (hI.reg c) har)
    have HT := Lib.hid (fun (W : World) (hW : Sd x E w W m back buf) => stop_d hW 2 1)
    obtain ⟨ca, fa⟩ := h.cell (k := 1 + a) (by omega)
    rw [dcell_reg _ _ _ _ _ ha] at ca
    change _ = some (Value.int .u32 (reg m a)) at ca
    obtain ⟨cb, fb⟩ := h.cell (k := 1 + b) (by omega)
    rw [dcell_reg _ _ _ _ _ hb] at cb
    change _ = some (Value.int .u32 (reg m b)) at cb
    have hlm := h.lm
    have ha2 : (a : Int) < 12 := by omega
    have hb2 : (b : Int) < 12 := by omega
    obtain ⟨va0, va1⟩ := hI.reg a
    obtain ⟨vb0, vb1⟩ := hI.reg b
    obtain ⟨i0, i1⟩ := hi
    have HH := Lib.hid h
    clear h hI har
    generalize reg m a = va at *
    generalize reg m b = vb at *
    generalize reg m c = vc at *
    go_enter Tryd.func74, Tryd.ntmps74
    go_wp2
    go_quiet (fail)
    go_wp2
    go_quiet (first | (go_at_call 120; refine (HA.out _).mono ?_; rintro e w3 ⟨rfl, rfl⟩; exact ⟨rfl, _, rfl⟩))
    go_wp2_with (go_at_call 46; refine (HT.out _ (by repeat' first | exact HH.out | apply Sd.alloc | apply Sd.drewN | apply Sd.drew)).mono ?_; rintro e w3 ⟨rfl, h3⟩; have H3 := Lib.hid h3; clear h3)
    go_ret
    exact ⟨rfl, _, _, H3.out⟩
  | some v =>
    simp only
    have HA := Lib.hid (hA.some_ 13 (by omega) _ _ v (hI.reg b) (hI.reg c) har)
    have HS := Lib.hid (fun (W : World) (hW : Sd x E w W m back buf) => hW.setR ha hI.rl v)
    obtain ⟨ca, fa⟩ := h.cell (k := 1 + a) (by omega)
    rw [dcell_reg _ _ _ _ _ ha] at ca
    change _ = some (Value.int .u32 (reg m a)) at ca
    obtain ⟨cb, fb⟩ := h.cell (k := 1 + b) (by omega)
    rw [dcell_reg _ _ _ _ _ hb] at cb
    change _ = some (Value.int .u32 (reg m b)) at cb
    have hlm := h.lm
    have ha2 : (a : Int) < 12 := by omega
    have hb2 : (b : Int) < 12 := by omega
    obtain ⟨va0, va1⟩ := hI.reg a
    obtain ⟨vb0, vb1⟩ := hI.reg b
    obtain ⟨i0, i1⟩ := hi
    have HH := Lib.hid h
    clear h hI har
    generalize reg m a = va at *
    generalize reg m b = vb at *
    generalize reg m c = vc at *
    go_enter Tryd.func74, Tryd.ntmps74
    go_wp2
    go_quiet (fail)
    go_wp2
    go_quiet (first | (go_at_call 120; refine (HA.out _).mono ?_; rintro e w3 ⟨rfl, rfl⟩; exact ⟨rfl, _, rfl⟩))
    go_wp2
    go_region
    all_goals
      go_wp2
      go_ret
      exact ⟨rfl, _, _, by repeat' first | exact HS.out _ (by repeat' first | exact HH.out | apply Sd.alloc | apply Sd.drewN | apply Sd.drew) | apply Sd.alloc | apply Sd.drewN | apply Sd.drew⟩
set_option maxHeartbeats 4000000 in
set_option maxRecDepth 100000 in
theorem pd19 (h : Sd x E w w' m back buf) (hI : Inv m) (a b : Nat) (ha : a < 12) (hb : b < 12) (c : Nat) (hc : c < 12) (ar : Int → Int → Int → Option Int) (hA : DArith ar) :
    Calls Tryd.prog 74 #[.pointer (some ⟨x.bm, 0, none⟩), cV ⟨19, a, b, (c : Int)⟩] w' fun e w2 => e = .returned (.bool true) ∧ ∃ back' buf', Sd x E w w2 (match ar 14 (reg m b) (reg m c) with | none => trap m 1 | some v => setR m a v) back' buf' := by
  obtain ⟨cc, fc⟩ := h.cell (k := 1 + c) (by omega)
  rw [dcell_reg _ _ _ _ _ hc] at cc
  change _ = some (Value.int .u32 (reg m c)) at cc
  have hc2 : (c : Int) < 12 := by omega
  have hi : (-32768 : Int) ≤ c ∧ (c : Int) ≤ 32767 := ⟨by omega, by omega⟩
  cases har : ar 14 (reg m b) (reg m c) with
  | none =>
    simp only
    have HA := Lib.hid (hA.none_ 14 (by omega) _ _ (hI.reg b) (hI.reg c) har)
    have HT := Lib.hid (fun (W : World) (hW : Sd x E w W m back buf) => stop_d hW 2 1)
    obtain ⟨ca, fa⟩ := h.cell (k := 1 + a) (by omega)
    rw [dcell_reg _ _ _ _ _ ha] at ca
    change _ = some (Value.int .u32 (reg m a)) at ca
    obtain ⟨cb, fb⟩ := h.cell (k := 1 + b) (by omega)
    rw [dcell_reg _ _ _ _ _ hb] at cb
    change _ = some (Value.int .u32 (reg m b)) at cb
    have hlm := h.lm
    have ha2 : (a : Int) < 12 := by omega
    have hb2 : (b : Int) < 12 := by omega
    obtain ⟨va0, va1⟩ := hI.reg a
    obtain ⟨vb0, vb1⟩ := hI.reg b
    obtain ⟨i0, i1⟩ := hi
    have HH := Lib.hid h
    clear h hI har
    generalize reg m a = va at *
    generalize reg m b = vb at *
    generalize reg m c = vc at *
    go_enter Tryd.func74, Tryd.ntmps74
    go_wp2
    go_quiet (fail)
    go_wp2
    go_quiet (first | (go_at_call 120; refine (HA.out _).mono ?_; rintro e w3 ⟨rfl, rfl⟩; exact ⟨rfl, _, rfl⟩))
    go_wp2_with (go_at_call 46; refine (HT.out _ (by repeat' first | exact HH.out | apply Sd.alloc | apply Sd.drewN | apply Sd.drew)).mono ?_; rintro e w3 ⟨rfl, h3⟩; have H3 := Lib.hid h3; clear h3)
    go_ret
    exact ⟨rfl, _, _, H3.out⟩
  | some v =>
    simp only
    have HA := Lib.hid (hA.some_ 14 (by omega) _ _ v (hI.reg b) (hI.reg c) har)
    have HS := Lib.hid (fun (W : World) (hW : Sd x E w W m back buf) => hW.setR ha hI.rl v)
    obtain ⟨ca, fa⟩ := h.cell (k := 1 + a) (by omega)
    rw [dcell_reg _ _ _ _ _ ha] at ca
    change _ = some (Value.int .u32 (reg m a)) at ca
    obtain ⟨cb, fb⟩ := h.cell (k := 1 + b) (by omega)
    rw [dcell_reg _ _ _ _ _ hb] at cb
    change _ = some (Value.int .u32 (reg m b)) at cb
    have hlm := h.lm
    have ha2 : (a : Int) < 12 := by omega
    have hb2 : (b : Int) < 12 := by omega
    obtain ⟨va0, va1⟩ := hI.reg a
    obtain ⟨vb0, vb1⟩ := hI.reg b
    obtain ⟨i0, i1⟩ := hi
    have HH := Lib.hid h
    clear h hI har
    generalize reg m a = va at *
    generalize reg m b = vb at *
    generalize reg m c = vc at *
    go_enter Tryd.func74, Tryd.ntmps74
    go_wp2
    go_quiet (fail)
    go_wp2
    go_quiet (first | (go_at_call 120; refine (HA.out _).mono ?_; rintro e w3 ⟨rfl, rfl⟩; exact ⟨rfl, _, rfl⟩))
    go_wp2
    go_region
    all_goals
      go_wp2
      go_ret
      exact ⟨rfl, _, _, by repeat' first | exact HS.out _ (by repeat' first | exact HH.out | apply Sd.alloc | apply Sd.drewN | apply Sd.drew) | apply Sd.alloc | apply Sd.drewN | apply Sd.drew⟩
end
end Go.Proofs.YtopceggmdieppaaDoor.Emu
namespace Go.Proofs.YtopceggmdieppaaDoor.Emu
open Go.RowKit Go.Proofs.YtopceggmdieppaaDoor.Enc Go.Proofs.YtopceggmdieppaaDoor.Graph

section
variable {x : Dz} {E : Env} {w w' w1 w2 : World} {m : M} {back buf : Value}
set_option maxHeartbeats 4000000 in
set_option maxRecDepth 100000 in
theorem pd20 (h : Sd x E w w' m back buf) (hI : Inv m) (a b : Nat) (ha : a < 12) (hb : b < 12) (c : Nat) (hc : c < 12) (ar : Int → Int → Int → Option Int) (hA : DArith ar) :
    Calls Tryd.prog 74 #[.pointer (some ⟨x.bm, 0, none⟩), cV ⟨20, a, b, (c : Int)⟩] w' fun e w2 => e = .returned (.bool true) ∧ ∃ back' buf', Sd x E w w2 (match ar 15 (reg m b) (reg m c) with | none => trap m 1 | some v => setR m a v) back' buf' := by
  obtain ⟨cc, fc⟩ := h.cell (k := 1 + c) (by omega)
  rw [dcell_reg _ _ _ _ _ hc] at cc
  change _ = some (Value.int .u32 (reg m c)) at cc
  have hc2 : (c : Int) < 12 := by omega
  have hi : (-32768 : Int) ≤ c ∧ (c : Int) ≤ 32767 := ⟨by omega, by omega⟩
  cases har : ar 15 (reg m b) (reg m c) with
  | none =>
    simp only
    have HA := Lib.hid (hA.none_ 15 (by omega) _ _ (hI.reg b) (hI.reg c) har)
    have HT := Lib.hid (fun (W : World) (hW : Sd x E w W m back buf) => stop_d hW 2 1)
    obtain ⟨ca, fa⟩ := h.cell (k := 1 + a) (by omega)
    rw [dcell_reg _ _ _ _ _ ha] at ca
    change _ = some (Value.int .u32 (reg m a)) at ca
    obtain ⟨cb, fb⟩ := h.cell (k := 1 + b) (by omega)
    rw [dcell_reg _ _ _ _ _ hb] at cb
    change _ = some (Value.int .u32 (reg m b)) at cb
    have hlm := h.lm
    have ha2 : (a : Int) < 12 := by omega
    have hb2 : (b : Int) < 12 := by omega
    obtain ⟨va0, va1⟩ := hI.reg a
    obtain ⟨vb0, vb1⟩ := hI.reg b
    obtain ⟨i0, i1⟩ := hi
    have HH := Lib.hid h
    clear h hI har
    generalize reg m a = va at *
    generalize reg m b = vb at *
    generalize reg m c = vc at *
    go_enter Tryd.func74, Tryd.ntmps74
    go_wp2
    go_quiet (fail)
    go_wp2
    go_quiet (first | (go_at_call 120; refine (HA.out _).mono ?_; rintro e w3 ⟨rfl, rfl⟩; exact ⟨rfl, _, rfl⟩))
    go_wp2_with (go_at_call 46; refine (HT.out _ (by repeat' first | exact HH.out | apply Sd.alloc | apply Sd.drewN | apply Sd.drew)).mono ?_; rintro e w3 ⟨rfl, h3⟩; have H3 := Lib.hid h3; clear h3)
    go_ret
    exact ⟨rfl, _, _, H3.out⟩
  | some v =>
    simp only
    have HA := Lib.hid (hA.some_ 15 (by omega) _ _ v (hI.reg b) (hI.reg c) har)
    have HS := Lib.hid (fun (W : World) (hW : Sd x E w W m back buf) => hW.setR ha hI.rl v)
    obtain ⟨ca, fa⟩ := h.cell (k := 1 + a) (by omega)
    rw [dcell_reg _ _ _ _ _ ha] at ca
    change _ = some (Value.int .u32 (reg m a)) at ca
    obtain ⟨cb, fb⟩ := h.cell (k := 1 + b) (by omega)
    rw [dcell_reg _ _ _ _ _ hb] at cb
    change _ = some (Value.int .u32 (reg m b)) at cb
    have hlm := h.lm
    have ha2 : (a : Int) < 12 := by omega
    have hb2 : (b : Int) < 12 := by omega
    obtain ⟨va0, va1⟩ := hI.reg a
    obtain ⟨vb0, vb1⟩ := hI.reg b
    obtain ⟨i0, i1⟩ := hi
    have HH := Lib.hid h
    clear h hI har
    generalize reg m a = va at *
    generalize reg m b = vb at *
    generalize reg m c = vc at *
    go_enter Tryd.func74, Tryd.ntmps74
    go_wp2
    go_quiet (fail)
    go_wp2
    go_quiet (first | (go_at_call 120; refine (HA.out _).mono ?_; rintro e w3 ⟨rfl, rfl⟩; exact ⟨rfl, _, rfl⟩))
    go_wp2
    go_region
    all_goals
      go_wp2
      go_ret
      exact ⟨rfl, _, _, by repeat' first | exact HS.out _ (by repeat' first | exact HH.out | apply Sd.alloc | apply Sd.drewN | apply Sd.drew) | apply Sd.alloc | apply Sd.drewN | apply Sd.drew⟩
set_option maxHeartbeats 4000000 in
set_option maxRecDepth 100000 in
theorem pd21 (h : Sd x E w w' m back buf) (hI : Inv m) (a b : Nat) (ha : a < 12) (hb : b < 12) (c : Nat) (hc : c < 12) (ar : Int → Int → Int → Option Int) (hA : DArith ar) :
    Calls Tryd.prog 74 #[.pointer (some ⟨x.bm, 0, none⟩), cV ⟨21, a, b, (c : Int)⟩] w' fun e w2 => e = .returned (.bool true) ∧ ∃ back' buf', Sd x E w w2 (match ar 16 (reg m b) (reg m c) with | none => trap m 1 | some v => setR m a v) back' buf' := by
  obtain ⟨cc, fc⟩ := h.cell (k := 1 + c) (by omega)
  rw [dcell_reg _ _ _ _ _ hc] at cc
  change _ = some (Value.int .u32 (reg m c)) at cc
  have hc2 : (c : Int) < 12 := by omega
  have hi : (-32768 : Int) ≤ c ∧ (c : Int) ≤ 32767 := ⟨by omega, by omega⟩
  cases har : ar 16 (reg m b) (reg m c) with
  | none =>
    simp only
    have HA := Lib.hid (hA.none_ 16 (by omega) _ _ (hI.reg b) (hI.reg c) har)
    have HT := Lib.hid (fun (W : World) (hW : Sd x E w W m back buf) => stop_d hW 2 1)
    obtain ⟨ca, fa⟩ := h.cell (k := 1 + a) (by omega)
    rw [dcell_reg _ _ _ _ _ ha] at ca
    change _ = some (Value.int .u32 (reg m a)) at ca
    obtain ⟨cb, fb⟩ := h.cell (k := 1 + b) (by omega)
    rw [dcell_reg _ _ _ _ _ hb] at cb
    change _ = some (Value.int .u32 (reg m b)) at cb
    have hlm := h.lm
    have ha2 : (a : Int) < 12 := by omega
    have hb2 : (b : Int) < 12 := by omega
    obtain ⟨va0, va1⟩ := hI.reg a
    obtain ⟨vb0, vb1⟩ := hI.reg b
    obtain ⟨i0, i1⟩ := hi
    have HH := Lib.hid h
    clear h hI har
    generalize reg m a = va at *
    generalize reg m b = vb at *
    generalize reg m c = vc at *
    go_enter Tryd.func74, Tryd.ntmps74
    go_wp2
    go_quiet (fail)
    go_wp2
    go_quiet (first | (go_at_call 120; refine (HA.out _).mono ?_; rintro e w3 ⟨rfl, rfl⟩; exact ⟨rfl, _, rfl⟩))
    go_wp2_with (go_at_call 46; refine (HT.out _ (by repeat' first | exact HH.out | apply Sd.alloc | apply Sd.drewN | apply Sd.drew)).mono ?_; rintro e w3 ⟨rfl, h3⟩; have H3 := Lib.hid h3; clear h3)
    go_ret
    exact ⟨rfl, _, _, H3.out⟩
  | some v =>
    simp only
    have HA := Lib.hid (hA.some_ 16 (by omega) _ _ v (hI.reg b) (hI.reg c) har)
    have HS := Lib.hid (fun (W : World) (hW : Sd x E w W m back buf) => hW.setR ha hI.rl v)
    obtain ⟨ca, fa⟩ := h.cell (k := 1 + a) (by omega)
    rw [dcell_reg _ _ _ _ _ ha] at ca
    change _ = some (Value.int .u32 (reg m a)) at ca
    obtain ⟨cb, fb⟩ := h.cell (k := 1 + b) (by omega)
    rw [dcell_reg _ _ _ _ _ hb] at cb
    change _ = some (Value.int .u32 (reg m b)) at cb
    have hlm := h.lm
    have ha2 : (a : Int) < 12 := by omega
    have hb2 : (b : Int) < 12 := by omega
    obtain ⟨va0, va1⟩ := hI.reg a
    obtain ⟨vb0, vb1⟩ := hI.reg b
    obtain ⟨i0, i1⟩ := hi
    have HH := Lib.hid h
    clear h hI har
    generalize reg m a = va at *
    generalize reg m b = vb at *
    generalize reg m c = vc at *
    go_enter Tryd.func74, Tryd.ntmps74
    go_wp2
    go_quiet (fail)
    go_wp2
    go_quiet (first | (go_at_call 120; refine (HA.out _).mono ?_; rintro e w3 ⟨rfl, rfl⟩; exact ⟨rfl, _, rfl⟩))
    go_wp2
    go_region
    all_goals
      go_wp2
      go_ret
      exact ⟨rfl, _, _, by repeat' first | exact HS.out _ (by repeat' first | exact HH.out | apply Sd.alloc | apply Sd.drewN | apply Sd.drew) | apply Sd.alloc | apply Sd.drewN | apply Sd.drew⟩
set_option maxHeartbeats 4000000 in
set_option maxRecDepth 100000 in
theorem pd22 (h : Sd x E w w' m back buf) (hI : Inv m) (a b : Nat) (ha : a < 12) (hb : b < 12) (c : Nat) (hc : c < 12) (ar : Int → Int → Int → Option Int) (hA : DArith ar) :
    Calls Tryd.prog 74 #[.pointer (some ⟨x.bm, 0, none⟩), cV ⟨22, a, b, (c : Int)⟩] w' fun e w2 => e = .returned (.bool true) ∧ ∃ back' buf', Sd x E w w2 (match ar 17 (reg m b) (reg m c) with | none => trap m 1 | some v => setR m a v) back' buf' := by
  obtain ⟨cc, fc⟩ := h.cell (k := 1 + c) (by omega)
  rw [dcell_reg _ _ _ _ _ hc] at cc
  change _ = some (Value.int .u32 (reg m c)) at cc
  have hc2 : (c : Int) < 12 := by omega
  have hi : (-32768 : Int) ≤ c ∧ (c : Int) ≤ 32767 := ⟨by omega, by omega⟩
  cases har : ar 17 (reg m b) (reg m c) with
  | none =>
    simp only
    have HA := Lib.hid (hA.none_ 17 (by omega) _ _ (hI.reg b) (hI.reg c) har)
    have HT := Lib.hid (fun (W : World) (hW : Sd x E w W m back buf) => stop_d hW 2 1)
    obtain ⟨ca, fa⟩ := h.cell (k := 1 + a) (by omega)
    rw [dcell_reg _ _ _ _ _ ha] at ca
    change _ = some (Value.int .u32 (reg m a)) at ca
    obtain ⟨cb, fb⟩ := h.cell (k := 1 + b) (by omega)
    rw [dcell_reg _ _ _ _ _ hb] at cb
    change _ = some (Value.int .u32 (reg m b)) at cb
    have hlm := h.lm
    have ha2 : (a : Int) < 12 := by omega
    have hb2 : (b : Int) < 12 := by omega
    obtain ⟨va0, va1⟩ := hI.reg a
    obtain ⟨vb0, vb1⟩ := hI.reg b
    obtain ⟨i0, i1⟩ := hi
    have HH := Lib.hid h
    clear h hI har
    generalize reg m a = va at *
    generalize reg m b = vb at *
    generalize reg m c = vc at *
    go_enter Tryd.func74, Tryd.ntmps74
    go_wp2
    go_quiet (fail)
    go_wp2
    go_quiet (first | (go_at_call 120; refine (HA.out _).mono ?_; rintro e w3 ⟨rfl, rfl⟩; exact ⟨rfl, _, rfl⟩))
    go_wp2_with (go_at_call 46; refine (HT.out _ (by repeat' first | exact HH.out | apply Sd.alloc | apply Sd.drewN | apply Sd.drew)).mono ?_; rintro e w3 ⟨rfl, h3⟩; have H3 := Lib.hid h3; clear h3)
    go_ret
    exact ⟨rfl, _, _, H3.out⟩
  | some v =>
    simp only
    have HA := Lib.hid (hA.some_ 17 (by omega) _ _ v (hI.reg b) (hI.reg c) har)
    have HS := Lib.hid (fun (W : World) (hW : Sd x E w W m back buf) => hW.setR ha hI.rl v)
    obtain ⟨ca, fa⟩ := h.cell (k := 1 + a) (by omega)
    rw [dcell_reg _ _ _ _ _ ha] at ca
    change _ = some (Value.int .u32 (reg m a)) at ca
    obtain ⟨cb, fb⟩ := h.cell (k := 1 + b) (by omega)
    rw [dcell_reg _ _ _ _ _ hb] at cb
    change _ = some (Value.int .u32 (reg m b)) at cb
    have hlm := h.lm
    have ha2 : (a : Int) < 12 := by omega
    have hb2 : (b : Int) < 12 := by omega
    obtain ⟨va0, va1⟩ := hI.reg a
    obtain ⟨vb0, vb1⟩ := hI.reg b
    obtain ⟨i0, i1⟩ := hi
    have HH := Lib.hid h
    clear h hI har
    generalize reg m a = va at *
    generalize reg m b = vb at *
    generalize reg m c = vc at *
    go_enter Tryd.func74, Tryd.ntmps74
    go_wp2
    go_quiet (fail)
    go_wp2
    go_quiet (first | (go_at_call 120; refine (HA.out _).mono ?_; rintro e w3 ⟨rfl, rfl⟩; exact ⟨rfl, _, rfl⟩))
    go_wp2
    go_region
    all_goals
      go_wp2
      go_ret
      exact ⟨rfl, _, _, by repeat' first | exact HS.out _ (by repeat' first | exact HH.out | apply Sd.alloc | apply Sd.drewN | apply Sd.drew) | apply Sd.alloc | apply Sd.drewN | apply Sd.drew⟩
set_option maxHeartbeats 4000000 in
set_option maxRecDepth 100000 in
theorem pd23 (h : Sd x E w w' m back buf) (hI : Inv m) (a b : Nat) (ha : a < 12) (hb : b < 12) (c : Nat) (hc : c < 12) (ar : Int → Int → Int → Option Int) (hA : DArith ar) :
    Calls Tryd.prog 74 #[.pointer (some ⟨x.bm, 0, none⟩), cV ⟨23, a, b, (c : Int)⟩] w' fun e w2 => e = .returned (.bool true) ∧ ∃ back' buf', Sd x E w w2 (match ar 18 (reg m b) (reg m c) with | none => trap m 1 | some v => setR m a v) back' buf' := by
  obtain ⟨cc, fc⟩ := h.cell (k := 1 + c) (by omega)
  rw [dcell_reg _ _ _ _ _ hc] at cc
  change _ = some (Value.int .u32 (reg m c)) at cc
  have hc2 : (c : Int) < 12 := by omega
  have hi : (-32768 : Int) ≤ c ∧ (c : Int) ≤ 32767 := ⟨by omega, by omega⟩
  cases har : ar 18 (reg m b) (reg m c) with
  | none =>
    simp only
    have HA := Lib.hid (hA.none_ 18 (by omega) _ _ (hI.reg b) (hI.reg c) har)
    have HT := Lib.hid (fun (W : World) (hW : Sd x E w W m back buf) => stop_d hW 2 1)
    obtain ⟨ca, fa⟩ := h.cell (k := 1 + a) (by omega)
    rw [dcell_reg _ _ _ _ _ ha] at ca
    change _ = some (Value.int .u32 (reg m a)) at ca
    obtain ⟨cb, fb⟩ := h.cell (k := 1 + b) (by omega)
    rw [dcell_reg _ _ _ _ _ hb] at cb
    change _ = some (Value.int .u32 (reg m b)) at cb
    have hlm := h.lm
    have ha2 : (a : Int) < 12 := by omega
    have hb2 : (b : Int) < 12 := by omega
    obtain ⟨va0, va1⟩ := hI.reg a
    obtain ⟨vb0, vb1⟩ := hI.reg b
    obtain ⟨i0, i1⟩ := hi
    have HH := Lib.hid h
    clear h hI har
    generalize reg m a = va at *
    generalize reg m b = vb at *
    generalize reg m c = vc at *
    go_enter Tryd.func74, Tryd.ntmps74
    go_wp2
    go_quiet (fail)
    go_wp2
    go_quiet (first | (go_at_call 120; refine (HA.out _).mono ?_; rintro e w3 ⟨rfl, rfl⟩; exact ⟨rfl, _, rfl⟩))
    go_wp2_with (go_at_call 46; refine (HT.out _ (by repeat' first | exact HH.out | apply Sd.alloc | apply Sd.drewN | apply Sd.drew)).mono ?_; rintro e w3 ⟨rfl, h3⟩; have H3 := Lib.hid h3; clear h3)
    go_ret
    exact ⟨rfl, _, _, H3.out⟩
  | some v =>
    simp only
    have HA := Lib.hid (hA.some_ 18 (by omega) _ _ v (hI.reg b) (hI.reg c) har)
    have HS := Lib.hid (fun (W : World) (hW : Sd x E w W m back buf) => hW.setR ha hI.rl v)
    obtain ⟨ca, fa⟩ := h.cell (k := 1 + a) (by omega)
    rw [dcell_reg _ _ _ _ _ ha] at ca
    change _ = some (Value.int .u32 (reg m a)) at ca
    obtain ⟨cb, fb⟩ := h.cell (k := 1 + b) (by omega)
    rw [dcell_reg _ _ _ _ _ hb] at cb
    change _ = some (Value.int .u32 (reg m b)) at cb
    have hlm := h.lm
    have ha2 : (a : Int) < 12 := by omega
    have hb2 : (b : Int) < 12 := by omega
    obtain ⟨va0, va1⟩ := hI.reg a
    obtain ⟨vb0, vb1⟩ := hI.reg b
    obtain ⟨i0, i1⟩ := hi
    have HH := Lib.hid h
    clear h hI har
    generalize reg m a = va at *
    generalize reg m b = vb at *
    generalize reg m c = vc at *
    go_enter Tryd.func74, Tryd.ntmps74
    go_wp2
    go_quiet (fail)
    go_wp2
    go_quiet (first | (go_at_call 120; refine (HA.out _).mono ?_; rintro e w3 ⟨rfl, rfl⟩; exact ⟨rfl, _, rfl⟩))
    go_wp2
    go_region
    all_goals
      go_wp2
      go_ret
      exact ⟨rfl, _, _, by repeat' first | exact HS.out _ (by repeat' first | exact HH.out | apply Sd.alloc | apply Sd.drewN | apply Sd.drew) | apply Sd.alloc | apply Sd.drewN | apply Sd.drew⟩
end
end Go.Proofs.YtopceggmdieppaaDoor.Emu
