/- The document's machine, instructions that go on: numbers and words moved. No condition. -/
import Derived.Test.YtopceggmdieppaaDoorKA
import Derived.Test.YtopceggmdieppaaDoorHB
namespace Go.Proofs.YtopceggmdieppaaDoor.Emu
open Go.RowKit Go.Proofs.YtopceggmdieppaaDoor.Enc Go.Proofs.YtopceggmdieppaaDoor.Graph

section
variable {x : Dz} {E : Env} {w w' w1 w2 : World} {m : M} {back buf : Value}
set_option maxHeartbeats 4000000 in
set_option maxRecDepth 100000 in
theorem pd1 (h : Sd x E w w' m back buf) (hI : Inv m) (a b : Nat) (ha : a < 12) (hb : b < 12) (imm : Int) (hi : -32768 ≤ imm ∧ imm ≤ 32767) :
    Calls Tryd.prog 74 #[.pointer (some ⟨x.bm, 0, none⟩), cV ⟨1, a, b, imm⟩] w' fun e w2 => e = .returned (.bool true) ∧ ∃ back' buf', Sd x E w w2 (setR m a (u32 imm)) back' buf' := by
  have HS := Lib.hid (fun (W : World) (hW : Sd x E w W m back buf) => hW.setR ha hI.rl (u32 imm))
  obtain ⟨ca, fa⟩ := h.cell (k := 1 + a) (by omega)
  rw [dcell_reg _ _ _ _ _ ha] at ca
  change _ = some (Value.int .u32 (reg m a)) at ca
  obtain ⟨cb, fb⟩ := h.cell (k := 1 + b) (by omega)
  rw [dcell_reg _ _ _ _ _ hb] at cb
  change _ = some (Value.int .u32 (reg m b)) at cb
  have hlm := h.lm
  have ha2 : (a : Int) < 12 := by omega
  have hb2 : (b : Int) < 12 := by omega
  obtain ⟨va0, va1⟩ := hI.reg a
  obtain ⟨vb0, vb1⟩ := hI.reg b
  obtain ⟨i0, i1⟩ := hi
  have HH := Lib.hid h
  clear h hI
  generalize reg m a = va at *
  generalize reg m b = vb at *
  go_enter Tryd.func74, Tryd.ntmps74
  go_wp2
  go_quiet (fail)
  go_wp2
  go_region
  all_goals
    go_wp2
    go_ret
    exact ⟨rfl, _, _, by repeat' first | exact HS.out _ (by repeat' first | exact HH.out | apply Sd.alloc | apply Sd.drewN | apply Sd.drew) | apply Sd.alloc | apply Sd.drewN | apply Sd.drew⟩
set_option maxHeartbeats 4000000 in
set_option maxRecDepth 100000 in
theorem pd3 (h : Sd x E w w' m back buf) (hI : Inv m) (a b : Nat) (ha : a < 12) (hb : b < 12) (imm : Int) (hi : -32768 ≤ imm ∧ imm ≤ 32767) :
    Calls Tryd.prog 74 #[.pointer (some ⟨x.bm, 0, none⟩), cV ⟨3, a, b, imm⟩] w' fun e w2 => e = .returned (.bool true) ∧ ∃ back' buf', Sd x E w w2 (setR m a (reg m b)) back' buf' := by
  have HS := Lib.hid (fun (W : World) (hW : Sd x E w W m back buf) => hW.setR ha hI.rl (reg m b))
  obtain ⟨ca, fa⟩ := h.cell (k := 1 + a) (by omega)
  rw [dcell_reg _ _ _ _ _ ha] at ca
  change _ = some (Value.int .u32 (reg m a)) at ca
  obtain ⟨cb, fb⟩ := h.cell (k := 1 + b) (by omega)
  rw [dcell_reg _ _ _ _ _ hb] at cb
  change _ = some (Value.int .u32 (reg m b)) at cb
  have hlm := h.lm
  have ha2 : (a : Int) < 12 := by omega
  have hb2 : (b : Int) < 12 := by omega
  obtain ⟨va0, va1⟩ := hI.reg a
  obtain ⟨vb0, vb1⟩ := hI.reg b
  obtain ⟨i0, i1⟩ := hi
  have HH := Lib.hid h
  clear h hI
  generalize reg m a = va at *
  generalize reg m b = vb at *
  go_enter Tryd.func74, Tryd.ntmps74
  go_wp2
  go_quiet (fail)
  go_wp2
  go_region
  all_goals
    go_wp2
    go_ret
    exact ⟨rfl, _, _, by repeat' first | exact HS.out _ (by repeat' first | exact HH.out | apply Sd.alloc | apply Sd.drewN | apply Sd.drew) | apply Sd.alloc | apply Sd.drewN | apply Sd.drew⟩
set_option maxHeartbeats 4000000 in
set_option maxRecDepth 100000 in
theorem pd24 (h : Sd x E w w' m back buf) (hI : Inv m) (a b : Nat) (ha : a < 12) (hb : b < 12) (imm : Int) (hi : -32768 ≤ imm ∧ imm ≤ 32767) :
    Calls Tryd.prog 74 #[.pointer (some ⟨x.bm, 0, none⟩), cV ⟨24, a, b, imm⟩] w' fun e w2 => e = .returned (.bool true) ∧ ∃ back' buf', Sd x E w w2 (setR m a (u32 (-(reg m b)))) back' buf' := by
  have HS := Lib.hid (fun (W : World) (hW : Sd x E w W m back buf) => hW.setR ha hI.rl (u32 (-(reg m b))))
  obtain ⟨ca, fa⟩ := h.cell (k := 1 + a) (by omega)
  rw [dcell_reg _ _ _ _ _ ha] at ca
  change _ = some (Value.int .u32 (reg m a)) at ca
  obtain ⟨cb, fb⟩ := h.cell (k := 1 + b) (by omega)
  rw [dcell_reg _ _ _ _ _ hb] at cb
  change _ = some (Value.int .u32 (reg m b)) at cb
  have hlm := h.lm
  have ha2 : (a : Int) < 12 := by omega
  have hb2 : (b : Int) < 12 := by omega
  obtain ⟨va0, va1⟩ := hI.reg a
  obtain ⟨vb0, vb1⟩ := hI.reg b
  obtain ⟨i0, i1⟩ := hi
  have HH := Lib.hid h
  clear h hI
  generalize reg m a = va at *
  generalize reg m b = vb at *
  go_enter Tryd.func74, Tryd.ntmps74
  go_wp2
  go_quiet (fail)
  go_wp2
  go_region
  all_goals
    go_wp2
    go_ret
    exact ⟨rfl, _, _, by repeat' first | exact HS.out _ (by repeat' first | exact HH.out | apply Sd.alloc | apply Sd.drewN | apply Sd.drew) | apply Sd.alloc | apply Sd.drewN | apply Sd.drew⟩
set_option maxHeartbeats 4000000 in
set_option maxRecDepth 100000 in
theorem pd25 (h : Sd x E w w' m back buf) (hI : Inv m) (a b : Nat) (ha : a < 12) (hb : b < 12) (imm : Int) (hi : -32768 ≤ imm ∧ imm ≤ 32767) :
    Calls Tryd.prog 74 #[.pointer (some ⟨x.bm, 0, none⟩), cV ⟨25, a, b, imm⟩] w' fun e w2 => e = .returned (.bool true) ∧ ∃ back' buf', Sd x E w w2 (setR m a (4294967295 - reg m b)) back' buf' := by
  have HS := Lib.hid (fun (W : World) (hW : Sd x E w W m back buf) => hW.setR ha hI.rl (4294967295 - reg m b))
  obtain ⟨ca, fa⟩ := h.cell (k := 1 + a) (by omega)
  rw [dcell_reg _ _ _ _ _ ha] at ca
  change _ = some (Value.int .u32 (reg m a)) at ca
  obtain ⟨cb, fb⟩ := h.cell (k := 1 + b) (by omega)
  rw [dcell_reg _ _ _ _ _ hb] at cb
  change _ = some (Value.int .u32 (reg m b)) at cb
  have hlm := h.lm
  have ha2 : (a : Int) < 12 := by omega
  have hb2 : (b : Int) < 12 := by omega
  obtain ⟨va0, va1⟩ := hI.reg a
  obtain ⟨vb0, vb1⟩ := hI.reg b
  obtain ⟨i0, i1⟩ := hi
  have HH := Lib.hid h
  clear h hI
  generalize reg m a = va at *
  generalize reg m b = vb at *
  go_enter Tryd.func74, Tryd.ntmps74
  go_wp2
  go_quiet (fail)
  go_wp2
  go_region
  all_goals
    go_wp2
    go_ret
    rw [not32 vb0 vb1]
    exact ⟨rfl, _, _, by repeat' first | exact HS.out _ (by repeat' first | exact HH.out | apply Sd.alloc | apply Sd.drewN | apply Sd.drew) | apply Sd.alloc | apply Sd.drewN | apply Sd.drew⟩
set_option maxHeartbeats 4000000 in
set_option maxRecDepth 100000 in
theorem pd26 (h : Sd x E w w' m back buf) (hI : Inv m) (a b : Nat) (ha : a < 12) (hb : b < 12) (imm : Int) (hi : -32768 ≤ imm ∧ imm ≤ 32767) :
    Calls Tryd.prog 74 #[.pointer (some ⟨x.bm, 0, none⟩), cV ⟨26, a, b, imm⟩] w' fun e w2 => e = .returned (.bool true) ∧ ∃ back' buf', Sd x E w w2 (setR m a (reg m b % 256)) back' buf' := by
  have HS := Lib.hid (fun (W : World) (hW : Sd x E w W m back buf) => hW.setR ha hI.rl (reg m b % 256))
  obtain ⟨ca, fa⟩ := h.cell (k := 1 + a) (by omega)
  rw [dcell_reg _ _ _ _ _ ha] at ca
  change _ = some (Value.int .u32 (reg m a)) at ca
  obtain ⟨cb, fb⟩ := h.cell (k := 1 + b) (by omega)
  rw [dcell_reg _ _ _ _ _ hb] at cb
  change _ = some (Value.int .u32 (reg m b)) at cb
  have hlm := h.lm
  have ha2 : (a : Int) < 12 := by omega
  have hb2 : (b : Int) < 12 := by omega
  obtain ⟨va0, va1⟩ := hI.reg a
  obtain ⟨vb0, vb1⟩ := hI.reg b
  obtain ⟨i0, i1⟩ := hi
  have HH := Lib.hid h
  clear h hI
  generalize reg m a = va at *
  generalize reg m b = vb at *
  go_enter Tryd.func74, Tryd.ntmps74
  go_wp2
  go_quiet (fail)
  go_wp2
  go_region
  all_goals
    go_wp2
    go_ret
    exact ⟨rfl, _, _, by repeat' first | exact HS.out _ (by repeat' first | exact HH.out | apply Sd.alloc | apply Sd.drewN | apply Sd.drew) | apply Sd.alloc | apply Sd.drewN | apply Sd.drew⟩
set_option maxHeartbeats 4000000 in
set_option maxRecDepth 100000 in
theorem pd4 (h : Sd x E w w' m back buf) (hI : Inv m) (a b : Nat) (ha : a < 12) (hb : b < 12) (imm : Int) (hi : -32768 ≤ imm ∧ imm ≤ 32767) :
    Calls Tryd.prog 74 #[.pointer (some ⟨x.bm, 0, none⟩), cV ⟨4, a, b, imm⟩] w' fun e w2 => e = .returned (.bool true) ∧ ∃ back' buf', Sd x E w w2 (setR m a (u32 (reg m b + imm))) back' buf' := by
  have HS := Lib.hid (fun (W : World) (hW : Sd x E w W m back buf) => hW.setR ha hI.rl (u32 (reg m b + imm)))
  obtain ⟨ca, fa⟩ := h.cell (k := 1 + a) (by omega)
  rw [dcell_reg _ _ _ _ _ ha] at ca
  change _ = some (Value.int .u32 (reg m a)) at ca
  obtain ⟨cb, fb⟩ := h.cell (k := 1 + b) (by omega)
  rw [dcell_reg _ _ _ _ _ hb] at cb
  change _ = some (Value.int .u32 (reg m b)) at cb
  have hlm := h.lm
  have ha2 : (a : Int) < 12 := by omega
  have hb2 : (b : Int) < 12 := by omega
  obtain ⟨va0, va1⟩ := hI.reg a
  obtain ⟨vb0, vb1⟩ := hI.reg b
  obtain ⟨i0, i1⟩ := hi
  have HH := Lib.hid h
  clear h hI
  generalize reg m a = va at *
  generalize reg m b = vb at *
  go_enter Tryd.func74, Tryd.ntmps74
  go_wp2
  go_quiet (fail)
  go_wp2
  go_region
  all_goals
    go_wp2
    go_ret
    exact ⟨rfl, _, _, by repeat' first | exact HS.out _ (by repeat' first | exact HH.out | apply Sd.alloc | apply Sd.drewN | apply Sd.drew) | apply Sd.alloc | apply Sd.drewN | apply Sd.drew⟩
end
end Go.Proofs.YtopceggmdieppaaDoor.Emu
namespace Go.Proofs.YtopceggmdieppaaDoor.Emu
open Go.RowKit Go.Proofs.YtopceggmdieppaaDoor.Enc Go.Proofs.YtopceggmdieppaaDoor.Graph

section
variable {x : Dz} {E : Env} {w w' w1 w2 : World} {m : M} {back buf : Value}
set_option maxHeartbeats 4000000 in
set_option maxRecDepth 100000 in
theorem pd27 (h : Sd x E w w' m back buf) (hI : Inv m) (a b : Nat) (ha : a < 12) (hb : b < 12) (imm : Int) (hi : -32768 ≤ imm ∧ imm ≤ 32767) :
    Calls Tryd.prog 74 #[.pointer (some ⟨x.bm, 0, none⟩), cV ⟨27, a, b, imm⟩] w' fun e w2 => e = .returned (.bool true) ∧ ∃ back' buf', Sd x E w w2 (if u32 (reg m b + imm) < memN then setR m a (m.mem.getD (u32 (reg m b + imm)).toNat 0) else trap m 6) back' buf' := by
  by_cases hlt : u32 (reg m b + imm) < memN
  · rw [if_pos hlt]
    have HS := Lib.hid (fun (W : World) (hW : Sd x E w W m back buf) => hW.setR ha hI.rl (m.mem.getD (u32 (reg m b + imm)).toNat 0))
    have HM := Lib.hid (fun (W : World) => memoryD_ok W x.bm (reg m b) imm (hI.reg b) hi hlt)
    obtain ⟨c13, f13⟩ := h.cell (k := 13) (by decide)
    change _ = some (Value.slice (some ⟨x.mb, 0, none⟩) 524288 524288) at c13
    obtain ⟨ms, k3, k4, k5⟩ := h.mem
    have hu0 : 0 ≤ u32 (reg m b + imm) := by unfold u32; omega
    have hun : (u32 (reg m b + imm)).toNat < 524288 := by unfold memN at hlt; omega
    have hu1 : u32 (reg m b + imm) < 524288 := by unfold memN at hlt; exact hlt
    have cmem := (cell_of_block k3 (k5 _ hun)).1
    have hmb := h.lmb
    obtain ⟨ca, fa⟩ := h.cell (k := 1 + a) (by omega)
    rw [dcell_reg _ _ _ _ _ ha] at ca
    change _ = some (Value.int .u32 (reg m a)) at ca
    obtain ⟨cb, fb⟩ := h.cell (k := 1 + b) (by omega)
    rw [dcell_reg _ _ _ _ _ hb] at cb
    change _ = some (Value.int .u32 (reg m b)) at cb
    have hlm := h.lm
    have ha2 : (a : Int) < 12 := by omega
    have hb2 : (b : Int) < 12 := by omega
    obtain ⟨va0, va1⟩ := hI.reg a
    obtain ⟨vb0, vb1⟩ := hI.reg b
    obtain ⟨i0, i1⟩ := hi
    have HH := Lib.hid h
    clear h hI hlt k3 k4 k5 hun
    generalize m.mem.getD (u32 (reg m b + imm)).toNat 0 = v at *
    generalize u32 (reg m b + imm) = n at *
    generalize reg m a = va at *
    generalize reg m b = vb at *
    go_enter Tryd.func74, Tryd.ntmps74
    go_wp2
    go_quiet (fail)
    go_wp2_with (go_at_call 118; refine (HM.out _).mono ?_; rintro e w3 ⟨rfl, hw2⟩; have hw3 := hw2.symm; clear hw2; subst hw3)
    go_region
    all_goals
      go_wp2
      go_ret
      exact ⟨rfl, _, _, by repeat' first | exact HS.out _ (by repeat' first | exact HH.out | apply Sd.alloc | apply Sd.drewN | apply Sd.drew) | apply Sd.alloc | apply Sd.drewN | apply Sd.drew⟩
  · rw [if_neg hlt]
    have HM := Lib.hid (fun (W : World) (hW : Sd x E w W m back buf) => memoryD_no hW (reg m b) imm (hI.reg b) hi hlt)
    obtain ⟨ca, fa⟩ := h.cell (k := 1 + a) (by omega)
    rw [dcell_reg _ _ _ _ _ ha] at ca
    change _ = some (Value.int .u32 (reg m a)) at ca
    obtain ⟨cb, fb⟩ := h.cell (k := 1 + b) (by omega)
    rw [dcell_reg _ _ _ _ _ hb] at cb
    change _ = some (Value.int .u32 (reg m b)) at cb
    have hlm := h.lm
    have ha2 : (a : Int) < 12 := by omega
    have hb2 : (b : Int) < 12 := by omega
    obtain ⟨va0, va1⟩ := hI.reg a
    obtain ⟨vb0, vb1⟩ := hI.reg b
    obtain ⟨i0, i1⟩ := hi
    have HH := Lib.hid h
    clear h hI hlt
    generalize reg m a = va at *
    generalize reg m b = vb at *
    go_enter Tryd.func74, Tryd.ntmps74
    go_wp2
    go_quiet (fail)
    go_wp2_with (go_at_call 118; refine (HM.out _ (by repeat' first | exact HH.out | apply Sd.alloc | apply Sd.drewN | apply Sd.drew)).mono ?_; rintro e w3 ⟨rfl, h3⟩; have H3 := Lib.hid h3; clear h3)
    go_ret
    exact ⟨rfl, _, _, H3.out⟩
end
end Go.Proofs.YtopceggmdieppaaDoor.Emu
namespace Go.Proofs.YtopceggmdieppaaDoor.Emu
open Go.RowKit Go.Proofs.YtopceggmdieppaaDoor.Enc Go.Proofs.YtopceggmdieppaaDoor.Graph

section
variable {x : Dz} {E : Env} {w w' w1 w2 : World} {m : M} {back buf : Value}
set_option maxHeartbeats 4000000 in
set_option maxRecDepth 100000 in
theorem pd28 (h : Sd x E w w' m back buf) (hI : Inv m) (a b : Nat) (ha : a < 12) (hb : b < 12) (imm : Int) (hi : -32768 ≤ imm ∧ imm ≤ 32767) :
    Calls Tryd.prog 74 #[.pointer (some ⟨x.bm, 0, none⟩), cV ⟨28, a, b, imm⟩] w' fun e w2 => e = .returned (.bool true) ∧ ∃ back' buf', Sd x E w w2 (if u32 (reg m b + imm) < memN then { m with mem := m.mem.set (u32 (reg m b + imm)).toNat (reg m a) } else trap m 6) back' buf' := by
  by_cases hlt : u32 (reg m b + imm) < memN
  · rw [if_pos hlt]
    have hu0 : 0 ≤ u32 (reg m b + imm) := by unfold u32; omega
    have hun : (u32 (reg m b + imm)).toNat < 524288 := by unfold memN at hlt; omega
    have hu1 : u32 (reg m b + imm) < 524288 := by unfold memN at hlt; exact hlt
    have HS := Lib.hid (fun (W : World) (hW : Sd x E w W m back buf) => hW.hit hun hI.ml (reg m a))
    have HM := Lib.hid (fun (W : World) => memoryD_ok W x.bm (reg m b) imm (hI.reg b) hi hlt)
    obtain ⟨c13, f13⟩ := h.cell (k := 13) (by decide)
    change _ = some (Value.slice (some ⟨x.mb, 0, none⟩) 524288 524288) at c13
    obtain ⟨ms, k3, k4, k5⟩ := h.mem
    obtain ⟨cmem, fmem⟩ := cell_of_block k3 (k5 _ hun)
    have hmb := h.lmb
    obtain ⟨ca, fa⟩ := h.cell (k := 1 + a) (by omega)
    rw [dcell_reg _ _ _ _ _ ha] at ca
    change _ = some (Value.int .u32 (reg m a)) at ca
    obtain ⟨cb, fb⟩ := h.cell (k := 1 + b) (by omega)
    rw [dcell_reg _ _ _ _ _ hb] at cb
    change _ = some (Value.int .u32 (reg m b)) at cb
    have hlm := h.lm
    have ha2 : (a : Int) < 12 := by omega
    have hb2 : (b : Int) < 12 := by omega
    obtain ⟨va0, va1⟩ := hI.reg a
    obtain ⟨vb0, vb1⟩ := hI.reg b
    obtain ⟨i0, i1⟩ := hi
    have HH := Lib.hid h
    clear h hI hlt k3 k4 k5 hun
    generalize ({ m with mem := m.mem.set (u32 (reg m b + imm)).toNat (reg m a) } : M) = mo at *
    generalize m.mem.getD (u32 (reg m b + imm)).toNat 0 = v at *
    generalize u32 (reg m b + imm) = n at *
    generalize reg m a = va at *
    generalize reg m b = vb at *
    go_enter Tryd.func74, Tryd.ntmps74
    go_wp2
    go_quiet (fail)
    go_wp2_with (go_at_call 118; refine (HM.out _).mono ?_; rintro e w3 ⟨rfl, hw2⟩; have hw3 := hw2.symm; clear hw2; subst hw3)
    go_region
    all_goals
      go_wp2
      go_ret
      exact ⟨rfl, _, _, by repeat' first | exact HS.out _ (by repeat' first | exact HH.out | apply Sd.alloc | apply Sd.drewN | apply Sd.drew) | apply Sd.alloc | apply Sd.drewN | apply Sd.drew⟩
  · rw [if_neg hlt]
    have HM := Lib.hid (fun (W : World) (hW : Sd x E w W m back buf) => memoryD_no hW (reg m b) imm (hI.reg b) hi hlt)
    obtain ⟨ca, fa⟩ := h.cell (k := 1 + a) (by omega)
    rw [dcell_reg _ _ _ _ _ ha] at ca
    change _ = some (Value.int .u32 (reg m a)) at ca
    obtain ⟨cb, fb⟩ := h.cell (k := 1 + b) (by omega)
    rw [dcell_reg _ _ _ _ _ hb] at cb
    change _ = some (Value.int .u32 (reg m b)) at cb
    have hlm := h.lm
    have ha2 : (a : Int) < 12 := by omega
    have hb2 : (b : Int) < 12 := by omega
    obtain ⟨va0, va1⟩ := hI.reg a
    obtain ⟨vb0, vb1⟩ := hI.reg b
    obtain ⟨i0, i1⟩ := hi
    have HH := Lib.hid h
    clear h hI hlt
    generalize reg m a = va at *
    generalize reg m b = vb at *
    go_enter Tryd.func74, Tryd.ntmps74
    go_wp2
    go_quiet (fail)
    go_wp2_with (go_at_call 118; refine (HM.out _ (by repeat' first | exact HH.out | apply Sd.alloc | apply Sd.drewN | apply Sd.drew)).mono ?_; rintro e w3 ⟨rfl, h3⟩; have H3 := Lib.hid h3; clear h3)
    go_ret
    exact ⟨rfl, _, _, H3.out⟩
end
end Go.Proofs.YtopceggmdieppaaDoor.Emu
