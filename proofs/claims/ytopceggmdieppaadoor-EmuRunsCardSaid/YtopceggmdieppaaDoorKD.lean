/- The document's machine, instructions that go on: how they reckon. No condition. -/
import Derived.Test.YtopceggmdieppaaDoorKA
import Derived.Test.YtopceggmdieppaaDoorHB
namespace Go.Proofs.YtopceggmdieppaaDoor.Emu
open Go.RowKit Go.Proofs.YtopceggmdieppaaDoor.Enc Go.Proofs.YtopceggmdieppaaDoor.Graph

/-- How the document's Arith reckons, in words of ar. -/
structure DArith (ar : Int → Int → Int → Option Int) : Prop where
  none_ : ∀ k : Int, 0 ≤ k ∧ k ≤ 18 → ∀ a b, isW a → isW b → ar k a b = none → ∀ w, Calls Tryd.prog 120 #[.int .i64 (k + 6), .int .u32 a, .int .u32 b] w fun e w' => e = .returned (.tuple #[.int .u32 0, .bool false]) ∧ w' = w
  some_ : ∀ k : Int, 0 ≤ k ∧ k ≤ 18 → ∀ a b v, isW a → isW b → ar k a b = some v → ∀ w, Calls Tryd.prog 120 #[.int .i64 (k + 6), .int .u32 a, .int .u32 b] w fun e w' => e = .returned (.tuple #[.int .u32 v, .bool true]) ∧ w' = w
section
variable {x : Dz} {E : Env} {w w' w1 w2 : World} {m : M} {back buf : Value}
end
end Go.Proofs.YtopceggmdieppaaDoor.Emu
namespace Go.Proofs.YtopceggmdieppaaDoor.Emu
open Go.RowKit Go.Proofs.YtopceggmdieppaaDoor.Enc Go.Proofs.YtopceggmdieppaaDoor.Graph

section
variable {x : Dz} {E : Env} {w w' w1 w2 : World} {m : M} {back buf : Value}
set_option maxHeartbeats 4000000 in
set_option maxRecDepth 100000 in
theorem pd5 (h : Sd x E w w' m back buf) (hI : Inv m) (a b : Nat) (ha : a < 12) (hb : b < 12) (c : Nat) (hc : c < 12) (ar : Int → Int → Int → Option Int) (hA : DArith ar) :
    Calls Tryd.prog 74 #[.pointer (some ⟨x.bm, 0, none⟩), cV ⟨5, a, b, (c : Int)⟩] w' fun e w2 => e = .returned (.bool true) ∧ ∃ back' buf', Sd x E w w2 (match ar 0 (reg m b) (reg m c) with | none => trap m 1 | some v => setR m a v) back' buf' := by
  obtain ⟨cc, fc⟩ := h.cell (k := 1 + c) (by omega)
  rw [dcell_reg _ _ _ _ _ hc] at cc
  change _ = some (Value.int .u32 (reg m c)) at cc
  have hc2 : (c : Int) < 12 := by omega
  have hi : (-32768 : Int) ≤ c ∧ (c : Int) ≤ 32767 := ⟨by omega, by omega⟩
  cases har : ar 0 (reg m b) (reg m c) with
  | none =>
    simp only
    have HA := Lib.hid (hA.none_ 0 (by omega) _ _ (hI.reg b) (hI.reg c) har)
    have HT := Lib.hid (fun (W : World) (hW : Sd x E w W m back buf) => stop_d hW 2 1)
    obtain ⟨ca, fa⟩ := h.cell (k := 1 + a) (by omega)
    rw [dcell_reg _ _ _ _ _ ha] at ca
    change _ = some (Value.int .u32 (reg m a)) at ca
    obtain ⟨cb, fb⟩ := h.cell (k := 1 + b) (by omega)
    rw [dcell_reg _ _ _ _ _ hb] at cb
    change _ = some (Value.int .u32 (reg m b)) at cb
    have hlm := h.lm
    have ha2 : (a : Int) < 12 := by omega
    have hb2 : (b : Int) < 12 := by omega
    obtain ⟨va0, va1⟩ := hI.reg a
    obtain ⟨vb0, vb1⟩ := hI.reg b
    obtain ⟨i0, i1⟩ := hi
    have HH := Lib.hid h
    clear h hI har
    generalize reg m a = va at *
    generalize reg m b = vb at *
    generalize reg m c = vc at *
    go_enter Tryd.func74, Tryd.ntmps74
    go_wp2
    go_quiet (fail)
    go_wp2
    go_quiet (first | (go_at_call 120; refine (HA.out _).mono ?_; rintro e w3 ⟨rfl, rfl⟩; exact ⟨rfl, _, rfl⟩))
    go_wp2_with (go_at_call 46; refine (HT.out _ (by repeat' first | exact HH.out | apply Sd.alloc | apply Sd.drewN | apply Sd.drew)).mono ?_; rintro e w3 ⟨rfl, h3⟩; have H3 := Lib.hid h3; clear h3)
    go_ret
    exact ⟨rfl, _, _, H3.out⟩
  | some v =>
    simp only
    have HA := Lib.hid (hA.some_ 0 (by omega) _ _ v (hI.reg b) (hI.reg c) har)
    have HS := Lib.hid (fun (W : World) (hW : Sd x E w W m back buf) => hW.setR ha hI.rl v)
    obtain ⟨ca, fa⟩ := h.cell (k := 1 + a) (by omega)
    rw [dcell_reg _ _ _ _ _ ha] at ca
    change _ = some (Value.int .u32 (reg m a)) at ca
    obtain ⟨cb, fb⟩ := h.cell (k := 1 + b) (by omega)
    rw [dcell_reg _ _ _ _ _ hb] at cb
    change _ = some (Value.int .u32 (reg m b)) at cb
    have hlm := h.lm
    have ha2 : (a : Int) < 12 := by omega
    have hb2 : (b : Int) < 12 := by omega
    obtain ⟨va0, va1⟩ := hI.reg a
    obtain ⟨vb0, vb1⟩ := hI.reg b
    obtain ⟨i0, i1⟩ := hi
    have HH := Lib.hid h
    clear h hI har
    generalize reg m a = va at *
    generalize reg m b = vb at *
    generalize reg m c = vc at *
    go_enter Tryd.func74, Tryd.ntmps74
    go_wp2
    go_quiet (fail)
    go_wp2
    go_quiet (first | (go_at_call 120; refine (HA.out _).mono ?_; rintro e w3 ⟨rfl, rfl⟩; exact ⟨rfl, _, rfl⟩))
    go_wp2
    go_region
    all_goals
      go_wp2
      go_ret
      exact ⟨rfl, _, _, by repeat' first | exact HS.out _ (by repeat' first | exact HH.out | apply Sd.alloc | apply Sd.drewN | apply Sd.drew) | apply Sd.alloc | apply Sd.drewN | apply Sd.drew⟩
set_option maxHeartbeats 4000000 in
set_option maxRecDepth 100000 in
theorem pd6 (h : Sd x E w w' m back buf) (hI : Inv m) (a b : Nat) (ha : a < 12) (hb : b < 12) (c : Nat) (hc : c < 12) (ar : Int → Int → Int → Option Int) (hA : DArith ar) :
    Calls Tryd.prog 74 #[.pointer (some ⟨x.bm, 0, none⟩), cV ⟨6, a, b, (c : Int)⟩] w' fun e w2 => e = .returned (.bool true) ∧ ∃ back' buf', Sd x E w w2 (match ar 1 (reg m b) (reg m c) with | none => trap m 1 | some v => setR m a v) back' buf' := by
  obtain ⟨cc, fc⟩ := h.cell (k := 1 + c) (by omega)
  rw [dcell_reg _ _ _ _ _ hc] at cc
  change _ = some (Value.int .u32 (reg m c)) at cc
  have hc2 : (c : Int) < 12 := by omega
  have hi : (-32768 : Int) ≤ c ∧ (c : Int) ≤ 32767 := ⟨by omega, by omega⟩
  cases har : ar 1 (reg m b) (reg m c) with
  | none =>
    simp only
    have HA := Lib.hid (hA.none_ 1 (by omega) _ _ (hI.reg b) (hI.reg c) har)
    have HT := Lib.hid (fun (W : World) (hW : Sd x E w W m back buf) => stop_d hW 2 1)
    obtain ⟨ca, fa⟩ := h.cell (k := 1 + a) (by omega)
    rw [dcell_reg _ _ _ _ _ ha] at ca
    change _ = some (Value.int .u32 (reg m a)) at ca
    obtain ⟨cb, fb⟩ := h.cell (k := 1 + b) (by omega)
    rw [dcell_reg _ _ _ _ _ hb] at cb
    change _ = some (Value.int .u32 (reg m b)) at cb
    have hlm := h.lm
    have ha2 : (a : Int) < 12 := by omega
    have hb2 : (b : Int) < 12 := by omega
    obtain ⟨va0, va1⟩ := hI.reg a
    obtain ⟨vb0, vb1⟩ := hI.reg b
    obtain ⟨i0, i1⟩ := hi
    have HH := Lib.hid h
    clear h hI har
    generalize reg m a = va at *
    generalize reg m b = vb at *
    generalize reg m c = vc at *
    go_enter Tryd.func74, Tryd.ntmps74
    go_wp2
    go_quiet (fail)
    go_wp2
    go_quiet (first | (go_at_call 120; refine (HA.out _).mono ?_; rintro e w3 ⟨rfl, rfl⟩; exact ⟨rfl, _, rfl⟩))
    go_wp2_with (go_at_call 46; refine (HT.out _ (by repeat' first | exact HH.out | apply Sd.alloc | apply Sd.drewN | apply Sd.drew)).mono ?_; rintro e w3 ⟨rfl, h3⟩; have H3 := Lib.hid h3; clear h3)
    go_ret
    exact ⟨rfl, _, _, H3.out⟩
  | some v =>
    simp only
    have HA := Lib.hid (hA.some_ 1 (by omega) _ _ v (hI.reg b) (hI.reg c) har)
    have HS := Lib.hid (fun (W : World) (hW : Sd x E w W m back buf) => hW.setR ha hI.rl v)
    obtain ⟨ca, fa⟩ := h.cell (k := 1 + a) (by omega)
    rw [dcell_reg _ _ _ _ _ ha] at ca
    change _ = some (Value.int .u32 (reg m a)) at ca
    obtain ⟨cb, fb⟩ := h.cell (k := 1 + b) (by omega)
    rw [dcell_reg _ _ _ _ _ hb] at cb
    change _ = some (Value.int .u32 (reg m b)) at cb
    have hlm := h.lm
    have ha2 : (a : Int) < 12 := by omega
    have hb2 : (b : Int) < 12 := by omega
    obtain ⟨va0, va1⟩ := hI.reg a
    obtain ⟨vb0, vb1⟩ := hI.reg b
    obtain ⟨i0, i1⟩ := hi
    have HH := Lib.hid h
    clear h hI har
    generalize reg m a = va at *
    generalize reg m b = vb at *
    generalize reg m c = vc at *
    go_enter Tryd.func74, Tryd.ntmps74
    go_wp2
    go_quiet (fail)
    go_wp2
    go_quiet (first | (go_at_call 120; refine (HA.out _).mono ?_; rintro e w3 ⟨rfl, rfl⟩; exact ⟨rfl, _, rfl⟩))
    go_wp2
    go_region
    all_goals
      go_wp2
      go_ret
      exact ⟨rfl, _, _, by repeat' first | exact HS.out _ (by repeat' first | exact HH.out | apply Sd.alloc | apply Sd.drewN | apply Sd.drew) | apply Sd.alloc | apply Sd.drewN | apply Sd.drew⟩
set_option maxHeartbeats 4000000 in
set_option maxRecDepth 100000 in
theorem pd7 (h : Sd x E w w' m back buf) (hI : Inv m) (a b : Nat) (ha : a < 12) (hb : b < 12) (c : Nat) (hc : c < 12) (ar : Int → Int → Int → Option Int) (hA : DArith ar) :
    Calls Tryd.prog 74 #[.pointer (some ⟨x.bm, 0, none⟩), cV ⟨7, a, b, (c : Int)⟩] w' fun e w2 => e = .returned (.bool true) ∧ ∃ back' buf', Sd x E w w2 (match ar 2 (reg m b) (reg m c) with | none => trap m 1 | some v => setR m a v) back' buf' := by
  obtain ⟨cc, fc⟩ := h.cell (k := 1 + c) (by omega)
  rw [dcell_reg _ _ _ _ _ hc] at cc
  change _ = some (Value.int .u32 (reg m c)) at cc
  have hc2 : (c : Int) < 12 := by omega
  have hi : (-32768 : Int) ≤ c ∧ (c : Int) ≤ 32767 := ⟨by omega, by omega⟩
  cases har : ar 2 (reg m b) (reg m c) with
  | none =>
    simp only
    have HA := Lib.hid (hA.none_ 2 (by omega) _ _ (hI.reg b) (hI.reg c) har)
    have HT := Lib.hid (fun (W : World) (hW : Sd x E w W m back buf) => stop_d hW 2 1)
    obtain ⟨ca, fa⟩ := h.cell (k := 1 + a) (by omega)
    rw [dcell_reg _ _ _ _ _ ha] at ca
    change _ = some (Value.int .u32 (reg m a)) at ca
    obtain ⟨cb, fb⟩ := h.cell (k := 1 + b) (by omega)
    rw [dcell_reg _ _ _ _ _ hb] at cb
    change _ = some (Value.int .u32 (reg m b)) at cb
    have hlm := h.lm
    have ha2 : (a : Int) < 12 := by omega
    have hb2 : (b : Int) < 12 := by omega
    obtain ⟨va0, va1⟩ := hI.reg a
    obtain ⟨vb0, vb1⟩ := hI.reg b
    obtain ⟨i0, i1⟩ := hi
    have HH := Lib.hid h
    clear h hI har
    generalize reg m a = va at *
    generalize reg m b = vb at *
    generalize reg m c = vc at *
    go_enter Tryd.func74, Tryd.ntmps74
    go_wp2
    go_quiet (fail)
    go_wp2
    go_quiet (first | (go_at_call 120; refine (HA.out _).mono ?_; rintro e w3 ⟨rfl, rfl⟩; exact ⟨rfl, _, rfl⟩))
    go_wp2_with (go_at_call 46; refine (HT.out _ (by repeat' first | exact HH.out | apply Sd.alloc | apply Sd.drewN | apply Sd.drew)).mono ?_; rintro e w3 ⟨rfl, h3⟩; have H3 := Lib.hid h3; clear h3)
    go_ret
    exact ⟨rfl, _, _, H3.out⟩
  | some v =>
    simp only
    have HA := Lib.hid (hA.some_ 2 (by omega) _ _ v (hI.reg b) (hI.reg c) har)
    have HS := Lib.hid (fun (W : World) (hW : Sd x E w W m back buf) => hW.setR ha hI.rl v)
    obtain ⟨ca, fa⟩ := h.cell (k := 1 + a) (by omega)
    rw [dcell_reg _ _ _ _ _ ha] at ca
    change _ = some (Value.int .u32 (reg m a)) at ca
    obtain ⟨cb, fb⟩ := h.cell (k := 1 + b) (by omega)
    rw [dcell_reg _ _ _ _ _ hb] at cb
    change _ = some (Value.int .u32 (reg m b)) at cb
    have hlm := h.lm
    have ha2 : (a : Int) < 12 := by omega
    have hb2 : (b : Int) < 12 := by omega
    obtain ⟨va0, va1⟩ := hI.reg a
    obtain ⟨vb0, vb1⟩ := hI.reg b
    obtain ⟨i0, i1⟩ := hi
    have HH := Lib.hid h
    clear h hI har
    generalize reg m a = va at *
    generalize reg m b = vb at *
    generalize reg m c = vc at *
    go_enter Tryd.func74, Tryd.ntmps74
    go_wp2
    go_quiet (fail)
    go_wp2
    go_quiet (first | (go_at_call 120; refine (HA.out _).mono ?_; rintro e w3 ⟨rfl, rfl⟩; exact ⟨rfl, _, rfl⟩))
    go_wp2
    go_region
    all_goals
      go_wp2
      go_ret
      exact ⟨rfl, _, _, by repeat' first | exact HS.out _ (by repeat' first | exact HH.out | apply Sd.alloc | apply Sd.drewN | apply Sd.drew) | apply Sd.alloc | apply Sd.drewN | apply Sd.drew⟩
set_option maxHeartbeats 4000000 in
set_option maxRecDepth 100000 in
theorem pd8 (h : Sd x E w w' m back buf) (hI : Inv m) (a b : Nat) (ha : a < 12) (hb : b < 12) (c : Nat) (hc : c < 12) (ar : Int → Int → Int → Option Int) (hA : DArith ar) :
    Calls Tryd.prog 74 #[.pointer (some ⟨x.bm, 0, none⟩), cV ⟨8, a, b, (c : Int)⟩] w' fun e w2 => e = .returned (.bool true) ∧ ∃ back' buf', Sd x E w w2 (match ar 3 (reg m b) (reg m c) with | none => trap m 1 | some v => setR m a v) back' buf' := by
  obtain ⟨cc, fc⟩ := h.cell (k := 1 + c) (by omega)
  rw [dcell_reg _ _ _ _ _ hc] at cc
  change _ = some (Value.int .u32 (reg m c)) at cc
  have hc2 : (c : Int) < 12 := by omega
  have hi : (-32768 : Int) ≤ c ∧ (c : Int) ≤ 32767 := ⟨by omega, by omega⟩
  cases har : ar 3 (reg m b) (reg m c) with
  | none =>
    simp only
    have HA := Lib.hid (hA.none_ 3 (by omega) _ _ (hI.reg b) (hI.reg c) har)
    have HT := Lib.hid (fun (W : World) (hW : Sd x E w W m back buf) => stop_d hW 2 1)
    obtain ⟨ca, fa⟩ := h.cell (k := 1 + a) (by omega)
    rw [dcell_reg _ _ _ _ _ ha] at ca
    change _ = some (Value.int .u32 (reg m a)) at ca
    obtain ⟨cb, fb⟩ := h.cell (k := 1 + b) (by omega)
    rw [dcell_reg _ _ _ _ _ hb] at cb
    change _ = some (Value.int .u32 (reg m b)) at cb
    have hlm := h.lm
    have ha2 : (a : Int) < 12 := by omega
    have hb2 : (b : Int) < 12 := by omega
    obtain ⟨va0, va1⟩ := hI.reg a
    obtain ⟨vb0, vb1⟩ := hI.reg b
    obtain ⟨i0, i1⟩ := hi
    have HH := Lib.hid h
    clear h hI har
    generalize reg m a = va at *
    generalize reg m b = vb at *
    generalize reg m c = vc at *
    go_enter Tryd.func74, Tryd.ntmps74
    go_wp2
    go_quiet (fail)
    go_wp2
    go_quiet (first | (go_at_call 120; refine (HA.out _).mono ?_; rintro e w3 ⟨rfl, rfl⟩; exact ⟨rfl, _, rfl⟩))
    go_wp2_with (go_at_call 46; refine (HT.out _ (by repeat' first | exact HH.out | apply Sd.alloc | apply Sd.drewN | apply Sd.drew)).mono ?_; rintro e w3 ⟨rfl, h3⟩; have H3 := Lib.hid h3; clear h3)
    go_ret
    exact ⟨rfl, _, _, H3.out⟩
  | some v =>
    simp only
    have HA := Lib.hid (hA.some_ 3 (by omega) _ _ v (hI.reg b) (hI.reg c) har)
    have HS := Lib.hid (fun (W : World) (hW : Sd x E w W m back buf) => hW.setR ha hI.rl v)
    obtain ⟨ca, fa⟩ := h.cell (k := 1 + a) (by omega)
    rw [dcell_reg _ _ _ _ _ ha] at ca
    change _ = some (Value.int .u32 (reg m a)) at ca
    obtain ⟨cb, fb⟩ := h.cell (k := 1 + b) (by omega)
    rw [dcell_reg _ _ _ _ _ hb] at cb
    change _ = some (Value.int .u32 (reg m b)) at cb
    have hlm := h.lm
    have ha2 : (a : Int) < 12 := by omega
    have hb2 : (b : Int) < 12 := by omega
    obtain ⟨va0, va1⟩ := hI.reg a
    obtain ⟨vb0, vb1⟩ := hI.reg b
    obtain ⟨i0, i1⟩ := hi
    have HH := Lib.hid h
    clear h hI har
    generalize reg m a = va at *
    generalize reg m b = vb at *
    generalize reg m c = vc at *
    go_enter Tryd.func74, Tryd.ntmps74
    go_wp2
    go_quiet (fail)
    go_wp2
    go_quiet (first | (go_at_call 120; refine (HA.out _).mono ?_; rintro e w3 ⟨rfl, rfl⟩; exact ⟨rfl, _, rfl⟩))
    go_wp2
    go_region
    all_goals
      go_wp2
      go_ret
      exact ⟨rfl, _, _, by repeat' first | exact HS.out _ (by repeat' first | exact HH.out | apply Sd.alloc | apply Sd.drewN | apply Sd.drew) | apply Sd.alloc | apply Sd.drewN | apply Sd.drew⟩
set_option maxHeartbeats 4000000 in
set_option maxRecDepth 100000 in
theorem pd9 (h : Sd x E w w' m back buf) (hI : Inv m) (a b : Nat) (ha : a < 12) (hb : b < 12) (c : Nat) (hc : c < 12) (ar : Int → Int → Int → Option Int) (hA : DArith ar) :
    Calls Tryd.prog 74 #[.pointer (some ⟨x.bm, 0, none⟩), cV ⟨9, a, b, (c : Int)⟩] w' fun e w2 => e = .returned (.bool true) ∧ ∃ back' buf', Sd x E w w2 (match ar 4 (reg m b) (reg m c) with | none => trap m 1 | some v => setR m a v) back' buf' := by
  obtain ⟨cc, fc⟩ := h.cell (k := 1 + c) (by omega)
  rw [dcell_reg _ _ _ _ _ hc] at cc
  change _ = some (Value.int .u32 (reg m c)) at cc
  have hc2 : (c : Int) < 12 := by omega
  have hi : (-32768 : Int) ≤ c ∧ (c : Int) ≤ 32767 := ⟨by omega, by omega⟩
  cases har : ar 4 (reg m b) (reg m c) with
  | none =>
    simp only
    have HA := Lib.hid (hA.none_ 4 (by omega) _ _ (hI.reg b) (hI.reg c) har)
    have HT := Lib.hid (fun (W : World) (hW : Sd x E w W m back buf) => stop_d hW 2 1)
    obtain ⟨ca, fa⟩ := h.cell (k := 1 + a) (by omega)
    rw [dcell_reg _ _ _ _ _ ha] at ca
    change _ = some (Value.int .u32 (reg m a)) at ca
    obtain ⟨cb, fb⟩ := h.cell (k := 1 + b) (by omega)
    rw [dcell_reg _ _ _ _ _ hb] at cb
    change _ = some (Value.int .u32 (reg m b)) at cb
    have hlm := h.lm
    have ha2 : (a : Int) < 12 := by omega
    have hb2 : (b : Int) < 12 := by omega
    obtain ⟨va0, va1⟩ := hI.reg a
    obtain ⟨vb0, vb1⟩ := hI.reg b
    obtain ⟨i0, i1⟩ := hi
    have HH := Lib.hid h
    clear h hI har
    generalize reg m a = va at *
    generalize reg m b = vb at *
    generalize reg m c = vc at *
    go_enter Tryd.func74, Tryd.ntmps74
    go_wp2
    go_quiet (fail)
    go_wp2
    go_quiet (first | (go_at_call 120; refine (HA.out _).mono ?_; rintro e w3 ⟨rfl, rfl⟩; exact ⟨rfl, _, rfl⟩))
    go_wp2_with (go_at_call 46; refine (HT.out _ (by repeat' first | exact HH.out | apply Sd.alloc | apply Sd.drewN | apply Sd.drew)).mono ?_; rintro e w3 ⟨rfl, h3⟩; have H3 := Lib.hid h3; clear h3)
    go_ret
    exact ⟨rfl, _, _, H3.out⟩
  | some v =>
    simp only
    have HA := Lib.hid (hA.some_ 4 (by omega) _ _ v (hI.reg b) (hI.reg c) har)
    have HS := Lib.hid (fun (W : World) (hW : Sd x E w W m back buf) => hW.setR ha hI.rl v)
    obtain ⟨ca, fa⟩ := h.cell (k := 1 + a) (by omega)
    rw [dcell_reg _ _ _ _ _ ha] at ca
    change _ = some (Value.int .u32 (reg m a)) at ca
    obtain ⟨cb, fb⟩ := h.cell (k := 1 + b) (by omega)
    rw [dcell_reg _ _ _ _ _ hb] at cb
    change _ = some (Value.int .u32 (reg m b)) at cb
    have hlm := h.lm
    have ha2 : (a : Int) < 12 := by omega
    have hb2 : (b : Int) < 12 := by omega
    obtain ⟨va0, va1⟩ := hI.reg a
    obtain ⟨vb0, vb1⟩ := hI.reg b
    obtain ⟨i0, i1⟩ := hi
    have HH := Lib.hid h
    clear h hI har
    generalize reg m a = va at *
    generalize reg m b = vb at *
    generalize reg m c = vc at *
    go_enter Tryd.func74, Tryd.ntmps74
    go_wp2
    go_quiet (fail)
    go_wp2
    go_quiet (first | (go_at_call 120; refine (HA.out _).mono ?_; rintro e w3 ⟨rfl, rfl⟩; exact ⟨rfl, _, rfl⟩))
    go_wp2
    go_region
    all_goals
      go_wp2
      go_ret
      exact ⟨rfl, _, _, by repeat' first | exact HS.out _ (by repeat' first | exact HH.out | apply Sd.alloc | apply Sd.drewN | apply Sd.drew) | apply Sd.alloc | apply Sd.drewN | apply Sd.drew⟩
end
end Go.Proofs.YtopceggmdieppaaDoor.Emu
namespace Go.Proofs.YtopceggmdieppaaDoor.Emu
open Go.RowKit Go.Proofs.YtopceggmdieppaaDoor.Enc Go.Proofs.YtopceggmdieppaaDoor.Graph

section
variable {x : Dz} {E : Env} {w w' w1 w2 : World} {m : M} {back buf : Value}
set_option maxHeartbeats 4000000 in
set_option maxRecDepth 100000 in
theorem pd10 (h : Sd x E w w' m back buf) (hI : Inv m) (a b : Nat) (ha : a < 12) (hb : b < 12) (c : Nat) (hc : c < 12) (ar : Int → Int → Int → Option Int) (hA : DArith ar) :
    Calls Tryd.prog 74 #[.pointer (some ⟨x.bm, 0, none⟩), cV ⟨10, a, b, (c : Int)⟩] w' fun e w2 => e = .returned (.bool true) ∧ ∃ back' buf', Sd x E w w2 (match ar 5 (reg m b) (reg m c) with | none => trap m 1 | some v => setR m a v) back' buf' := by
  obtain ⟨cc, fc⟩ := h.cell (k := 1 + c) (by omega)
  rw [dcell_reg _ _ _ _ _ hc] at cc
  change _ = some (Value.int .u32 (reg m c)) at cc
  have hc2 : (c : Int) < 12 := by omega
  have hi : (-32768 : Int) ≤ c ∧ (c : Int) ≤ 32767 := ⟨by omega, by omega⟩
  cases har : ar 5 (reg m b) (reg m c) with
  | none =>
    simp only
    have HA := Lib.hid (hA.none_ 5 (by omega) _ _ (hI.reg b) (hI.reg c) har)
    have HT := Lib.hid (fun (W : World) (hW : Sd x E w W m back buf) => stop_d hW 2 1)
    obtain ⟨ca, fa⟩ := h.cell (k := 1 + a) (by omega)
    rw [dcell_reg _ _ _ _ _ ha] at ca
    change _ = some (Value.int .u32 (reg m a)) at ca
    obtain ⟨cb, fb⟩ := h.cell (k := 1 + b) (by omega)
    rw [dcell_reg _ _ _ _ _ hb] at cb
    change _ = some (Value.int .u32 (reg m b)) at cb
    have hlm := h.lm
    have ha2 : (a : Int) < 12 := by omega
    have hb2 : (b : Int) < 12 := by omega
    obtain ⟨va0, va1⟩ := hI.reg a
    obtain ⟨vb0, vb1⟩ := hI.reg b
    obtain ⟨i0, i1⟩ := hi
    have HH := Lib.hid h
    clear h hI har
    generalize reg m a = va at *
    generalize reg m b = vb at *
    generalize reg m c = vc at *
    go_enter Tryd.func74, Tryd.ntmps74
    go_wp2
    go_quiet (fail)
    go_wp2
    go_quiet (first | (go_at_call 120; refine (HA.out _).mono ?_; rintro e w3 ⟨rfl, rfl⟩; exact ⟨rfl, _, rfl⟩))
    go_wp2_with (go_at_call 46; refine (HT.out _ (by repeat' first | exact HH.out | apply Sd.alloc | apply Sd.drewN | apply Sd.drew)).mono ?_; rintro e w3 ⟨rfl, h3⟩; have H3 := Lib.hid h3; clear h3)
    go_ret
    exact ⟨rfl, _, _, H3.out⟩
  | some v =>
    simp only
    have HA := Lib.hid (hA.some_ 5 (by omega) _ _ v (hI.reg b) (hI.reg c) har)
    have HS := Lib.hid (fun (W : World) (hW : Sd x E w W m back buf) => hW.setR ha hI.rl v)
    obtain ⟨ca, fa⟩ := h.cell (k := 1 + a) (by omega)
    rw [dcell_reg _ _ _ _ _ ha] at ca
    change _ = some (Value.int .u32 (reg m a)) at ca
    obtain ⟨cb, fb⟩ := h.cell (k := 1 + b) (by omega)
    rw [dcell_reg _ _ _ _ _ hb] at cb
    change _ = some (Value.int .u32 (reg m b)) at cb
    have hlm := h.lm
    have ha2 : (a : Int) < 12 := by omega
    have hb2 : (b : Int) < 12 := by omega
    obtain ⟨va0, va1⟩ := hI.reg a
    obtain ⟨vb0, vb1⟩ := hI.reg b
    obtain ⟨i0, i1⟩ := hi
    have HH := Lib.hid h
    clear h hI har
    generalize reg m a = va at *
    generalize reg m b = vb at *
    generalize reg m c = vc at *
    go_enter Tryd.func74, Tryd.ntmps74
    go_wp2
    go_quiet (fail)
    go_wp2
    go_quiet (first | (go_at_call 120; refine (HA.out _).mono ?_; rintro e w3 ⟨rfl, rfl⟩; exact ⟨rfl, _, rfl⟩))
    go_wp2
    go_region
    all_goals
      go_wp2
      go_ret
      exact ⟨rfl, _, _, by repeat' first | exact HS.out _ (by repeat' first | exact HH.out | apply Sd.alloc | apply Sd.drewN | apply Sd.drew) | apply Sd.alloc | apply Sd.drewN | apply Sd.drew⟩
set_option maxHeartbeats 4000000 in
set_option maxRecDepth 100000 in
theorem pd11 (h : Sd x E w w' m back buf) (hI : Inv m) (a b : Nat) (ha : a < 12) (hb : b < 12) (c : Nat) (hc : c < 12) (ar : Int → Int → Int → Option Int) (hA : DArith ar) :
    Calls Tryd.prog 74 #[.pointer (some ⟨x.bm, 0, none⟩), cV ⟨11, a, b, (c : Int)⟩] w' fun e w2 => e = .returned (.bool true) ∧ ∃ back' buf', Sd x E w w2 (match ar 6 (reg m b) (reg m c) with | none => trap m 1 | some v => setR m a v) back' buf' := by
  obtain ⟨cc, fc⟩ := h.cell (k := 1 + c) (by omega)
  rw [dcell_reg _ _ _ _ _ hc] at cc
  change _ = some (Value.int .u32 (reg m c)) at cc
  have hc2 : (c : Int) < 12 := by omega
  have hi : (-32768 : Int) ≤ c ∧ (c : Int) ≤ 32767 := ⟨by omega, by omega⟩
  cases har : ar 6 (reg m b) (reg m c) with
  | none =>
    simp only
    have HA := Lib.hid (hA.none_ 6 (by omega) _ _ (hI.reg b) (hI.reg c) har)
    have HT := Lib.hid (fun (W : World) (hW : Sd x E w W m back buf) => stop_d hW 2 1)
    obtain ⟨ca, fa⟩ := h.cell (k := 1 + a) (by omega)
    rw [dcell_reg _ _ _ _ _ ha] at ca
    change _ = some (Value.int .u32 (reg m a)) at ca
    obtain ⟨cb, fb⟩ := h.cell (k := 1 + b) (by omega)
    rw [dcell_reg _ _ _ _ _ hb] at cb
    change _ = some (Value.int .u32 (reg m b)) at cb
    have hlm := h.lm
    have ha2 : (a : Int) < 12 := by omega
    have hb2 : (b : Int) < 12 := by omega
    obtain ⟨va0, va1⟩ := hI.reg a
    obtain ⟨vb0, vb1⟩ := hI.reg b
    obtain ⟨i0, i1⟩ := hi
    have HH := Lib.hid h
    clear h hI har
    generalize reg m a = va at *
    generalize reg m b = vb at *
    generalize reg m c = vc at *
    go_enter Tryd.func74, Tryd.ntmps74
    go_wp2
    go_quiet (fail)
    go_wp2
    go_quiet (first | (go_at_call 120; refine (HA.out _).mono ?_; rintro e w3 ⟨rfl, rfl⟩; exact ⟨rfl, _, rfl⟩))
    go_wp2_with (go_at_call 46; refine (HT.out _ (by repeat' first | exact HH.out | apply Sd.alloc | apply Sd.drewN | apply Sd.drew)).mono ?_; rintro e w3 ⟨rfl, h3⟩; have H3 := Lib.hid h3; clear h3)
    go_ret
    exact ⟨rfl, _, _, H3.out⟩
  | some v =>
    simp only
    have HA := Lib.hid (hA.some_ 6 (by omega) _ _ v (hI.reg b) (hI.reg c) har)
    have HS := Lib.hid (fun (W : World) (hW : Sd x E w W m back buf) => hW.setR ha hI.rl v)
    obtain ⟨ca, fa⟩ := h.cell (k := 1 + a) (by omega)
    rw [dcell_reg _ _ _ _ _ ha] at ca
    change _ = some (Value.int .u32 (reg m a)) at ca
    obtain ⟨cb, fb⟩ := h.cell (k := 1 + b) (by omega)
    rw [dcell_reg _ _ _ _ _ hb] at cb
    change _ = some (Value.int .u32 (reg m b)) at cb
    have hlm := h.lm
    have ha2 : (a : Int) < 12 := by omega
    have hb2 : (b : Int) < 12 := by omega
    obtain ⟨va0, va1⟩ := hI.reg a
    obtain ⟨vb0, vb1⟩ := hI.reg b
    obtain ⟨i0, i1⟩ := hi
    have HH := Lib.hid h
    clear h hI har
    generalize reg m a = va at *
    generalize reg m b = vb at *
    generalize reg m c = vc at *
    go_enter Tryd.func74, Tryd.ntmps74
    go_wp2
    go_quiet (fail)
    go_wp2
    go_quiet (first | (go_at_call 120; refine (HA.out _).mono ?_; rintro e w3 ⟨rfl, rfl⟩; exact ⟨rfl, _, rfl⟩))
    go_wp2
    go_region
    all_goals
      go_wp2
      go_ret
      exact ⟨rfl, _, _, by repeat' first | exact HS.out _ (by repeat' first | exact HH.out | apply Sd.alloc | apply Sd.drewN | apply Sd.drew) | apply Sd.alloc | apply Sd.drewN | apply Sd.drew⟩
set_option maxHeartbeats 4000000 in
set_option maxRecDepth 100000 in
theorem pd12 (h : Sd x E w w' m back buf) (hI : Inv m) (a b : Nat) (ha : a < 12) (hb : b < 12) (c : Nat) (hc : c < 12) (ar : Int → Int → Int → Option Int) (hA : DArith ar) :
    Calls Tryd.prog 74 #[.pointer (some ⟨x.bm, 0, none⟩), cV ⟨12, a, b, (c : Int)⟩] w' fun e w2 => e = .returned (.bool true) ∧ ∃ back' buf', Sd x E w w2 (match ar 7 (reg m b) (reg m c) with | none => trap m 1 | some v => setR m a v) back' buf' := by
  obtain ⟨cc, fc⟩ := h.cell (k := 1 + c) (by omega)
  rw [dcell_reg _ _ _ _ _ hc] at cc
  change _ = some (Value.int .u32 (reg m c)) at cc
  have hc2 : (c : Int) < 12 := by omega
  have hi : (-32768 : Int) ≤ c ∧ (c : Int) ≤ 32767 := ⟨by omega, by omega⟩
  cases har : ar 7 (reg m b) (reg m c) with
  | none =>
    simp only
    have HA := Lib.hid (hA.none_ 7 (by omega) _ _ (hI.reg b) (hI.reg c) har)
    have HT := Lib.hid (fun (W : World) (hW : Sd x E w W m back buf) => stop_d hW 2 1)
    obtain ⟨ca, fa⟩ := h.cell (k := 1 + a) (by omega)
    rw [dcell_reg _ _ _ _ _ ha] at ca
    change _ = some (Value.int .u32 (reg m a)) at ca
    obtain ⟨cb, fb⟩ := h.cell (k := 1 + b) (by omega)
    rw [dcell_reg _ _ _ _ _ hb] at cb
    change _ = some (Value.int .u32 (reg m b)) at cb
    have hlm := h.lm
    have ha2 : (a : Int) < 12 := by omega
    have hb2 : (b : Int) < 12 := by omega
    obtain ⟨va0, va1⟩ := hI.reg a
    obtain ⟨vb0, vb1⟩ := hI.reg b
    obtain ⟨i0, i1⟩ := hi
    have HH := Lib.hid h
    clear h hI har
    generalize reg m a = va at *
    generalize reg m b = vb at *
    generalize reg m c = vc at *
    go_enter Tryd.func74, Tryd.ntmps74
    go_wp2
    go_quiet (fail)
    go_wp2
    go_quiet (first | (go_at_call 120; refine (HA.out _).mono ?_; rintro e w3 ⟨rfl, rfl⟩; exact ⟨rfl, _, rfl⟩))
    go_wp2_with (go_at_call 46; refine (HT.out _ (by repeat' first | exact HH.out | apply Sd.alloc | apply Sd.drewN | apply Sd.drew)).mono ?_; rintro e w3 ⟨rfl, h3⟩; have H3 := Lib.hid h3; clear h3)
    go_ret
    exact ⟨rfl, _, _, H3.out⟩
  | some v =>
    simp only
    have HA := Lib.hid (hA.some_ 7 (by omega) _ _ v (hI.reg b) (hI.reg c) har)
    have HS := Lib.hid (fun (W : World) (hW : Sd x E w W m back buf) => hW.setR ha hI.rl v)
    obtain ⟨ca, fa⟩ := h.cell (k := 1 + a) (by omega)
    rw [dcell_reg _ _ _ _ _ ha] at ca
    change _ = some (Value.int .u32 (reg m a)) at ca
    obtain ⟨cb, fb⟩ := h.cell (k := 1 + b) (by omega)
    rw [dcell_reg _ _ _ _ _ hb] at cb
    change _ = some (Value.int .u32 (reg m b)) at cb
    have hlm := h.lm
    have ha2 : (a : Int) < 12 := by omega
    have hb2 : (b : Int) < 12 := by omega
    obtain ⟨va0, va1⟩ := hI.reg a
    obtain ⟨vb0, vb1⟩ := hI.reg b
    obtain ⟨i0, i1⟩ := hi
    have HH := Lib.hid h
    clear h hI har
    generalize reg m a = va at *
    generalize reg m b = vb at *
    generalize reg m c = vc at *
    go_enter Tryd.func74, Tryd.ntmps74
    go_wp2
    go_quiet (fail)
    go_wp2
    go_quiet (first | (go_at_call 120; refine (HA.out _).mono ?_; rintro e w3 ⟨rfl, rfl⟩; exact ⟨rfl, _, rfl⟩))
    go_wp2
    go_region
    all_goals
      go_wp2
      go_ret
      exact ⟨rfl, _, _, by repeat' first | exact HS.out _ (by repeat' first | exact HH.out | apply Sd.alloc | apply Sd.drewN | apply Sd.drew) | apply Sd.alloc | apply Sd.drewN | apply Sd.drew⟩
set_option maxHeartbeats 4000000 in
set_option maxRecDepth 100000 in
theorem pd13 (h : Sd x E w w' m back buf) (hI : Inv m) (a b : Nat) (ha : a < 12) (hb : b < 12) (c : Nat) (hc : c < 12) (ar : Int → Int → Int → Option Int) (hA : DArith ar) :
    Calls Tryd.prog 74 #[.pointer (some ⟨x.bm, 0, none⟩), cV ⟨13, a, b, (c : Int)⟩] w' fun e w2 => e = .returned (.bool true) ∧ ∃ back' buf', Sd x E w w2 (match ar 8 (reg m b) (reg m c) with | none => trap m 1 | some v => setR m a v) back' buf' := by
  obtain ⟨cc, fc⟩ := h.cell (k := 1 + c) (by omega)
  rw [dcell_reg _ _ _ _ _ hc] at cc
  change _ = some (Value.int .u32 (reg m c)) at cc
  have hc2 : (c : Int) < 12 := by omega
  have hi : (-32768 : Int) ≤ c ∧ (c : Int) ≤ 32767 := ⟨by omega, by omega⟩
  cases har : ar 8 (reg m b) (reg m c) with
  | none =>
    simp only
    have HA := Lib.hid (hA.none_ 8 (by omega) _ _ (hI.reg b) (hI.reg c) har)
    have HT := Lib.hid (fun (W : World) (hW : Sd x E w W m back buf) => stop_d hW 2 1)
    obtain ⟨ca, fa⟩ := h.cell (k := 1 + a) (by omega)
    rw [dcell_reg _ _ _ _ _ ha] at ca
    change _ = some (Value.int .u32 (reg m a)) at ca
    obtain ⟨cb, fb⟩ := h.cell (k := 1 + b) (by omega)
    rw [dcell_reg _ _ _ _ _ hb] at cb
    change _ = some (Value.int .u32 (reg m b)) at cb
    have hlm := h.lm
    have ha2 : (a : Int) < 12 := by omega
    have hb2 : (b : Int) < 12 := by omega
    obtain ⟨va0, va1⟩ := hI.reg a
    obtain ⟨vb0, vb1⟩ := hI.reg b
    obtain ⟨i0, i1⟩ := hi
    have HH := Lib.hid h
    clear h hI har
    generalize reg m a = va at *
    generalize reg m b = vb at *
    generalize reg m c = vc at *
    go_enter Tryd.func74, Tryd.ntmps74
    go_wp2
    go_quiet (fail)
    go_wp2
    go_quiet (first | (go_at_call 120; refine (HA.out _).mono ?_; rintro e w3 ⟨rfl, rfl⟩; exact ⟨rfl, _, rfl⟩))
    go_wp2_with (go_at_call 46; refine (HT.out _ (by repeat' first | exact HH.out | apply Sd.alloc | apply Sd.drewN | apply Sd.drew)).mono ?_; rintro e w3 ⟨rfl, h3⟩; have H3 := Lib.hid h3; clear h3)
    go_ret
    exact ⟨rfl, _, _, H3.out⟩
  | some v =>
    simp only
    have HA := Lib.hid (hA.some_ 8 (by omega) _ _ v (hI.reg b) (hI.reg c) har)
    have HS := Lib.hid (fun (W : World) (hW : Sd x E w W m back buf) => hW.setR ha hI.rl v)
    obtain ⟨ca, fa⟩ := h.cell (k := 1 + a) (by omega)
    rw [dcell_reg _ _ _ _ _ ha] at ca
    change _ = some (Value.int .u32 (reg m a)) at ca
    obtain ⟨cb, fb⟩ := h.cell (k := 1 + b) (by omega)
    rw [dcell_reg _ _ _ _ _ hb] at cb
    change _ = some (Value.int .u32 (reg m b)) at cb
    have hlm := h.lm
    have ha2 : (a : Int) < 12 := by omega
    have hb2 : (b : Int) < 12 := by omega
    obtain ⟨va0, va1⟩ := hI.reg a
    obtain ⟨vb0, vb1⟩ := hI.reg b
    obtain ⟨i0, i1⟩ := hi
    have HH := Lib.hid h
    clear h hI har
    generalize reg m a = va at *
    generalize reg m b = vb at *
    generalize reg m c = vc at *
    go_enter Tryd.func74, Tryd.ntmps74
    go_wp2
    go_quiet (fail)
    go_wp2
    go_quiet (first | (go_at_call 120; refine (HA.out _).mono ?_; rintro e w3 ⟨rfl, rfl⟩; exact ⟨rfl, _, rfl⟩))
    go_wp2
    go_region
    all_goals
      go_wp2
      go_ret
      exact ⟨rfl, _, _, by repeat' first | exact HS.out _ (by repeat' first | exact HH.out | apply Sd.alloc | apply Sd.drewN | apply Sd.drew) | apply Sd.alloc | apply Sd.drewN | apply Sd.drew⟩
set_option maxHeartbeats 4000000 in
set_option maxRecDepth 100000 in
theorem pd14 (h : Sd x E w w' m back buf) (hI : Inv m) (a b : Nat) (ha : a < 12) (hb : b < 12) (c : Nat) (hc : c < 12) (ar : Int → Int → Int → Option Int) (hA : DArith ar) :
    Calls Tryd.prog 74 #[.pointer (some ⟨x.bm, 0, none⟩), cV ⟨14, a, b, (c : Int)⟩] w' fun e w2 => e = .returned (.bool true) ∧ ∃ back' buf', Sd x E w w2 (match ar 9 (reg m b) (reg m c) with | none => trap m 1 | some v => setR m a v) back' buf' := by
  obtain ⟨cc, fc⟩ := h.cell (k := 1 + c) (by omega)
  rw [dcell_reg _ _ _ _ _ hc] at cc
  change _ = some (Value.int .u32 (reg m c)) at cc
  have hc2 : (c : Int) < 12 := by omega
  have hi : (-32768 : Int) ≤ c ∧ (c : Int) ≤ 32767 := ⟨by omega, by omega⟩
  cases har : ar 9 (reg m b) (reg m c) with
  | none =>
    simp only
    have HA := Lib.hid (hA.none_ 9 (by omega) _ _ (hI.reg b) (hI.reg c) har)
    have HT := Lib.hid (fun (W : World) (hW : Sd x E w W m back buf) => stop_d hW 2 1)
    obtain ⟨ca, fa⟩ := h.cell (k := 1 + a) (by omega)
    rw [dcell_reg _ _ _ _ _ ha] at ca
    change _ = some (Value.int .u32 (reg m a)) at ca
    obtain ⟨cb, fb⟩ := h.cell (k := 1 + b) (by omega)
    rw [dcell_reg _ _ _ _ _ hb] at cb
    change _ = some (Value.int .u32 (reg m b)) at cb
    have hlm := h.lm
    have ha2 : (a : Int) < 12 := by omega
    have hb2 : (b : Int) < 12 := by omega
    obtain ⟨va0, va1⟩ := hI.reg a
    obtain ⟨vb0, vb1⟩ := hI.reg b
    obtain ⟨i0, i1⟩ := hi
    have HH := Lib.hid h
    clear h hI har
    generalize reg m a = va at *
    generalize reg m b = vb at *
    generalize reg m c = vc at *
    go_enter Tryd.func74, Tryd.ntmps74
    go_wp2
    go_quiet (fail)
    go_wp2
    go_quiet (first | (go_at_call 120; refine (HA.out _).mono ?_; rintro e w3 ⟨rfl, rfl⟩; exact ⟨rfl, _, rfl⟩))
    go_wp2_with (go_at_call 46; refine (HT.out _ (by repeat' first | exact HH.out | apply Sd.alloc | apply Sd.drewN | apply Sd.drew)).mono ?_; rintro e w3 ⟨rfl, h3⟩; have H3 := Lib.hid h3; clear h3)
    go_ret
    exact ⟨rfl, _, _, H3.out⟩
  | some v =>
    simp only
    have HA := Lib.hid (hA.some_ 9 (by omega) _ _ v (hI.reg b) (hI.reg c) har)
    have HS := Lib.hid (fun (W : World) (hW : Sd x E w W m back buf) => hW.setR ha hI.rl v)
    obtain ⟨ca, fa⟩ := h.cell (k := 1 + a) (by omega)
    rw [dcell_reg _ _ _ _ _ ha] at ca
    change _ = some (Value.int .u32 (reg m a)) at ca
    obtain ⟨cb, fb⟩ := h.cell (k := 1 + b) (by omega)
    rw [dcell_reg _ _ _ _ _ hb] at cb
    change _ = some (Value.int .u32 (reg m b)) at cb
    have hlm := h.lm
    have ha2 : (a : Int) < 12 := by omega
    have hb2 : (b : Int) < 12 := by omega
    obtain ⟨va0, va1⟩ := hI.reg a
    obtain ⟨vb0, vb1⟩ := hI.reg b
    obtain ⟨i0, i1⟩ := hi
    have HH := Lib.hid h
    clear h hI har
    generalize reg m a = va at *
    generalize reg m b = vb at *
    generalize reg m c = vc at *
    go_enter Tryd.func74, Tryd.ntmps74
    go_wp2
    go_quiet (fail)
    go_wp2
    go_quiet (first | (go_at_call 120; refine (HA.out _).mono ?_; rintro e w3 ⟨rfl, rfl⟩; exact ⟨rfl, _, rfl⟩))
    go_wp2
    go_region
    all_goals
      go_wp2
      go_ret
      exact ⟨rfl, _, _, by repeat' first | exact HS.out _ (by repeat' first | exact HH.out | apply Sd.alloc | apply Sd.drewN | apply Sd.drew) | apply Sd.alloc | apply Sd.drewN | apply Sd.drew⟩
end
end Go.Proofs.YtopceggmdieppaaDoor.Emu
