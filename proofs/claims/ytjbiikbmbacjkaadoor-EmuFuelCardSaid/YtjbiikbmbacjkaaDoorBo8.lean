/- The instructions: what leads elsewhere. No condition. -/
import Derived.Test.YtjbiikbmbacjkaaDoorBo
namespace Go.Proofs.YtjbiikbmbacjkaaDoor.Emu
open Go.RowKit Go.Proofs.YtjbiikbmbacjkaaDoor.Enc Go.Proofs.YtjbiikbmbacjkaaDoor.Graph

section
variable {x : Fz} {E : Env} {wk : Nat → Value} {w w' w1 w2 : World} {m : M} {ad buf back : Value} {pg : Nat → Option Nat}
set_option maxHeartbeats 4000000 in
set_option maxRecDepth 100000 in
theorem doJ40 (h : St x E wk w w' m ad buf back pg) (h0 : m.stop = 0) (hI : Inv m) (hE : EnvOk E) (hp : 0 ≤ m.place ∧ m.place ≤ 65536) (a b : Nat) (ha : a < 12) (hb : b < 12) (imm : Int) (hi : -32768 ≤ imm ∧ imm ≤ 32767) :
    Calls Tryd.prog 37 #[.pointer (some ⟨x.bm, 0, none⟩), iV ⟨40, a, b, imm⟩] w' (DoPost x E wk w m (doStep E m ⟨40, a, b, imm⟩) False) := by
  have HJ := Lib.hid (fun (W : World) (hW : St x E wk w W m ad buf back pg) => jump_prog hW h0 hI hE hp ⟨40, a, b, imm⟩ ⟨by simp only; omega, by simp only; omega, by simp only; omega, hi⟩ (by simp only; omega))
  obtain ⟨ca, fa⟩ := h.cell (k := 2 + a) (by omega)
  rw [cellOf_reg _ ha] at ca
  change _ = some (Value.int .u32 (reg m a)) at ca
  obtain ⟨cb, fb⟩ := h.cell (k := 2 + b) (by omega)
  rw [cellOf_reg _ hb] at cb
  change _ = some (Value.int .u32 (reg m b)) at cb
  have hlm := h.lm
  have ha2 : (a : Int) < 12 := by omega
  have hb2 : (b : Int) < 12 := by omega
  obtain ⟨va0, va1⟩ := hI.reg a
  obtain ⟨vb0, vb1⟩ := hI.reg b
  obtain ⟨i0, i1⟩ := hi
  have HH := Lib.hid h
  by_cases hc : (doStep E m ⟨40, a, b, imm⟩).stop ≠ 2 ∨ False
  · have HTW := Lib.hid (fun (W : World) (hW : St x E wk w W m ad buf back pg) => (HJ.out W hW).mono (fun e w2 hd => hd.went hc))
    have HP := Lib.hid (fun (e : Ending) (w2 : World) he => DoPost.of_went (x := x) (E := E) (wk := wk) (w := w) (w2 := w2) (e := e) (m := m) hc he)
    clear HJ hc h hI h0
    generalize doStep E m ⟨40, a, b, imm⟩ = mo at *
    generalize reg m a = va at *
    generalize reg m b = vb at *
    refine Calls.mono ?_ HP.out
    go_enter Tryd.func37, Tryd.ntmps37
    go_wp2
    go_quiet (fail)
    go_wp2
    go_quiet (fail)
    go_wp2_with (go_at_call 78; refine (HTW.out _ ((HH.out.alloc _).drewN _)).mono ?_; rintro e w3 ⟨rfl, h3⟩; have H3 := Lib.hid h3; clear h3)
    go_end0
    exact ⟨rfl, H3.out⟩
  · have HTF := Lib.hid (fun (W : World) (hW : St x E wk w W m ad buf back pg) => (HJ.out W hW).mono (fun e w2 hd => hd.fell hc))
    have HP := Lib.hid (fun (e : Ending) (w2 : World) he => DoPost.of_fell (x := x) (E := E) (wk := wk) (w := w) (w2 := w2) (e := e) (m := m) hc he)
    clear HJ hc h hI h0
    generalize doStep E m ⟨40, a, b, imm⟩ = mo at *
    generalize reg m a = va at *
    generalize reg m b = vb at *
    refine Calls.mono ?_ HP.out
    go_enter Tryd.func37, Tryd.ntmps37
    go_wp2
    go_quiet (fail)
    go_wp2
    go_quiet (fail)
    go_wp2_with (go_at_call 78; refine (HTF.out _ ((HH.out.alloc _).drewN _)).mono ?_; rintro e w3 ⟨rfl, h3⟩; have H3 := Lib.hid h3; clear h3)
    exact ⟨rfl, rfl, H3.out⟩
set_option maxHeartbeats 4000000 in
set_option maxRecDepth 100000 in
theorem doJ41 (h : St x E wk w w' m ad buf back pg) (h0 : m.stop = 0) (hI : Inv m) (hE : EnvOk E) (hp : 0 ≤ m.place ∧ m.place ≤ 65536) (a b : Nat) (ha : a < 12) (hb : b < 12) (imm : Int) (hi : -32768 ≤ imm ∧ imm ≤ 32767) :
    Calls Tryd.prog 37 #[.pointer (some ⟨x.bm, 0, none⟩), iV ⟨41, a, b, imm⟩] w' (DoPost x E wk w m (doStep E m ⟨41, a, b, imm⟩) False) := by
  have HJ := Lib.hid (fun (W : World) (hW : St x E wk w W m ad buf back pg) => jump_prog hW h0 hI hE hp ⟨41, a, b, imm⟩ ⟨by simp only; omega, by simp only; omega, by simp only; omega, hi⟩ (by simp only; omega))
  obtain ⟨ca, fa⟩ := h.cell (k := 2 + a) (by omega)
  rw [cellOf_reg _ ha] at ca
  change _ = some (Value.int .u32 (reg m a)) at ca
  obtain ⟨cb, fb⟩ := h.cell (k := 2 + b) (by omega)
  rw [cellOf_reg _ hb] at cb
  change _ = some (Value.int .u32 (reg m b)) at cb
  have hlm := h.lm
  have ha2 : (a : Int) < 12 := by omega
  have hb2 : (b : Int) < 12 := by omega
  obtain ⟨va0, va1⟩ := hI.reg a
  obtain ⟨vb0, vb1⟩ := hI.reg b
  obtain ⟨i0, i1⟩ := hi
  have HH := Lib.hid h
  by_cases hc : (doStep E m ⟨41, a, b, imm⟩).stop ≠ 2 ∨ False
  · have HTW := Lib.hid (fun (W : World) (hW : St x E wk w W m ad buf back pg) => (HJ.out W hW).mono (fun e w2 hd => hd.went hc))
    have HP := Lib.hid (fun (e : Ending) (w2 : World) he => DoPost.of_went (x := x) (E := E) (wk := wk) (w := w) (w2 := w2) (e := e) (m := m) hc he)
    clear HJ hc h hI h0
    generalize doStep E m ⟨41, a, b, imm⟩ = mo at *
    generalize reg m a = va at *
    generalize reg m b = vb at *
    refine Calls.mono ?_ HP.out
    go_enter Tryd.func37, Tryd.ntmps37
    go_wp2
    go_quiet (fail)
    go_wp2
    go_quiet (fail)
    go_wp2_with (go_at_call 78; refine (HTW.out _ ((HH.out.alloc _).drewN _)).mono ?_; rintro e w3 ⟨rfl, h3⟩; have H3 := Lib.hid h3; clear h3)
    go_end0
    exact ⟨rfl, H3.out⟩
  · have HTF := Lib.hid (fun (W : World) (hW : St x E wk w W m ad buf back pg) => (HJ.out W hW).mono (fun e w2 hd => hd.fell hc))
    have HP := Lib.hid (fun (e : Ending) (w2 : World) he => DoPost.of_fell (x := x) (E := E) (wk := wk) (w := w) (w2 := w2) (e := e) (m := m) hc he)
    clear HJ hc h hI h0
    generalize doStep E m ⟨41, a, b, imm⟩ = mo at *
    generalize reg m a = va at *
    generalize reg m b = vb at *
    refine Calls.mono ?_ HP.out
    go_enter Tryd.func37, Tryd.ntmps37
    go_wp2
    go_quiet (fail)
    go_wp2
    go_quiet (fail)
    go_wp2_with (go_at_call 78; refine (HTF.out _ ((HH.out.alloc _).drewN _)).mono ?_; rintro e w3 ⟨rfl, h3⟩; have H3 := Lib.hid h3; clear h3)
    exact ⟨rfl, rfl, H3.out⟩
set_option maxHeartbeats 4000000 in
set_option maxRecDepth 100000 in
theorem doJ42 (h : St x E wk w w' m ad buf back pg) (h0 : m.stop = 0) (hI : Inv m) (hE : EnvOk E) (hp : 0 ≤ m.place ∧ m.place ≤ 65536) (a b : Nat) (ha : a < 12) (hb : b < 12) (imm : Int) (hi : -32768 ≤ imm ∧ imm ≤ 32767) :
    Calls Tryd.prog 37 #[.pointer (some ⟨x.bm, 0, none⟩), iV ⟨42, a, b, imm⟩] w' (DoPost x E wk w m (doStep E m ⟨42, a, b, imm⟩) False) := by
  have HJ := Lib.hid (fun (W : World) (hW : St x E wk w W m ad buf back pg) => jump_prog hW h0 hI hE hp ⟨42, a, b, imm⟩ ⟨by simp only; omega, by simp only; omega, by simp only; omega, hi⟩ (by simp only; omega))
  obtain ⟨ca, fa⟩ := h.cell (k := 2 + a) (by omega)
  rw [cellOf_reg _ ha] at ca
  change _ = some (Value.int .u32 (reg m a)) at ca
  obtain ⟨cb, fb⟩ := h.cell (k := 2 + b) (by omega)
  rw [cellOf_reg _ hb] at cb
  change _ = some (Value.int .u32 (reg m b)) at cb
  have hlm := h.lm
  have ha2 : (a : Int) < 12 := by omega
  have hb2 : (b : Int) < 12 := by omega
  obtain ⟨va0, va1⟩ := hI.reg a
  obtain ⟨vb0, vb1⟩ := hI.reg b
  obtain ⟨i0, i1⟩ := hi
  have HH := Lib.hid h
  by_cases hc : (doStep E m ⟨42, a, b, imm⟩).stop ≠ 2 ∨ False
  · have HTW := Lib.hid (fun (W : World) (hW : St x E wk w W m ad buf back pg) => (HJ.out W hW).mono (fun e w2 hd => hd.went hc))
    have HP := Lib.hid (fun (e : Ending) (w2 : World) he => DoPost.of_went (x := x) (E := E) (wk := wk) (w := w) (w2 := w2) (e := e) (m := m) hc he)
    clear HJ hc h hI h0
    generalize doStep E m ⟨42, a, b, imm⟩ = mo at *
    generalize reg m a = va at *
    generalize reg m b = vb at *
    refine Calls.mono ?_ HP.out
    go_enter Tryd.func37, Tryd.ntmps37
    go_wp2
    go_quiet (fail)
    go_wp2
    go_quiet (fail)
    go_wp2_with (go_at_call 78; refine (HTW.out _ ((HH.out.alloc _).drewN _)).mono ?_; rintro e w3 ⟨rfl, h3⟩; have H3 := Lib.hid h3; clear h3)
    go_end0
    exact ⟨rfl, H3.out⟩
  · have HTF := Lib.hid (fun (W : World) (hW : St x E wk w W m ad buf back pg) => (HJ.out W hW).mono (fun e w2 hd => hd.fell hc))
    have HP := Lib.hid (fun (e : Ending) (w2 : World) he => DoPost.of_fell (x := x) (E := E) (wk := wk) (w := w) (w2 := w2) (e := e) (m := m) hc he)
    clear HJ hc h hI h0
    generalize doStep E m ⟨42, a, b, imm⟩ = mo at *
    generalize reg m a = va at *
    generalize reg m b = vb at *
    refine Calls.mono ?_ HP.out
    go_enter Tryd.func37, Tryd.ntmps37
    go_wp2
    go_quiet (fail)
    go_wp2
    go_quiet (fail)
    go_wp2_with (go_at_call 78; refine (HTF.out _ ((HH.out.alloc _).drewN _)).mono ?_; rintro e w3 ⟨rfl, h3⟩; have H3 := Lib.hid h3; clear h3)
    exact ⟨rfl, rfl, H3.out⟩
set_option maxHeartbeats 4000000 in
set_option maxRecDepth 100000 in
theorem doJ43 (h : St x E wk w w' m ad buf back pg) (h0 : m.stop = 0) (hI : Inv m) (hE : EnvOk E) (hp : 0 ≤ m.place ∧ m.place ≤ 65536) (a b : Nat) (ha : a < 12) (hb : b < 12) (imm : Int) (hi : -32768 ≤ imm ∧ imm ≤ 32767) :
    Calls Tryd.prog 37 #[.pointer (some ⟨x.bm, 0, none⟩), iV ⟨43, a, b, imm⟩] w' (DoPost x E wk w m (doStep E m ⟨43, a, b, imm⟩) False) := by
  have HJ := Lib.hid (fun (W : World) (hW : St x E wk w W m ad buf back pg) => jump_prog hW h0 hI hE hp ⟨43, a, b, imm⟩ ⟨by simp only; omega, by simp only; omega, by simp only; omega, hi⟩ (by simp only; omega))
  obtain ⟨ca, fa⟩ := h.cell (k := 2 + a) (by omega)
  rw [cellOf_reg _ ha] at ca
  change _ = some (Value.int .u32 (reg m a)) at ca
  obtain ⟨cb, fb⟩ := h.cell (k := 2 + b) (by omega)
  rw [cellOf_reg _ hb] at cb
  change _ = some (Value.int .u32 (reg m b)) at cb
  have hlm := h.lm
  have ha2 : (a : Int) < 12 := by omega
  have hb2 : (b : Int) < 12 := by omega
  obtain ⟨va0, va1⟩ := hI.reg a
  obtain ⟨vb0, vb1⟩ := hI.reg b
  obtain ⟨i0, i1⟩ := hi
  have HH := Lib.hid h
  by_cases hc : (doStep E m ⟨43, a, b, imm⟩).stop ≠ 2 ∨ False
  · have HTW := Lib.hid (fun (W : World) (hW : St x E wk w W m ad buf back pg) => (HJ.out W hW).mono (fun e w2 hd => hd.went hc))
    have HP := Lib.hid (fun (e : Ending) (w2 : World) he => DoPost.of_went (x := x) (E := E) (wk := wk) (w := w) (w2 := w2) (e := e) (m := m) hc he)
    clear HJ hc h hI h0
    generalize doStep E m ⟨43, a, b, imm⟩ = mo at *
    generalize reg m a = va at *
    generalize reg m b = vb at *
    refine Calls.mono ?_ HP.out
    go_enter Tryd.func37, Tryd.ntmps37
    go_wp2
    go_quiet (fail)
    go_wp2
    go_quiet (fail)
    go_wp2_with (go_at_call 78; refine (HTW.out _ ((HH.out.alloc _).drewN _)).mono ?_; rintro e w3 ⟨rfl, h3⟩; have H3 := Lib.hid h3; clear h3)
    go_end0
    exact ⟨rfl, H3.out⟩
  · have HTF := Lib.hid (fun (W : World) (hW : St x E wk w W m ad buf back pg) => (HJ.out W hW).mono (fun e w2 hd => hd.fell hc))
    have HP := Lib.hid (fun (e : Ending) (w2 : World) he => DoPost.of_fell (x := x) (E := E) (wk := wk) (w := w) (w2 := w2) (e := e) (m := m) hc he)
    clear HJ hc h hI h0
    generalize doStep E m ⟨43, a, b, imm⟩ = mo at *
    generalize reg m a = va at *
    generalize reg m b = vb at *
    refine Calls.mono ?_ HP.out
    go_enter Tryd.func37, Tryd.ntmps37
    go_wp2
    go_quiet (fail)
    go_wp2
    go_quiet (fail)
    go_wp2_with (go_at_call 78; refine (HTF.out _ ((HH.out.alloc _).drewN _)).mono ?_; rintro e w3 ⟨rfl, h3⟩; have H3 := Lib.hid h3; clear h3)
    exact ⟨rfl, rfl, H3.out⟩
set_option maxHeartbeats 4000000 in
set_option maxRecDepth 100000 in
theorem doJ44 (h : St x E wk w w' m ad buf back pg) (h0 : m.stop = 0) (hI : Inv m) (hE : EnvOk E) (hp : 0 ≤ m.place ∧ m.place ≤ 65536) (a b : Nat) (ha : a < 12) (hb : b < 12) (imm : Int) (hi : -32768 ≤ imm ∧ imm ≤ 32767) :
    Calls Tryd.prog 37 #[.pointer (some ⟨x.bm, 0, none⟩), iV ⟨44, a, b, imm⟩] w' (DoPost x E wk w m (doStep E m ⟨44, a, b, imm⟩) False) := by
  have HJ := Lib.hid (fun (W : World) (hW : St x E wk w W m ad buf back pg) => jump_prog hW h0 hI hE hp ⟨44, a, b, imm⟩ ⟨by simp only; omega, by simp only; omega, by simp only; omega, hi⟩ (by simp only; omega))
  obtain ⟨ca, fa⟩ := h.cell (k := 2 + a) (by omega)
  rw [cellOf_reg _ ha] at ca
  change _ = some (Value.int .u32 (reg m a)) at ca
  obtain ⟨cb, fb⟩ := h.cell (k := 2 + b) (by omega)
  rw [cellOf_reg _ hb] at cb
  change _ = some (Value.int .u32 (reg m b)) at cb
  have hlm := h.lm
  have ha2 : (a : Int) < 12 := by omega
  have hb2 : (b : Int) < 12 := by omega
  obtain ⟨va0, va1⟩ := hI.reg a
  obtain ⟨vb0, vb1⟩ := hI.reg b
  obtain ⟨i0, i1⟩ := hi
  have HH := Lib.hid h
  by_cases hc : (doStep E m ⟨44, a, b, imm⟩).stop ≠ 2 ∨ False
  · have HTW := Lib.hid (fun (W : World) (hW : St x E wk w W m ad buf back pg) => (HJ.out W hW).mono (fun e w2 hd => hd.went hc))
    have HP := Lib.hid (fun (e : Ending) (w2 : World) he => DoPost.of_went (x := x) (E := E) (wk := wk) (w := w) (w2 := w2) (e := e) (m := m) hc he)
    clear HJ hc h hI h0
    generalize doStep E m ⟨44, a, b, imm⟩ = mo at *
    generalize reg m a = va at *
    generalize reg m b = vb at *
    refine Calls.mono ?_ HP.out
    go_enter Tryd.func37, Tryd.ntmps37
    go_wp2
    go_quiet (fail)
    go_wp2
    go_quiet (fail)
    go_wp2_with (go_at_call 78; refine (HTW.out _ ((HH.out.alloc _).drewN _)).mono ?_; rintro e w3 ⟨rfl, h3⟩; have H3 := Lib.hid h3; clear h3)
    go_end0
    exact ⟨rfl, H3.out⟩
  · have HTF := Lib.hid (fun (W : World) (hW : St x E wk w W m ad buf back pg) => (HJ.out W hW).mono (fun e w2 hd => hd.fell hc))
    have HP := Lib.hid (fun (e : Ending) (w2 : World) he => DoPost.of_fell (x := x) (E := E) (wk := wk) (w := w) (w2 := w2) (e := e) (m := m) hc he)
    clear HJ hc h hI h0
    generalize doStep E m ⟨44, a, b, imm⟩ = mo at *
    generalize reg m a = va at *
    generalize reg m b = vb at *
    refine Calls.mono ?_ HP.out
    go_enter Tryd.func37, Tryd.ntmps37
    go_wp2
    go_quiet (fail)
    go_wp2
    go_quiet (fail)
    go_wp2_with (go_at_call 78; refine (HTF.out _ ((HH.out.alloc _).drewN _)).mono ?_; rintro e w3 ⟨rfl, h3⟩; have H3 := Lib.hid h3; clear h3)
    exact ⟨rfl, rfl, H3.out⟩
end
end Go.Proofs.YtjbiikbmbacjkaaDoor.Emu
