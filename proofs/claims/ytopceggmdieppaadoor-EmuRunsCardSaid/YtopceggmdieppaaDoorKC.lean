/- The document's machine, instructions that go on: checks and ends. No condition. -/
import Derived.Test.YtopceggmdieppaaDoorKA
import Derived.Test.YtopceggmdieppaaDoorHB
namespace Go.Proofs.YtopceggmdieppaaDoor.Emu
open Go.RowKit Go.Proofs.YtopceggmdieppaaDoor.Enc Go.Proofs.YtopceggmdieppaaDoor.Graph

section
variable {x : Dz} {E : Env} {w w' w1 w2 : World} {m : M} {back buf : Value}
set_option maxHeartbeats 4000000 in
set_option maxRecDepth 100000 in
theorem pd29 (h : Sd x E w w' m back buf) (hI : Inv m) (a b : Nat) (ha : a < 12) (hb : b < 12) (imm : Int) (hi : -32768 ≤ imm ∧ imm ≤ 32767) :
    Calls Tryd.prog 74 #[.pointer (some ⟨x.bm, 0, none⟩), cV ⟨29, a, b, imm⟩] w' fun e w2 => e = .returned (.bool true) ∧ ∃ back' buf', Sd x E w w2 (if reg m b ≤ reg m a then trap m 2 else m) back' buf' := by
  by_cases hle : reg m b ≤ reg m a
  · rw [if_pos hle]
    have HT := Lib.hid (fun (W : World) (hW : Sd x E w W m back buf) => stop_d hW 2 2)
    obtain ⟨ca, fa⟩ := h.cell (k := 1 + a) (by omega)
    rw [dcell_reg _ _ _ _ _ ha] at ca
    change _ = some (Value.int .u32 (reg m a)) at ca
    obtain ⟨cb, fb⟩ := h.cell (k := 1 + b) (by omega)
    rw [dcell_reg _ _ _ _ _ hb] at cb
    change _ = some (Value.int .u32 (reg m b)) at cb
    have hlm := h.lm
    have ha2 : (a : Int) < 12 := by omega
    have hb2 : (b : Int) < 12 := by omega
    obtain ⟨va0, va1⟩ := hI.reg a
    obtain ⟨vb0, vb1⟩ := hI.reg b
    obtain ⟨i0, i1⟩ := hi
    have HH := Lib.hid h
    clear h hI
    generalize reg m a = va at *
    generalize reg m b = vb at *
    go_enter Tryd.func74, Tryd.ntmps74
    go_wp2
    go_quiet (fail)
    go_wp2
    go_quiet (fail)
    go_wp2_with (go_at_call 46; refine (HT.out _ (by repeat' first | exact HH.out | apply Sd.alloc | apply Sd.drewN | apply Sd.drew)).mono ?_; rintro e w3 ⟨rfl, h3⟩; have H3 := Lib.hid h3; clear h3)
    go_ret
    exact ⟨rfl, _, _, H3.out⟩
  · rw [if_neg hle]
    obtain ⟨ca, fa⟩ := h.cell (k := 1 + a) (by omega)
    rw [dcell_reg _ _ _ _ _ ha] at ca
    change _ = some (Value.int .u32 (reg m a)) at ca
    obtain ⟨cb, fb⟩ := h.cell (k := 1 + b) (by omega)
    rw [dcell_reg _ _ _ _ _ hb] at cb
    change _ = some (Value.int .u32 (reg m b)) at cb
    have hlm := h.lm
    have ha2 : (a : Int) < 12 := by omega
    have hb2 : (b : Int) < 12 := by omega
    obtain ⟨va0, va1⟩ := hI.reg a
    obtain ⟨vb0, vb1⟩ := hI.reg b
    obtain ⟨i0, i1⟩ := hi
    have HH := Lib.hid h
    clear h hI
    generalize reg m a = va at *
    generalize reg m b = vb at *
    go_enter Tryd.func74, Tryd.ntmps74
    go_wp2
    go_quiet (fail)
    go_wp2
    go_quiet (fail)
    go_wp2
    go_ret
    exact ⟨rfl, _, _, (by repeat' first | exact HH.out | apply Sd.alloc | apply Sd.drewN | apply Sd.drew)⟩
set_option maxHeartbeats 4000000 in
set_option maxRecDepth 100000 in
theorem pd47 (h : Sd x E w w' m back buf) (hI : Inv m) (a b : Nat) (ha : a < 12) (hb : b < 12) (imm : Int) (hi : -32768 ≤ imm ∧ imm ≤ 32767) :
    Calls Tryd.prog 74 #[.pointer (some ⟨x.bm, 0, none⟩), cV ⟨47, a, b, imm⟩] w' fun e w2 => e = .returned (.bool true) ∧ ∃ back' buf', Sd x E w w2 (halt m 1 (reg m a)) back' buf' := by
  have HT := Lib.hid (fun (W : World) (hW : Sd x E w W m back buf) => stop_d hW 1 (reg m a))
  obtain ⟨ca, fa⟩ := h.cell (k := 1 + a) (by omega)
  rw [dcell_reg _ _ _ _ _ ha] at ca
  change _ = some (Value.int .u32 (reg m a)) at ca
  obtain ⟨cb, fb⟩ := h.cell (k := 1 + b) (by omega)
  rw [dcell_reg _ _ _ _ _ hb] at cb
  change _ = some (Value.int .u32 (reg m b)) at cb
  have hlm := h.lm
  have ha2 : (a : Int) < 12 := by omega
  have hb2 : (b : Int) < 12 := by omega
  obtain ⟨va0, va1⟩ := hI.reg a
  obtain ⟨vb0, vb1⟩ := hI.reg b
  obtain ⟨i0, i1⟩ := hi
  have HH := Lib.hid h
  clear h hI
  generalize reg m a = va at *
  generalize reg m b = vb at *
  go_enter Tryd.func74, Tryd.ntmps74
  go_wp2
  go_quiet (fail)
  go_wp2
  go_region_law (first | ((try go_simp); go_at_call 46; refine (HT.out _ (by repeat' first | exact HH.out | apply Sd.alloc | apply Sd.drewN | apply Sd.drew)).mono ?_; rintro e w3 ⟨rfl, h3⟩; have H3 := Lib.hid h3; clear h3))
  all_goals
    go_wp2
    go_ret
    exact ⟨rfl, _, _, H3.out⟩
set_option maxHeartbeats 4000000 in
set_option maxRecDepth 100000 in
theorem pd48 (h : Sd x E w w' m back buf) (hI : Inv m) (a b : Nat) (ha : a < 12) (hb : b < 12) (imm : Int) (hi : -32768 ≤ imm ∧ imm ≤ 32767) (hi2 : 0 ≤ imm ∧ imm ≤ 255) :
    Calls Tryd.prog 74 #[.pointer (some ⟨x.bm, 0, none⟩), cV ⟨48, a, b, imm⟩] w' fun e w2 => e = .returned (.bool true) ∧ ∃ back' buf', Sd x E w w2 (halt m 2 (imm)) back' buf' := by
  have HT := Lib.hid (fun (W : World) (hW : Sd x E w W m back buf) => stop_d hW 2 (imm))
  obtain ⟨ca, fa⟩ := h.cell (k := 1 + a) (by omega)
  rw [dcell_reg _ _ _ _ _ ha] at ca
  change _ = some (Value.int .u32 (reg m a)) at ca
  obtain ⟨cb, fb⟩ := h.cell (k := 1 + b) (by omega)
  rw [dcell_reg _ _ _ _ _ hb] at cb
  change _ = some (Value.int .u32 (reg m b)) at cb
  have hlm := h.lm
  have ha2 : (a : Int) < 12 := by omega
  have hb2 : (b : Int) < 12 := by omega
  obtain ⟨va0, va1⟩ := hI.reg a
  obtain ⟨vb0, vb1⟩ := hI.reg b
  obtain ⟨i0, i1⟩ := hi
  have HH := Lib.hid h
  have e1 : imm % 4294967296 = imm := by omega
  clear h hI
  generalize reg m a = va at *
  generalize reg m b = vb at *
  go_enter Tryd.func74, Tryd.ntmps74
  go_wp2
  go_quiet (fail)
  go_wp2_with (go_at_call 46; refine (HT.out _ (by repeat' first | exact HH.out | apply Sd.alloc | apply Sd.drewN | apply Sd.drew)).mono ?_; rintro e w3 ⟨rfl, h3⟩; have H3 := Lib.hid h3; clear h3)
  go_ret
  exact ⟨rfl, _, _, H3.out⟩
end
end Go.Proofs.YtopceggmdieppaaDoor.Emu
namespace Go.Proofs.YtopceggmdieppaaDoor.Emu
open Go.RowKit Go.Proofs.YtopceggmdieppaaDoor.Enc Go.Proofs.YtopceggmdieppaaDoor.Graph

section
variable {x : Dz} {E : Env} {w w' w1 w2 : World} {m : M} {back buf : Value}
set_option maxHeartbeats 4000000 in
set_option maxRecDepth 100000 in
theorem pd45 (h : Sd x E w w' m back buf) (hI : Inv m) (a b : Nat) (ha : a < 12) (hb : b < 12) (imm : Int) (hi : -32768 ≤ imm ∧ imm ≤ 32767) (hl : E.input.length ≤ 10000) :
    Calls Tryd.prog 74 #[.pointer (some ⟨x.bm, 0, none⟩), cV ⟨45, a, b, imm⟩] w' fun e w2 => e = .returned (.bool true) ∧ ∃ back' buf', Sd x E w w2 (match E.input[m.at_]? with | none => setR m a 4294967295 | some c => { setR m a c.toNat with at_ := m.at_ + 1 }) back' buf' := by
  cases hin : E.input[m.at_]? with
  | none =>
    simp only
    have HR := Lib.hid (fun (W : World) (hW : Sd x E w W m back buf) => readsD_no hW hin)
    have HS := Lib.hid (fun (W : World) (hW : Sd x E w W m back buf) => hW.setR ha hI.rl 4294967295)
    have HC := Lib.hid (fun (W : World) (hW : Sd x E w W m back buf) => (show W.cell? ⟨x.bm, 1 + a, none⟩ = some (.int .u32 (reg m a)) ∧ W.frozen? ⟨x.bm, 1 + a, none⟩ = false from by
      have h2 := hW.cell (k := 1 + a) (by omega)
      rw [dcell_reg _ _ _ _ _ ha] at h2
      exact h2))
    obtain ⟨ca, fa⟩ := h.cell (k := 1 + a) (by omega)
    rw [dcell_reg _ _ _ _ _ ha] at ca
    change _ = some (Value.int .u32 (reg m a)) at ca
    obtain ⟨cb, fb⟩ := h.cell (k := 1 + b) (by omega)
    rw [dcell_reg _ _ _ _ _ hb] at cb
    change _ = some (Value.int .u32 (reg m b)) at cb
    have hlm := h.lm
    have ha2 : (a : Int) < 12 := by omega
    have hb2 : (b : Int) < 12 := by omega
    obtain ⟨va0, va1⟩ := hI.reg a
    obtain ⟨vb0, vb1⟩ := hI.reg b
    obtain ⟨i0, i1⟩ := hi
    have HH := Lib.hid h
    have HBX := Lib.hid (heap_alloc_new w' (.cells #[.int .i64 45, .int .i64 a, .int .i64 b, .int .i64 imm] 43))
    have hnb : w'.heap.size ≠ x.bm := by omega
    clear h hI hin
    generalize reg m a = va at *
    generalize reg m b = vb at *
    go_enter Tryd.func74, Tryd.ntmps74
    go_wp2
    go_quiet (fail)
    go_wp2
    go_region_law (first | ((try go_simp); go_at_call 119; refine (HR.out _ (by repeat' first | exact HH.out | apply Sd.alloc | apply Sd.drewN | apply Sd.drew)).mono ?_; rintro e w3 ⟨rfl, h3, hk3⟩; obtain ⟨⟨y0, y1, y2, y3⟩, _⟩ := four ((hk3 _ hnb).trans HBX.out); clear hk3; obtain ⟨cx, fx⟩ := HC.out _ h3; have hl3 := h3.lm; have H3 := Lib.hid h3; clear h3))
    all_goals
      go_wp2
      go_ret
      exact ⟨rfl, _, _, HS.out _ H3.out⟩
  | some c =>
    simp only
    have HR := Lib.hid (fun (W : World) (hW : Sd x E w W m back buf) => readsD_ok hW hl hin)
    have HS := Lib.hid (fun (W : World) (hW : Sd x E w W { m with at_ := m.at_ + 1 } back buf) => hW.setR ha hI.rl c.toNat)
    have HC := Lib.hid (fun (W : World) (hW : Sd x E w W { m with at_ := m.at_ + 1 } back buf) => (show W.cell? ⟨x.bm, 1 + a, none⟩ = some (.int .u32 (reg m a)) ∧ W.frozen? ⟨x.bm, 1 + a, none⟩ = false from by
      have h2 := hW.cell (k := 1 + a) (by omega)
      rw [dcell_reg _ _ _ _ _ ha] at h2
      exact h2))
    obtain ⟨ca, fa⟩ := h.cell (k := 1 + a) (by omega)
    rw [dcell_reg _ _ _ _ _ ha] at ca
    change _ = some (Value.int .u32 (reg m a)) at ca
    obtain ⟨cb, fb⟩ := h.cell (k := 1 + b) (by omega)
    rw [dcell_reg _ _ _ _ _ hb] at cb
    change _ = some (Value.int .u32 (reg m b)) at cb
    have hlm := h.lm
    have ha2 : (a : Int) < 12 := by omega
    have hb2 : (b : Int) < 12 := by omega
    obtain ⟨va0, va1⟩ := hI.reg a
    obtain ⟨vb0, vb1⟩ := hI.reg b
    obtain ⟨i0, i1⟩ := hi
    have HH := Lib.hid h
    have HBX := Lib.hid (heap_alloc_new w' (.cells #[.int .i64 45, .int .i64 a, .int .i64 b, .int .i64 imm] 43))
    have hnb : w'.heap.size ≠ x.bm := by omega
    clear h hI hin
    generalize reg m a = va at *
    generalize reg m b = vb at *
    go_enter Tryd.func74, Tryd.ntmps74
    go_wp2
    go_quiet (fail)
    go_wp2
    go_region_law (first | ((try go_simp); go_at_call 119; refine (HR.out _ (by repeat' first | exact HH.out | apply Sd.alloc | apply Sd.drewN | apply Sd.drew)).mono ?_; rintro e w3 ⟨rfl, h3, hk3⟩; obtain ⟨⟨y0, y1, y2, y3⟩, _⟩ := four ((hk3 _ hnb).trans HBX.out); clear hk3; obtain ⟨cx, fx⟩ := HC.out _ h3; have hl3 := h3.lm; have H3 := Lib.hid h3; clear h3))
    all_goals
      go_wp2
      go_ret
      exact ⟨rfl, _, _, HS.out _ H3.out⟩
end
end Go.Proofs.YtopceggmdieppaaDoor.Emu
namespace Go.Proofs.YtopceggmdieppaaDoor.Emu
open Go.RowKit Go.Proofs.YtopceggmdieppaaDoor.Enc Go.Proofs.YtopceggmdieppaaDoor.Graph

section
variable {x : Dz} {E : Env} {w w' w1 w2 : World} {m : M} {back buf : Value}
theorem Sd.keptBuf (h : Sd x E w w1 m back buf) (hb : w1.grownBy w2 buf.ownBlock) (k : Nat) {v : Value} (hc : w1.cell? ⟨x.bm, k, none⟩ = some v) (hf : w1.frozen? ⟨x.bm, k, none⟩ = false) : w2.cell? ⟨x.bm, k, none⟩ = some v ∧ w2.frozen? ⟨x.bm, k, none⟩ = false := by
  have hne : some x.bm ≠ buf.ownBlock := fun e => by
    have := (h.bufR.lt _ e.symm).1
    have := h.ok.bn
    omega
  unfold World.cell? at hc ⊢
  unfold World.frozen? at hf ⊢
  rw [hb.block x.bm h.lm hne]
  exact ⟨hc, hf⟩
theorem info_byteE : (Tryd.prog.info? 5).map (fun i => (i.zero, i.size, i.bytes)) = some (some (.int .u8 0), 1, 1) := by kernel_rfl
theorem Sd.bufForm (h : Sd x E w w' m back buf) : ∃ p c, buf = .slice p m.bytes.length c := by
  rcases h.bufR.2 with ⟨rfl, h0⟩ | ⟨g, cap, cur, rfl, _⟩
  · exact ⟨none, 0, by rw [h0]⟩
  · exact ⟨_, _, rfl⟩
set_option maxHeartbeats 4000000 in
set_option maxRecDepth 100000 in
theorem pd46 (h : Sd x E w w' m back buf) (hI : Inv m) (a b : Nat) (ha : a < 12) (hb : b < 12) (imm : Int) (hbl : m.bytes.length ≤ 1073741824) :
    Calls Tryd.prog 74 #[.pointer (some ⟨x.bm, 0, none⟩), cV ⟨46, a, b, imm⟩] w' fun e w2 => e = .returned (.bool true) ∧ ∃ back' buf', Sd x E w w2 { m with bytes := m.bytes ++ [UInt8.ofNat (reg m a % 256).toNat] } back' buf' := by
  obtain ⟨bp, bc, rfl⟩ := h.bufForm
  have hB0 : ((UInt8.ofNat (reg m a % 256).toNat).toNat : Int) = reg m a % 256 := by
    rw [UInt8.toNat_ofNat_of_lt' (by show _ < 256; omega)]; omega
  obtain ⟨c22, f22⟩ := h.cell (k := 22) (by decide)
  change _ = some (Value.slice bp m.bytes.length bc) at c22
  obtain ⟨ca, fa⟩ := h.cell (k := 1 + a) (by omega)
  rw [dcell_reg _ _ _ _ _ ha] at ca
  change _ = some (Value.int .u32 (reg m a)) at ca
  obtain ⟨cb, fb⟩ := h.cell (k := 1 + b) (by omega)
  rw [dcell_reg _ _ _ _ _ hb] at cb
  change _ = some (Value.int .u32 (reg m b)) at cb
  have hlm := h.lm
  have ha2 : (a : Int) < 12 := by omega
  have hb2 : (b : Int) < 12 := by omega
  obtain ⟨va0, va1⟩ := hI.reg a
  have HH := Lib.hid h
  have HW := Lib.hid (fun (W : World) (hW : Sd x E w W m back (.slice bp m.bytes.length bc)) => hW.bufR)
  have HPU := Lib.hid (fun (W W2 : World) (buf' : Value) (hW : Sd x E w W m back (.slice bp m.bytes.length bc)) (hg : W.grownBy W2 (Value.slice bp m.bytes.length bc).ownBlock) (hn : W2.ownsRow x.N 5 1 buf' (m.bytes.length + 1) ((m.bytes.map fun b => .int .u8 b.toNat) ++ [.int .u8 (reg m a % 256)])) (hgn : ∀ g, buf'.ownBlock = some g → (Value.slice bp m.bytes.length bc).ownBlock = some g ∨ W.heap.size ≤ g) =>
    hW.out (b := UInt8.ofNat (reg m a % 256).toNat) hg (by rw [hB0]; exact hn) hgn)
  have HN := Lib.hid (fun (W : World) (hW : Sd x E w W m back (.slice bp m.bytes.length bc)) => hW.size)
  have HKP := Lib.hid (fun (W W2 : World) (hW : Sd x E w W m back (.slice bp m.bytes.length bc)) (hg : W.grownBy W2 (Value.slice bp m.bytes.length bc).ownBlock) (k : Nat) (v : Value) hc hf => hW.keptBuf hg k (v := v) hc hf)
  obtain ⟨i0, hi, hz0, hz1, hz2⟩ := info_parts info_byteE
  have HIN := Lib.hid (And.intro hi (And.intro hz0 (And.intro hz1 hz2)))
  have hn2 : m.bytes.length + 1 ≤ maxLen := by unfold maxLen; omega
  have hn3 : (m.bytes.length + 1) * 1 ≤ 140737488355328 := by omega
  have HNN := Lib.hid (And.intro hn2 hn3)
  clear h hI hi hz0 hz1 hz2 hn2 hn3 hbl hB0
  generalize ({ m with bytes := m.bytes ++ [UInt8.ofNat (reg m a % 256).toNat] } : M) = mo at *
  generalize reg m a = va at *
  generalize reg m b = vb at *
  generalize m.bytes.length = n at *
  go_enter Tryd.func74, Tryd.ntmps74
  go_wp2
  go_quiet (fail)
  go_wp2
  go_region_law (first
    | (refine step_append_lies _ rfl (.tmp 195) (.tmp 204) 92 rfl x.N 5 i0 (.int .u8 0) 1 1 Tryd.underlying92 HIN.out.1 HIN.out.2.1 HIN.out.2.2.1 HIN.out.2.2.2 rfl (by omega) (.slice bp n bc) n _ rfl (HW.out _ (by repeat' first | exact HH.out | apply Sd.alloc | apply Sd.drewN | apply Sd.drew)) ⟨w'.heap.size + 1, 0, none⟩ 1 1 [.int .u8 (va % 256)] rfl rfl (one_newsE (by go_simp <;> simp [IntKind.wrap, IntKind.bits, IntKind.signed])) (fun y hy => by rw [List.mem_singleton.1 hy]; rfl) (by omega) HNN.out.1 HNN.out.2 (HN.out _ (by repeat' first | exact HH.out | apply Sd.alloc | apply Sd.drewN | apply Sd.drew)) _ rfl ?_
       intro g cap w3 h2 h3 h4 h5
       have hkc := HKP.out _ _ (by repeat' first | exact HH.out | apply Sd.alloc | apply Sd.drewN | apply Sd.drew) h3
       obtain ⟨d22, e22⟩ := hkc 22 (.slice bp n bc) (by go_simp) (by go_simp)
       have HG := Lib.hid (HPU.out _ _ _ (by repeat' first | exact HH.out | apply Sd.alloc | apply Sd.drewN | apply Sd.drew) h3 h2 (fun g' e => by
         have e : some g = some g' := e
         injection e with e
         subst e
         rcases h4 with h4 | h4
         · exact .inl h4
         · right; exact Nat.le_of_eq h4.symm))
       clear h2 h3 h4 h5 hkc))
  all_goals
    go_wp2
    go_ret
    exact ⟨rfl, _, _, HG.out⟩
end
end Go.Proofs.YtopceggmdieppaaDoor.Emu
