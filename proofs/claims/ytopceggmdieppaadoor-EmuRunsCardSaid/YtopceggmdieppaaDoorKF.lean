/- The document's machine, instructions that go elsewhere: jumps. No condition. -/
import Derived.Test.YtopceggmdieppaaDoorKA
import Derived.Test.YtopceggmdieppaaDoorHB
import Derived.Test.YtopceggmdieppaaDoorEC
namespace Go.Proofs.YtopceggmdieppaaDoor.Emu
open Go.RowKit Go.Proofs.YtopceggmdieppaaDoor.Enc Go.Proofs.YtopceggmdieppaaDoor.Graph

section
variable {x : Dz} {E : Env} {w w' w1 w2 : World} {m : M} {back buf : Value}
set_option maxHeartbeats 4000000 in
set_option maxRecDepth 100000 in
theorem gd40 (h : Sd x E w w' m back buf) (_hI : Inv m) (_hE : EnvOk E) (a b : Nat) (_ha : a < 12) (_hb : b < 12) (imm : Int) (hi : -32768 ≤ imm ∧ imm ≤ 32767) (q : Int) (hq : 0 ≤ q ∧ q ≤ 65536) :
    Calls Tryd.prog 75 #[.pointer (some ⟨x.bm, 0, none⟩), cV ⟨40, a, b, imm⟩, .int .i64 q] w' fun e w2 => e = .returned (.tuple #[]) ∧ ∃ back' buf', Sd x E w w2 (goesStep E m ⟨40, a, b, imm⟩ q) back' buf' := by
  have hmo : goesStep E m ⟨40, a, b, imm⟩ q = { m with place := q + imm } := by simp [goesStep, followsP]
  rw [hmo]
  have HS := Lib.hid (fun (W : World) (hW : Sd x E w W m back buf) => hW.setPlace (q + imm))
  have HF := Lib.hid (fun (w : World) => (show Calls Tryd.prog 121 #[.int .i64 40] w fun e w' => e = .returned (.int .i64 (0)) ∧ w' = w from by have h5 := rfollows_any 40 w; rwa [show followsP 40 = 0 by decide] at h5))
  obtain ⟨c17, f17⟩ := h.cell (k := 17) (by decide)
  change _ = some (Value.int .i64 m.place) at c17
  have hlm := h.lm
  obtain ⟨q0, q1⟩ := hq
  obtain ⟨i0, i1⟩ := hi
  have HH := Lib.hid h
  clear h _hI _hE hmo
  go_enter Tryd.func75, Tryd.ntmps75
  go_wp2_with (go_at_call 121; refine (HF.out _).mono ?_; rintro e w1 ⟨rfl, rfl⟩)
  go_end0
  exact ⟨rfl, _, _, by repeat' first | exact HH.out | apply HS.out | apply Sd.alloc | apply Sd.drewN | apply Sd.drew⟩
set_option maxHeartbeats 4000000 in
set_option maxRecDepth 100000 in
theorem gd41 (h : Sd x E w w' m back buf) (_hI : Inv m) (hE : EnvOk E) (a b : Nat) (_ha : a < 12) (_hb : b < 12) (imm : Int) (hi : -32768 ≤ imm ∧ imm ≤ 32767) (q : Int) (hq : 0 ≤ q ∧ q ≤ 65536) :
    Calls Tryd.prog 75 #[.pointer (some ⟨x.bm, 0, none⟩), cV ⟨41, a, b, imm⟩, .int .i64 q] w' fun e w2 => e = .returned (.tuple #[]) ∧ ∃ back' buf', Sd x E w w2 (goesStep E m ⟨41, a, b, imm⟩ q) back' buf' := by
  have hmo : goesStep E m ⟨41, a, b, imm⟩ q = match wordAt E q with | none => trap m 5 | some v => { m with place := v } := by simp [goesStep, followsP]; cases wordAt E q <;> rfl
  rw [hmo]
  have HF := Lib.hid (fun (w : World) => (show Calls Tryd.prog 121 #[.int .i64 41] w fun e w' => e = .returned (.int .i64 (1)) ∧ w' = w from by have h5 := rfollows_any 41 w; rwa [show followsP 41 = 1 by decide] at h5))
  obtain ⟨c17, f17⟩ := h.cell (k := 17) (by decide)
  change _ = some (Value.int .i64 m.place) at c17
  have hlm := h.lm
  by_cases hlt : 0 ≤ q ∧ q < E.words.length
  · rw [wordAt_some hlt]
    have HB := Lib.hid (fun o => wordD_ok (h.alloc o) q hlt)
    obtain ⟨v0, v1⟩ := isW_getD hE.words q.toNat
    have HS := Lib.hid (fun (W : World) (hW : Sd x E w W m back buf) => hW.setPlace (E.words.getD q.toNat 0))
    generalize E.words.getD q.toNat 0 = v at *
    obtain ⟨q0, q1⟩ := hq
    obtain ⟨i0, i1⟩ := hi
    have HH := Lib.hid h
    clear h _hI hE hmo hlt
    go_enter Tryd.func75, Tryd.ntmps75
    go_wp2_with (first | (go_at_call 121; refine (HF.out _).mono ?_; rintro e w1 ⟨rfl, rfl⟩) | (go_at_call 72; refine (HB.out _).mono ?_; rintro e w1 ⟨rfl, rfl⟩))
    go_end0
    exact ⟨rfl, _, _, by repeat' first | exact HH.out | apply HS.out | apply Sd.alloc | apply Sd.drewN | apply Sd.drew⟩
  · rw [wordAt_none hlt]
    have HB := Lib.hid (fun o => wordD_no (h.alloc o) q hlt)
    have HH := Lib.hid h
    clear h _hI hE hmo hlt
    go_enter Tryd.func75, Tryd.ntmps75
    go_wp2_with (first | (go_at_call 121; refine (HF.out _).mono ?_; rintro e w1 ⟨rfl, rfl⟩) | (go_at_call 72; refine (HB.out _).mono ?_; rintro e w1 ⟨rfl, h1⟩; have H1 := Lib.hid h1; clear h1))
    refine bodyPost_ret (results_none rfl _ _ _) rfl ?_
    exact ⟨rfl, _, _, H1.out⟩
set_option maxHeartbeats 4000000 in
set_option maxRecDepth 100000 in
theorem gd2 (h : Sd x E w w' m back buf) (hI : Inv m) (hE : EnvOk E) (a b : Nat) (ha : a < 12) (_hb : b < 12) (imm : Int) (hi : -32768 ≤ imm ∧ imm ≤ 32767) (q : Int) (hq : 0 ≤ q ∧ q ≤ 65536) :
    Calls Tryd.prog 75 #[.pointer (some ⟨x.bm, 0, none⟩), cV ⟨2, a, b, imm⟩, .int .i64 q] w' fun e w2 => e = .returned (.tuple #[]) ∧ ∃ back' buf', Sd x E w w2 (goesStep E m ⟨2, a, b, imm⟩ q) back' buf' := by
  have hmo : goesStep E m ⟨2, a, b, imm⟩ q = match wordAt E q with | none => trap m 5 | some v => { setR m a v with place := q + 1 } := by simp [goesStep, followsP]; cases wordAt E q <;> rfl
  rw [hmo]
  have HF := Lib.hid (fun (w : World) => (show Calls Tryd.prog 121 #[.int .i64 2] w fun e w' => e = .returned (.int .i64 (1)) ∧ w' = w from by have h5 := rfollows_any 2 w; rwa [show followsP 2 = 1 by decide] at h5))
  obtain ⟨c17, f17⟩ := h.cell (k := 17) (by decide)
  change _ = some (Value.int .i64 m.place) at c17
  have hlm := h.lm
  obtain ⟨ca, fa⟩ := h.cell (k := 1 + a) (by omega)
  rw [dcell_reg _ _ _ _ _ ha] at ca
  change _ = some (Value.int .u32 (reg m a)) at ca
  have ha2 : (a : Int) < 12 := by omega
  obtain ⟨va0, va1⟩ := hI.reg a
  by_cases hlt : 0 ≤ q ∧ q < E.words.length
  · rw [wordAt_some hlt]
    have HB := Lib.hid (fun o => wordD_ok (h.alloc o) q hlt)
    obtain ⟨v0, v1⟩ := isW_getD hE.words q.toNat
    have HR := Lib.hid (fun (W : World) (hW : Sd x E w W m back buf) => hW.setR ha hI.rl (E.words.getD q.toNat 0))
    have HS := Lib.hid (fun (W : World) (hW : Sd x E w W (setR m a (E.words.getD q.toNat 0)) back buf) => hW.setPlace (q + 1))
    generalize E.words.getD q.toNat 0 = v at *
    obtain ⟨q0, q1⟩ := hq
    obtain ⟨i0, i1⟩ := hi
    have HH := Lib.hid h
    clear h hI hE hmo hlt
    generalize reg m a = va at *
    go_enter Tryd.func75, Tryd.ntmps75
    go_wp2_with (first | (go_at_call 121; refine (HF.out _).mono ?_; rintro e w1 ⟨rfl, rfl⟩) | (go_at_call 72; refine (HB.out _).mono ?_; rintro e w1 ⟨rfl, rfl⟩))
    go_region
    all_goals
      go_wp2
      go_end0
      exact ⟨rfl, _, _, by repeat' first | exact HH.out | apply HS.out | apply HR.out | apply Sd.alloc | apply Sd.drewN | apply Sd.drew⟩
  · rw [wordAt_none hlt]
    clear ca fa va0 va1 ha2
    have HB := Lib.hid (fun o => wordD_no (h.alloc o) q hlt)
    have HH := Lib.hid h
    clear h hI hE hmo hlt
    go_enter Tryd.func75, Tryd.ntmps75
    go_wp2_with (first | (go_at_call 121; refine (HF.out _).mono ?_; rintro e w1 ⟨rfl, rfl⟩) | (go_at_call 72; refine (HB.out _).mono ?_; rintro e w1 ⟨rfl, h1⟩; have H1 := Lib.hid h1; clear h1))
    refine bodyPost_ret (results_none rfl _ _ _) rfl ?_
    exact ⟨rfl, _, _, H1.out⟩
end
end Go.Proofs.YtopceggmdieppaaDoor.Emu
namespace Go.Proofs.YtopceggmdieppaaDoor.Emu
open Go.RowKit Go.Proofs.YtopceggmdieppaaDoor.Enc Go.Proofs.YtopceggmdieppaaDoor.Graph

section
variable {x : Dz} {E : Env} {w w' w1 w2 : World} {m : M} {back buf : Value}
set_option maxHeartbeats 4000000 in
set_option maxRecDepth 100000 in
theorem gd42 (h : Sd x E w w' m back buf) (hI : Inv m) (hE : EnvOk E) (a b : Nat) (ha : a < 12) (_hb : b < 12) (imm : Int) (_hi : -32768 ≤ imm ∧ imm ≤ 32767) (q : Int) (hq : 0 ≤ q ∧ q ≤ 65536) :
    Calls Tryd.prog 75 #[.pointer (some ⟨x.bm, 0, none⟩), cV ⟨42, a, b, imm⟩, .int .i64 q] w' fun e w2 => e = .returned (.tuple #[]) ∧ ∃ back' buf', Sd x E w w2 (goesStep E m ⟨42, a, b, imm⟩ q) back' buf' := by
  have hmo : goesStep E m ⟨42, a, b, imm⟩ q = match wordAt E q with | none => trap m 5 | some v => if v ≤ reg m a then trap m 7 else match wordAt E (q + 1 + reg m a) with | none => trap m 5 | some u => { m with place := u } := by simp [goesStep, followsP]; cases wordAt E q <;> rfl
  rw [hmo]
  have HF := Lib.hid (fun (w : World) => (show Calls Tryd.prog 121 #[.int .i64 42] w fun e w' => e = .returned (.int .i64 (-1)) ∧ w' = w from by have h5 := rfollows_any 42 w; rwa [show followsP 42 = -1 by decide] at h5))
  obtain ⟨c17, f17⟩ := h.cell (k := 17) (by decide)
  change _ = some (Value.int .i64 m.place) at c17
  have hlm := h.lm
  obtain ⟨ca, fa⟩ := h.cell (k := 1 + a) (by omega)
  rw [dcell_reg _ _ _ _ _ ha] at ca
  change _ = some (Value.int .u32 (reg m a)) at ca
  have ha2 : (a : Int) < 12 := by omega
  obtain ⟨va0, va1⟩ := hI.reg a
  by_cases hlt : 0 ≤ q ∧ q < E.words.length
  · rw [wordAt_some hlt]
    simp only
    have HB := Lib.hid (fun (W : World) (hW : Sd x E w W m back buf) => wordD_ok hW q hlt)
    obtain ⟨v0, v1⟩ := isW_getD hE.words q.toNat
    generalize E.words.getD q.toNat 0 = v at *
    by_cases hge : v ≤ reg m a
    · rw [if_pos hge]
      have HT := Lib.hid (fun (W : World) (hW : Sd x E w W m back buf) => stop_d hW 2 7)
      have HH := Lib.hid h
      clear h hI hE hmo hlt
      generalize reg m a = va at *
      go_enter Tryd.func75, Tryd.ntmps75
      go_wp2_with (first | (go_at_call 121; refine (HF.out _).mono ?_; rintro e w1 ⟨rfl, rfl⟩) | (go_at_call 72; refine (HB.out _ (by repeat' first | exact HH.out | apply Sd.alloc | apply Sd.drewN | apply Sd.drew)).mono ?_; rintro e w1 ⟨rfl, rfl⟩))
      go_quiet (fail)
      go_wp2_with (go_at_call 46; refine (HT.out _ (by repeat' first | exact HH.out | apply Sd.alloc | apply Sd.drewN | apply Sd.drew)).mono ?_; rintro e w1 ⟨rfl, h1⟩; have H1 := Lib.hid h1; clear h1)
      refine bodyPost_ret (results_none rfl _ _ _) rfl ?_
      exact ⟨rfl, _, _, H1.out⟩
    · rw [if_neg hge]
      by_cases ht : 0 ≤ q + 1 + reg m a ∧ q + 1 + reg m a < E.words.length
      · rw [wordAt_some ht]
        have HT := Lib.hid (fun (W : World) (hW : Sd x E w W m back buf) => wordD_ok hW (q + 1 + reg m a) ht)
        have HS := Lib.hid (fun (W : World) (hW : Sd x E w W m back buf) => hW.setPlace (E.words.getD (q + 1 + reg m a).toNat 0))
        obtain ⟨t0, t1⟩ := isW_getD hE.words (q + 1 + reg m a).toNat
        generalize E.words.getD (q + 1 + reg m a).toNat 0 = t at *
        have HH := Lib.hid h
        clear h hI hE hmo hlt ht
        generalize reg m a = va at *
        obtain ⟨q0, q1⟩ := hq
        go_enter Tryd.func75, Tryd.ntmps75
        go_wp2_with (first | (go_at_call 121; refine (HF.out _).mono ?_; rintro e w1 ⟨rfl, rfl⟩) | (go_at_call 72; refine (HB.out _ (by repeat' first | exact HH.out | apply Sd.alloc | apply Sd.drewN | apply Sd.drew)).mono ?_; rintro e w1 ⟨rfl, rfl⟩))
        go_quiet (fail)
        go_wp2
        go_quiet (first | (go_at_call 72; refine (HT.out _ (by repeat' first | exact HH.out | apply Sd.alloc | apply Sd.drewN | apply Sd.drew)).mono ?_; rintro e w1 ⟨rfl, rfl⟩; exact ⟨rfl, _, rfl⟩))
        go_wp2
        go_end0
        exact ⟨rfl, _, _, by repeat' first | exact HH.out | apply HS.out | apply Sd.alloc | apply Sd.drewN | apply Sd.drew⟩
      · rw [wordAt_none ht]
        have HT := Lib.hid (fun (W : World) (hW : Sd x E w W m back buf) => wordD_no hW (q + 1 + reg m a) ht)
        have HH := Lib.hid h
        clear h hI hE hmo hlt ht
        generalize reg m a = va at *
        obtain ⟨q0, q1⟩ := hq
        go_enter Tryd.func75, Tryd.ntmps75
        go_wp2_with (first | (go_at_call 121; refine (HF.out _).mono ?_; rintro e w1 ⟨rfl, rfl⟩) | (go_at_call 72; refine (HB.out _ (by repeat' first | exact HH.out | apply Sd.alloc | apply Sd.drewN | apply Sd.drew)).mono ?_; rintro e w1 ⟨rfl, rfl⟩))
        go_quiet (fail)
        go_wp2
        have f3 : IntKind.i64.wrap (q + 1) = q + 1 := IntWalk.i64_in _ (by omega)
        have f5 : IntKind.i64.wrap va = va := IntWalk.i64_in _ (by omega)
        have f4 : IntKind.i64.wrap (q + 1 + va) = q + 1 + va := IntWalk.i64_in _ (by omega)
        have k4 : (((w'.alloc (.cells #[.int .i64 42, .int .i64 a, .int .i64 b, .int .i64 imm] 43)).drewN nq).drew).cell? ⟨w'.heap.size, 1, none⟩ = some (.int .i64 a) := by go_simp
        have k5 : (((w'.alloc (.cells #[.int .i64 42, .int .i64 a, .int .i64 b, .int .i64 imm] 43)).drewN nq).drew).cell? ⟨x.bm, 1 + a, none⟩ = some (.int .u32 va) := by go_simp
        have HW := Lib.hid (show Sd x E w (((w'.alloc (.cells #[.int .i64 42, .int .i64 a, .int .i64 b, .int .i64 imm] 43)).drewN nq).drew) m back buf from (by repeat' first | exact HH.out | apply Sd.alloc | apply Sd.drewN | apply Sd.drew))
        generalize ((w'.alloc (.cells #[.int .i64 42, .int .i64 a, .int .i64 b, .int .i64 imm] 43)).drewN nq) = W0 at *
        refine wp_region_any (by kernel_rfl) ?_
        change wpAny _ _ _ _ _ _ _ (World.drew W0)
        generalize World.drew W0 = W at *
        refine wpAny_take (i := 0) (v := .pointer (some ⟨x.bm, 0, none⟩)) rfl (by kernel_rfl) (by kernel_rfl) (by kernel_rfl) (fun _ _ _ h => h) (Or.inl ⟨by kernel_rfl, fun w => by first | (go_simp; done) | (go_simp; simp only [f3]; done) | (go_simp; simp only [f4]; done) | (go_simp; simp only [f5]; done) | (go_simp; simp [f3, f4]; done)⟩) ?_
        refine wpAny_take (i := 1) (v := .int .i64 q) rfl (by kernel_rfl) (by kernel_rfl) (by kernel_rfl) (fun _ _ _ h => h) (Or.inl ⟨by kernel_rfl, fun w => by first | (go_simp; done) | (go_simp; simp only [f3]; done) | (go_simp; simp only [f4]; done) | (go_simp; simp only [f5]; done) | (go_simp; simp [f3, f4]; done)⟩) ?_
        refine wpAny_take (i := 2) (v := .int .i64 (q + 1)) rfl (by kernel_rfl) (by kernel_rfl) (by kernel_rfl) (fun _ _ _ h => h) (Or.inl ⟨by kernel_rfl, fun w => by first | (go_simp; done) | (go_simp; simp only [f3]; done) | (go_simp; simp only [f4]; done) | (go_simp; simp only [f5]; done) | (go_simp; simp [f3, f4]; done)⟩) ?_
        refine wpAny_take (i := 3) (v := .pointer (some ⟨x.bm, 0, none⟩)) rfl (by kernel_rfl) (by kernel_rfl) (by kernel_rfl) (fun _ _ _ h => h) (Or.inl ⟨by kernel_rfl, fun w => by first | (go_simp; done) | (go_simp; simp only [f3]; done) | (go_simp; simp only [f4]; done) | (go_simp; simp only [f5]; done) | (go_simp; simp [f3, f4]; done)⟩) ?_
        refine wpAny_take (i := 4) (v := .pointer (some ⟨w'.heap.size, 1, none⟩)) rfl (by kernel_rfl) (by kernel_rfl) (by kernel_rfl) (fun _ _ _ h => h) (Or.inl ⟨by kernel_rfl, fun w => by first | (go_simp; done) | (go_simp; simp only [f3]; done) | (go_simp; simp only [f4]; done) | (go_simp; simp only [f5]; done) | (go_simp; simp [f3, f4]; done)⟩) ?_
        refine wpAny_take (i := 6) (v := .pointer (some ⟨x.bm, 0, none⟩)) rfl (by kernel_rfl) (by kernel_rfl) (by kernel_rfl) (fun _ _ _ h => h) (Or.inl ⟨by kernel_rfl, fun w => by first | (go_simp; done) | (go_simp; simp only [f3]; done) | (go_simp; simp only [f4]; done) | (go_simp; simp only [f5]; done) | (go_simp; simp [f3, f4]; done)⟩) ?_
        refine wpAny_take (i := 7) (v := .pointer (some ⟨x.bm, 1, none⟩)) rfl (by kernel_rfl) (by kernel_rfl) (by kernel_rfl) (fun _ _ _ h => h) (Or.inl ⟨by kernel_rfl, fun w => by first | (go_simp; done) | (go_simp; simp only [f3]; done) | (go_simp; simp only [f4]; done) | (go_simp; simp only [f5]; done) | (go_simp; simp [f3, f4]; done)⟩) ?_
        refine wpAny_ready (rs := [5]) (by kernel_rfl) (by simp) ?_
        refine AllReady.cons rfl (fun K hK => ?_) AllReady.nil
        go_simp
        refine hK _ _ ?_
        clear hK
        refine wpAny_take (i := 8) (v := .pointer (some ⟨x.bm, 1 + a, none⟩)) rfl (by kernel_rfl) (by kernel_rfl) (by kernel_rfl) (fun _ _ _ h => h) (Or.inl ⟨by kernel_rfl, fun w => by first | (go_simp; done) | (go_simp; simp only [f3]; done) | (go_simp; simp only [f4]; done) | (go_simp; simp only [f5]; done) | (go_simp; simp [f3, f4]; done)⟩) ?_
        refine wpAny_ready (rs := [9]) (by kernel_rfl) (by simp) ?_
        refine AllReady.cons rfl (fun K hK => ?_) AllReady.nil
        go_simp
        refine hK _ _ ?_
        clear hK
        refine wpAny_take (i := 10) (v := .int .i64 va) rfl (by kernel_rfl) (by kernel_rfl) (by kernel_rfl) (fun _ _ _ h => h) (Or.inl ⟨by kernel_rfl, fun w => by first | (go_simp; done) | (go_simp; simp only [f3]; done) | (go_simp; simp only [f4]; done) | (go_simp; simp only [f5]; done) | (go_simp; simp [f3, f4]; done)⟩) ?_
        refine wpAny_take (i := 11) (v := .int .i64 (q + 1 + va)) rfl (by kernel_rfl) (by kernel_rfl) (by kernel_rfl) (fun _ _ _ h => h) (Or.inl ⟨by kernel_rfl, fun w => by first | (go_simp; done) | (go_simp; simp only [f3]; done) | (go_simp; simp only [f4]; done) | (go_simp; simp only [f5]; done) | (go_simp; simp [f3, f4]; done)⟩) ?_
        refine wpAny_ready (rs := [12]) (by kernel_rfl) (by simp) ?_
        refine AllReady.cons rfl (fun K hK => ?_) AllReady.nil
        go_simp
        refine (HT.out _ HW.out).mono ?_
        rintro e w1 ⟨rfl, h1⟩
        have H1 := Lib.hid h1
        clear h1
        refine hK _ _ ?_
        clear hK
        refine wpAny_take (i := 13) (v := .tuple #[.int .u32 0, .bool false]) rfl (by kernel_rfl) (by kernel_rfl) (by kernel_rfl) (fun _ _ _ h => h) (Or.inl ⟨by kernel_rfl, fun w => by first | (go_simp; done) | (go_simp; simp only [f3]; done) | (go_simp; simp only [f4]; done) | (go_simp; simp only [f5]; done) | (go_simp; simp [f3, f4]; done)⟩) ?_
        refine wpAny_take (i := 14) (v := .int .u32 0) rfl (by kernel_rfl) (by kernel_rfl) (by kernel_rfl) (fun _ _ _ h => h) (Or.inl ⟨by kernel_rfl, fun w => by first | (go_simp; done) | (go_simp; simp only [f3]; done) | (go_simp; simp only [f4]; done) | (go_simp; simp only [f5]; done) | (go_simp; simp [f3, f4]; done)⟩) ?_
        refine wpAny_take (i := 15) (v := .bool false) rfl (by kernel_rfl) (by kernel_rfl) (by kernel_rfl) (fun _ _ _ h => h) (Or.inl ⟨by kernel_rfl, fun w => by first | (go_simp; done) | (go_simp; simp only [f3]; done) | (go_simp; simp only [f4]; done) | (go_simp; simp only [f5]; done) | (go_simp; simp [f3, f4]; done)⟩) ?_
        refine wpAny_take (i := 16) (v := .int .u32 0) rfl (by kernel_rfl) (by kernel_rfl) (by kernel_rfl) (fun _ _ _ h => h) (Or.inl ⟨by kernel_rfl, fun w => by first | (go_simp; done) | (go_simp; simp only [f3]; done) | (go_simp; simp only [f4]; done) | (go_simp; simp only [f5]; done) | (go_simp; simp [f3, f4]; done)⟩) ?_
        refine wpAny_take (i := 17) (v := .bool false) rfl (by kernel_rfl) (by kernel_rfl) (by kernel_rfl) (fun _ _ _ h => h) (Or.inl ⟨by kernel_rfl, fun w => by first | (go_simp; done) | (go_simp; simp only [f3]; done) | (go_simp; simp only [f4]; done) | (go_simp; simp only [f5]; done) | (go_simp; simp [f3, f4]; done)⟩) ?_
        refine wpAny_done (by kernel_rfl) ?_ _
        go_simp
        go_wp2
        go_end0
        exact ⟨rfl, _, _, H1.out⟩
  · rw [wordAt_none hlt]
    clear ca fa va0 va1 ha2
    have HB := Lib.hid (fun o => wordD_no (h.alloc o) q hlt)
    have HH := Lib.hid h
    clear h hI hE hmo hlt
    go_enter Tryd.func75, Tryd.ntmps75
    go_wp2_with (first | (go_at_call 121; refine (HF.out _).mono ?_; rintro e w1 ⟨rfl, rfl⟩) | (go_at_call 72; refine (HB.out _).mono ?_; rintro e w1 ⟨rfl, h1⟩; have H1 := Lib.hid h1; clear h1))
    refine bodyPost_ret (results_none rfl _ _ _) rfl ?_
    exact ⟨rfl, _, _, H1.out⟩
end
end Go.Proofs.YtopceggmdieppaaDoor.Emu
