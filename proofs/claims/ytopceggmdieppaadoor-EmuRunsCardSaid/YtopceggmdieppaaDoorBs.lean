/- The run itself. No condition. -/
import Derived.Test.YtopceggmdieppaaDoorHB
namespace Go.Proofs.YtopceggmdieppaaDoor.Emu
open Go.RowKit Go.Proofs.YtopceggmdieppaaDoor.Enc Go.Proofs.YtopceggmdieppaaDoor.Graph

section
variable {x : Fz} {E : Env} {wk : Nat → Value} {w w' w1 w2 : World} {m : M} {ad buf back : Value} {pg : Nat → Option Nat}
set_option maxHeartbeats 4000000 in
theorem catch_idle (p : Addr) (w : World) :
    CallsD Tryd.prog 67 #[.pointer (some p)] .returning w fun e u' w' => e = .returned (.tuple #[]) ∧ u' = .returning ∧ w' = w := by
  refine callsD_of_wpS Tryd.func67 rfl fun c₀ cs hu => ?_
  apply wpS_seq
  apply wpS_region
  simp [wpOpsS, go_sem, recoverD, hu, Tryd.ntmps67, Exit.thenS]
  refine wpS_of_wp ?_
  go_wp2
  cases c₀
  simp_all [bodyPostS, results, Tryd.results67]
/-- The box of the receiver, laid where there is nothing yet of rows. -/
theorem St.rebase (h : St x E wk w w' m ad (.slice none 0 0) (.slice none 0 0) pg) (hc : m.calls = []) (hb : m.bytes = []) (o : Obj) :
    St { x with N := w'.heap.size + 1, pb := w'.heap.size, po := some o } E wk w (w'.alloc o) m ad (.slice none 0 0) (.slice none 0 0) pg := by
  have h1 := h.lm
  have h2 := h.lmm
  have h3 := h.llb
  have h4 := h.alloc o
  have hk := h.ok
  refine ⟨⟨hk.zb, hk.zm, hk.zl, by simp only; omega, by simp only; omega, by simp only; omega, hk.bm, hk.bl, hk.ml, by simp only; omega, by simp only; omega, by simp only; omega, by simp only; omega⟩, h4.below, by simp, h4.mach, h.words, h.wz, h4.list, h4.mem, ?_, ?_, h4.ads, h4.bb, h4.pz, fun _ => rfl, heap_alloc_new w' o, fun i g hi hg => ?_⟩
  · rw [hc]; exact World.ownsRow_nil _ _ _ _
  · rw [hb]; exact World.ownsRow_nil _ _ _ _
  · have := h.mem.lt hi hg
    show g ≠ w'.heap.size
    omega
/-- What is known of the run at each round. -/
def Rn (E : Env) (fuel : Nat) (m0 m : M) : Prop :=
  m.steps ≤ fuel ∧ ((m.stop = 0 ∧ runN E m.steps m0 = m ∧ Inv m ∧ m.bytes.length ≤ m.steps) ∨ (m.stop ≠ 0 ∧ outOf m = outOf (runN E fuel m0)))
theorem runN_next {k : Nat} {m0 m : M} (h : runN E k m0 = m) (h0 : m.stop = 0) : runN E (k + 1) m0 = stepP E { m with steps := m.steps + 1 } := by
  rw [runN_add, h, runN_succ, if_pos h0]; rfl
theorem fuel_end {fuel k : Nat} {m0 m : M} (h : runN E k m0 = m) (h0 : m.stop ≠ 0) (hk : k ≤ fuel) : outOf m = outOf (runN E fuel m0) := by
  have := runN_more (E := E) (m := m0) hk (by rw [h]; exact h0)
  rw [this, h]
/-- The step's outcome goes on, or the run has come to its end. -/
theorem Rn.next {fuel : Nat} {m0 mo : M} (h : runN E m.steps m0 = m) (h0 : m.stop = 0) (hlt : m.steps < fuel) (he : Eqv (stepP E { m with steps := m.steps + 1 }) mo) (hI : Inv mo) (hb : m.bytes.length ≤ m.steps) : Rn E fuel m0 mo := by
  have hn := runN_next h h0
  obtain ⟨s1, t, b1, l1⟩ := step_steps (E := E) { m with steps := m.steps + 1 }
  have hs : mo.steps = m.steps + 1 := by rw [← he.steps, s1]
  refine ⟨by omega, ?_⟩
  by_cases h2 : mo.stop = 0
  · refine .inl ⟨h2, ?_, hI, ?_⟩
    · rw [hs, hn]; exact he.same h2
    · rw [hs, ← he.bytes, b1, List.length_append]; simp only; omega
  · refine .inr ⟨h2, ?_⟩
    rw [← he.out, ← hn]
    exact fuel_end rfl (by rw [hn, he.stop]; exact h2) (by omega)
/-- A step that traps ends the run. -/
theorem Rn.fall {fuel : Nat} {m0 mo m2 : M} (h : runN E m.steps m0 = m) (h0 : m.stop = 0) (hlt : m.steps < fuel) (he : Eqv (stepP E { m with steps := m.steps + 1 }) mo) (h2 : mo.stop = 2) (k : Int) (hk : mo.code = k) (hb : m2.bytes = mo.bytes) (hs : m2.steps = mo.steps) :
    outOf { m2 with stop := 2, code := k } = outOf (runN E fuel m0) := by
  have hn := runN_next h h0
  rw [← fuel_end (fuel := fuel) (k := m.steps + 1) rfl (by rw [hn, he.stop, h2]; decide) (by omega), hn, he.out]
  unfold outOf
  rw [if_neg (by show ¬ (2 : Int) = 0; decide), if_neg (by rw [h2]; decide), h2, hk, ← hb, ← hs]
theorem Rn.spent {fuel : Nat} {m0 : M} (h : runN E m.steps m0 = m) (h0 : m.stop = 0) (hf : m.steps = fuel) : outOf { m with stop := 3, code := 0 } = outOf (runN E fuel m0) := by
  rw [← hf, h]
  unfold outOf
  rw [if_neg (by show ¬ (3 : Int) = 0; decide), if_pos h0]
def DoesDo : Prop := ∀ (x : Fz) (E : Env) (wk : Nat → Value) (w w' : World) (m : M) (ad buf back : Value) (pg : Nat → Option Nat), St x E wk w w' m ad buf back pg → m.stop = 0 → Inv m → EnvOk E → E.ar = ar → E.holds = hs → (∀ k, k < 19 → wk (k + 6) = funV (fOf k)) → (0 ≤ m.place ∧ m.place ≤ 65536) → m.bytes.length ≤ 1073741824 → ∀ c : PC, mayP c = true →
    Calls Tryd.prog 70 #[.pointer (some ⟨x.bm, 0, none⟩), iV c] w' (DoPost x E wk w m (doStep E m c) (c.op = 48))
def RunEnd (x : Fz) (E : Env) (wk : Nat → Value) (w : World) (fuel : Nat) (m0 : M) (w2 : World) : Prop :=
  ∃ m ad buf back pg, St x E wk w w2 m ad buf back pg ∧ m.stop ≠ 0 ∧ outOf m = outOf (runN E fuel m0)
def Fell (x : Fz) (E : Env) (wk : Nat → Value) (w : World) (fuel : Nat) (m0 : M) (c : List PanicEntry) (w2 : World) : Prop :=
  ∃ k m ad buf back pg, c = [{ v := .iface 142 (.int .u32 k), recovered := false }] ∧ St x E wk w w2 m ad buf back pg ∧ outOf { m with stop := 2, code := k } = outOf (runN E fuel m0)
abbrev boxV (x : Fz) : Obj := .cells #[.pointer (some ⟨x.bm, 0, none⟩)] 85 (0, 0)
abbrev deferD (pb : Nat) : List Deferred := [{ target := .fn (.func 67) #[.pointer (some ⟨pb, 0, none⟩)], args := #[] }]
def DoorQ (x : Fz) (E : Env) (wk : Nat → Value) (w : World) (fuel : Nat) (m0 : M) : Exit → Act → World → Prop
  | .normal, a, w2 => a.defers = deferD x.pb ∧ RunEnd x E wk w fuel m0 w2
  | .ret, a, w2 => a.defers = deferD x.pb ∧ RunEnd x E wk w fuel m0 w2
  | .panic c, a, w2 => a.defers = deferD x.pb ∧ Fell x E wk w fuel m0 c w2
  | _, _, _ => False
theorem St.boxCell (h : St x E wk w w' m ad buf back pg) (ho : x.po = some (boxV x)) : w'.cell? ⟨x.pb, 0, none⟩ = some (.pointer (some ⟨x.bm, 0, none⟩)) := by
  have hb := h.box
  rw [ho] at hb
  exact (cell_of_block hb rfl).1
set_option maxHeartbeats 1000000 in
set_option maxRecDepth 100000 in
theorem door (ho : x.po = some (boxV x)) (fuel : Nat) (m0 : M) {R : Ending → World → Prop} (hR : ∀ w2, RunEnd x E wk w fuel m0 w2 → R (.returned (.tuple #[])) w2) :
    ∀ (e : Exit) (a : Act) (w2 : World), DoorQ x E wk w fuel m0 e a w2 → bodyPostD Tryd.prog Tryd.f43 R e a w2 := by
  have hidle : ∀ (a : Act) (w2 : World), a.defers = deferD x.pb ∧ RunEnd x E wk w fuel m0 w2 → Leaves Tryd.prog Tryd.f43 a.tmps R a.defers .returning w2 := by
    rintro a w2 ⟨hd, h2⟩
    rw [hd]
    refine leaves_cons (f := 67) (args := #[.pointer (some ⟨x.pb, 0, none⟩)]) (by simp) rfl ?_
    refine (catch_idle _ _).mono ?_
    rintro e u' w3 ⟨rfl, rfl, rfl⟩
    exact ⟨_, results_none rfl _ _ _, hR _ h2⟩
  intro e a w2 h
  cases e with
  | normal => exact hidle a w2 h
  | ret => exact hidle a w2 h
  | panic c =>
    obtain ⟨hd, k, m, ad, buf, back, pg, rfl, hst, hout⟩ := h
    show Leaves _ _ _ _ a.defers _ _
    rw [hd]
    refine leaves_cons (f := 67) (args := #[.pointer (some ⟨x.pb, 0, none⟩)]) (by simp) rfl ?_
    refine (catch_panicking hst x.pb (hst.boxCell ho) k []).mono ?_
    rintro e u' w3 ⟨rfl, rfl, h3⟩
    exact ⟨_, results_none rfl _ _ _, hR _ ⟨_, _, _, _, _, h3, (by show (2 : Int) ≠ 0; decide), hout⟩⟩
  | exit id => exact h.elim
  | goto l => exact h.elim
  | outgrown => exact h.elim
def stepsAt (bm : Nat) (w : World) : Nat := match w.cell? ⟨bm, 20, none⟩ with | some v => (intOf v).toNat | none => 0
theorem St.stepsAt (h : St x E wk w w' m ad buf back pg) : stepsAt x.bm w' = m.steps := by
  have := (h.cell (k := 20) (by decide)).1
  change _ = some (Value.int .i64 m.steps) at this
  unfold Emu.stepsAt
  rw [this]
  simp [intOf]
set_option maxHeartbeats 4000000 in
set_option maxRecDepth 100000 in
theorem run_prog (D : DoesDo) (h : St x E wk w w' m ad (.slice none 0 0) (.slice none 0 0) pg) (hc : m.calls = []) (hb : m.bytes = []) (h0 : m.stop = 0) (hs0 : m.steps = 0) (hI : Inv m) (hE : EnvOk E) (hEa : E.ar = ar) (hEh : E.holds = hs) (hwk : ∀ k, k < 19 → wk (k + 6) = funV (fOf k)) (fuel : Nat) (hf : (fuel : Int) ≤ 1073741824) :
    Calls Tryd.prog 43 #[.pointer (some ⟨x.bm, 0, none⟩), .int .i64 fuel] w' fun e w2 => e = .returned (.tuple #[]) ∧ ∃ x2 : Fz, x2.bm = x.bm ∧ x2.Z = x.Z ∧ RunEnd x2 E wk w fuel m w2 := by
  have hmf : ∀ (fn : Fn) (first cap : Array Value) (w : World), (Instr.makeFunc fn first cap).run Tryd.prog w = .ok (.func fn first cap) w := fun _ _ _ _ => rfl
  obtain ⟨x2, e1, e2, e3, e4, h2⟩ : ∃ x2 : Fz, x2.bm = x.bm ∧ x2.Z = x.Z ∧ x2.pb = w'.heap.size ∧ x2.po = some (boxV x2) ∧ St x2 E wk w (w'.alloc (boxV x2)) m ad (.slice none 0 0) (.slice none 0 0) pg :=
    ⟨{ x with N := w'.heap.size + 1, pb := w'.heap.size, po := some (boxV x) }, rfl, rfl, rfl, rfl, h.rebase hc hb _⟩
  have hlm := h.lm
  rw [← e1, ← e2]
  rw [← e1] at hlm
  have HR0 : Rn E fuel m m := ⟨by omega, .inl ⟨h0, by rw [hs0]; rfl, hI, by rw [hb]; exact Nat.zero_le _⟩⟩
  have H2 := Lib.hid h2
  have HDR := Lib.hid (door (x := x2) (E := E) (wk := wk) (w := w) e4 fuel m (R := fun e w2 => e = .returned (.tuple #[]) ∧ ∃ x2' : Fz, x2'.bm = x2.bm ∧ x2'.Z = x2.Z ∧ RunEnd x2' E wk w fuel m w2) (fun w3 h3 => ⟨rfl, x2, rfl, rfl, h3⟩))
  have HR := Lib.hid HR0
  have HP := Lib.hid e4
  clear h hc hb h0 hs0 hI e1 e2 h2 HR0 e4
  generalize m = m0 at *
  go_enter_defers Tryd.func43, Tryd.ntmps43
  refine Code.wp_mono HDR.out ?_
  go_wp2
  go_loopw [] (fun wr => ∃ m1 ad1 buf1 back1 pg1, Hid (St x2 E wk w wr m1 ad1 buf1 back1 pg1) ∧ Hid (Rn E fuel m0 m1)) (fun wr => fuel - stepsAt x2.bm wr)
  case atStart => exact ⟨m0, _, _, _, _, H2, HR⟩
  case round =>
    obtain ⟨m1, ad1, buf1, back1, pg1, H1, HRn⟩ := hrel
    have cbx := H1.out.boxCell HP.out
    rw [e3] at cbx
    obtain ⟨c21, f21⟩ := H1.out.cell (k := 21) (by decide)
    change _ = some (Value.int .i64 m1.stop) at c21
    obtain ⟨c20, f20⟩ := H1.out.cell (k := 20) (by decide)
    change _ = some (Value.int .i64 m1.steps) at c20
    have hl1 := H1.out.lm
    have HBX := Lib.hid (fun (W : World) (m : M) (ad buf back : Value) (pg : Nat → Option Nat) (hW : St x2 E wk w W m ad buf back pg) => (show W.cell? ⟨w'.heap.size, 0, none⟩ = some (.pointer (some ⟨x2.bm, 0, none⟩)) from by rw [← e3]; exact hW.boxCell HP.out))
    have HE3 := Lib.hid e3
    have hstA := H1.out.stepsAt
    by_cases hs : m1.stop = 0
    · obtain ⟨hk, hrun | hend⟩ := HRn.out
      · obtain ⟨_, hrun, hinv, hbl⟩ := hrun
        rw [hs] at c21
        by_cases hkf : m1.steps = fuel
        · have HE := Lib.hid (Rn.spent hrun hs hkf)
          have HA := Lib.hid (halt_prog H1.out 3 0)
          rw [hkf] at c20
          clear hrun hinv hbl hk hkf hs
          go_wp2_with (go_at_call 68; refine HA.out.mono ?_; rintro e w3 ⟨rfl, h3⟩; have H3 := Lib.hid h3; clear h3)
          exact ⟨by rw [HE3.out], _, _, _, _, _, H3.out, (by show (3 : Int) ≠ 0; decide), HE.out⟩
        · have hlt : m1.steps < fuel := by omega
          have HS2 := Lib.hid (show St x2 E wk w (wr.setCell ⟨x2.bm, 20, none⟩ (.int .i64 ((m1.steps : Int) + 1))) { m1 with steps := m1.steps + 1 } ad1 buf1 back1 pg1 from by
            have h9 := H1.out.setSteps (m1.steps + 1)
            rw [show ((m1.steps + 1 : Nat) : Int) = (m1.steps : Int) + 1 by omega] at h9
            exact h9)
          have hkb : (m1.steps : Int) + 1 ≤ 1073741824 := by omega
          have hkn : ¬ ((m1.steps : Int) = fuel) := by omega
          have HX := Lib.hid (And.intro hrun (And.intro hs (And.intro hlt hbl)))
          have HI := Lib.hid hinv
          have hkz : 0 ≤ (m1.steps : Int) := by omega
          have HF := Lib.hid hf
          have hpb : -4611686018427387904 ≤ m1.place ∧ m1.place < 4611686018427387904 := ⟨by have := hinv.pl.1; omega, by have := hinv.pl.2; omega⟩
          by_cases hpl : 0 ≤ m1.place ∧ m1.place < E.words.length
          · have hp3 : 0 ≤ m1.place + 1 ∧ m1.place + 1 ≤ 65536 := ⟨by omega, by have := hE.len; omega⟩
            have HN := Lib.hid (fun (W : World) (hW : St x2 E wk w W { m1 with steps := m1.steps + 1 } ad1 buf1 back1 pg1) => (next_prog hW hE.len hpb).mono (R' := fun e w2 => e = .returned (iV (insP (E.words.getD m1.place.toNat 0))) ∧ St x2 E wk w w2 { m1 with steps := m1.steps + 1, place := m1.place + 1 } ad1 buf1 back1 pg1) (by
              rintro e w2 (⟨_, h1⟩ | ⟨h1, _⟩)
              · exact h1
              · exact absurd hpl h1))
            by_cases hd : (decP (E.words.getD m1.place.toNat 0)).2 = 0
            · have hmay := dec_may hd
              have hq := step_some (E := E) (m := { m1 with steps := m1.steps + 1 }) hpl hd
              have e5 : insP (E.words.getD m1.place.toNat 0) = (decP (E.words.getD m1.place.toNat 0)).1 := by unfold insP; rw [if_pos hd]
              rw [e5] at HN
              have hI3 : Inv { m1 with steps := m1.steps + 1, place := m1.place + 1 } := ⟨hinv.rl, hinv.rw, hinv.ml, hinv.mw, ⟨by simp only; omega, by simp only; omega⟩, hinv.cb, hinv.cl⟩
              have HDO := fun (W : World) (hW : St x2 E wk w W { m1 with steps := m1.steps + 1, place := m1.place + 1 } ad1 buf1 back1 pg1) => D x2 E wk w W _ _ _ _ _ hW hs hI3 hE hEa hEh hwk hp3 (by show m1.bytes.length ≤ 1073741824; omega) _ hmay
              have hIo := inv_do hI3 hE hp3 (within hmay)
              generalize (decP (E.words.getD m1.place.toNat 0)).1 = c at *
              generalize hmo : doStep E { m1 with steps := m1.steps + 1, place := m1.place + 1 } c = mo at *
              by_cases hc : mo.stop ≠ 2 ∨ c.op = 48
              · have HDW := Lib.hid (fun (W : World) (hW : St x2 E wk w W { m1 with steps := m1.steps + 1, place := m1.place + 1 } ad1 buf1 back1 pg1) => (HDO W hW).mono (fun e w2 hd => hd.went hc))
                have HRN := Lib.hid (Rn.next (fuel := fuel) hrun hs hlt hq hIo hbl)
                have HST := Lib.hid (show mo.steps = m1.steps + 1 from by rw [← hq.steps]; exact (step_steps (E := E) { m1 with steps := m1.steps + 1 }).1)
                have HLT := Lib.hid hlt
                have HSA := Lib.hid hstA
                clear hrun hs hlt hinv hbl hkf hk hf hpb hpl hp3 hd hmay hq e5 hI3 HDO hIo hmo hc hstA HRn
                generalize (m1.steps : Int) = k at c20 HS2 hkb hkn hkz
                generalize (fuel : Int) = fu at hkn ⊢
                go_upto_region 6 with (fail)
                have h2 := HS2.out
                generalize wr.setCell _ _ = W at *
                have cb2 := HBX.out _ _ _ _ _ _ h2
                have hl2 := h2.lm
                clear c20 c21 f20 f21 cbx hl1 h2
                go_region_law (first
                  | ((try go_simp); go_at_call 71; refine (HN.out _ HS2.out.drew).mono ?_; rintro e w3 ⟨rfl, h3⟩; have cb3 := HBX.out _ _ _ _ _ _ h3; have H3 := Lib.hid h3; clear h3)
                  | ((try go_simp); go_at_call 70; refine (HDW.out _ H3.out).mono ?_; rintro e w4 ⟨rfl, ad4, buf4, back4, pg4, h4⟩; have H4 := Lib.hid h4; clear h4))
                all_goals
                  go_wp2
                  go_roundw
                  case rel => exact ⟨mo, _, _, _, _, H4, HRN⟩
                  case measure =>
                    have h7 := H4.out.stepsAt
                    have h8 := HST.out
                    have h9 := HSA.out
                    have h6 := HLT.out
                    omega
              · have HDF := Lib.hid (fun (W : World) (hW : St x2 E wk w W { m1 with steps := m1.steps + 1, place := m1.place + 1 } ad1 buf1 back1 pg1) => (HDO W hW).mono (fun e w2 hd => hd.fell hc))
                have hm2 : mo.stop = 2 := Classical.byContradiction fun h => hc (.inl h)
                have HRN := Lib.hid (fun (m2 : M) hb hsq => Rn.fall (fuel := fuel) (m2 := m2) hrun hs hlt hq hm2 mo.code rfl hb hsq)
                clear hrun hs hlt hinv hbl hkf hk hf hpb hpl hp3 hd hmay hq e5 hI3 HDO hIo hmo hc hstA HRn hm2 HX HI
                generalize (m1.steps : Int) = k at c20 HS2 hkb hkn hkz
                generalize (fuel : Int) = fu at hkn ⊢
                go_upto_region 6 with (fail)
                have h2 := HS2.out
                generalize wr.setCell _ _ = W at *
                have cb2 := HBX.out _ _ _ _ _ _ h2
                have hl2 := h2.lm
                clear c20 c21 f20 f21 cbx hl1 h2
                go_region_dies
                · (try go_simp)
                  go_at_call 71
                  refine (HN.out _ HS2.out.drew).mono ?_
                  rintro e w3 ⟨rfl, h3⟩
                  have cb3 := HBX.out _ _ _ _ _ _ h3
                  have H3 := Lib.hid h3
                  clear h3
                  rename_i K hK
                  refine hK _ _ ?_
                  clear hK K
                  refine wpAny_ready (rs := [3]) (by kernel_rfl) (by simp) ?_
                  refine AllReady.cons rfl (fun K hK => ?_) AllReady.nil
                  (try go_simp)
                  go_at_call 70
                  refine (HDF.out _ H3.out).mono ?_
                  rintro e w4 ⟨rfl, hb4, hs4, m4, ad4, buf4, back4, pg4, hb5, hs5, h4⟩
                  exact ⟨by rw [HE3.out], mo.code, m4, _, _, _, _, rfl, h4, HRN.out m4 (by rw [hb4, hb5]) (by rw [hs4, hs5])⟩
                · (try go_simp)
                  go_at_call 71
                  refine (HN.out _ HS2.out.drew).mono ?_
                  rintro e w3 ⟨rfl, h3⟩
                  have cb3 := HBX.out _ _ _ _ _ _ h3
                  have H3 := Lib.hid h3
                  clear h3
                  rename_i K hK
                  refine hK _ _ ?_
                  clear hK K
                  refine wpAny_ready (rs := [3]) (by kernel_rfl) (by simp) ?_
                  refine AllReady.cons rfl (fun K hK => ?_) AllReady.nil
                  (try go_simp)
                  go_at_call 70
                  refine (HDF.out _ H3.out).mono ?_
                  rintro e w4 ⟨rfl, hb4, hs4, m4, ad4, buf4, back4, pg4, hb5, hs5, h4⟩
                  exact ⟨by rw [HE3.out], mo.code, m4, _, _, _, _, rfl, h4, HRN.out m4 (by rw [hb4, hb5]) (by rw [hs4, hs5])⟩
                · (try go_simp)
                  go_at_call 71
                  refine (HN.out _ HS2.out.drew).mono ?_
                  rintro e w3 ⟨rfl, h3⟩
                  have cb3 := HBX.out _ _ _ _ _ _ h3
                  have H3 := Lib.hid h3
                  clear h3
                  rename_i K hK
                  refine hK _ _ ?_
                  clear hK K
                  refine wpAny_ready (rs := [0]) (by kernel_rfl) (by simp) ?_
                  refine AllReady.cons rfl (fun K hK => ?_) AllReady.nil
                  go_simp
                  refine hK _ _ ?_
                  clear hK K
                  refine wpAny_ready (rs := [3]) (by kernel_rfl) (by simp) ?_
                  refine AllReady.cons rfl (fun K hK => ?_) AllReady.nil
                  (try go_simp)
                  go_at_call 70
                  refine (HDF.out _ H3.out).mono ?_
                  rintro e w4 ⟨rfl, hb4, hs4, m4, ad4, buf4, back4, pg4, hb5, hs5, h4⟩
                  exact ⟨by rw [HE3.out], mo.code, m4, _, _, _, _, rfl, h4, HRN.out m4 (by rw [hb4, hb5]) (by rw [hs4, hs5])⟩
            · have hq := step_bad (E := E) (m := { m1 with steps := m1.steps + 1 }) hpl hd
              have e5 : insP (E.words.getD m1.place.toNat 0) = ⟨0, 0, 0, 0⟩ := by unfold insP; rw [if_neg hd]
              rw [e5] at HN
              have HDF := Lib.hid (fun (W : World) (hW : St x2 E wk w W { m1 with steps := m1.steps + 1, place := m1.place + 1 } ad1 buf1 back1 pg1) => do0 hW)
              have HOUT := Lib.hid (Rn.fall (fuel := fuel) (mo := trap { m1 with steps := m1.steps + 1 } 4) (m2 := { m1 with steps := m1.steps + 1, place := m1.place + 1 }) hrun hs hlt (by rw [hq]; exact Eqv.refl _) rfl 4 rfl rfl rfl)
              clear hrun hs hlt hinv hbl hkf hk hf hpb hpl hp3 hd hq e5 hstA HRn HX HI
              generalize (m1.steps : Int) = k at c20 HS2 hkb hkn hkz
              generalize (fuel : Int) = fu at hkn ⊢
              go_upto_region 6 with (fail)
              have h2 := HS2.out
              generalize wr.setCell _ _ = W at *
              have cb2 := HBX.out _ _ _ _ _ _ h2
              have hl2 := h2.lm
              clear c20 c21 f20 f21 cbx hl1 h2
              go_region_dies
              · (try go_simp)
                go_at_call 71
                refine (HN.out _ HS2.out.drew).mono ?_
                rintro e w3 ⟨rfl, h3⟩
                have cb3 := HBX.out _ _ _ _ _ _ h3
                have H3 := Lib.hid h3
                clear h3
                rename_i K hK
                refine hK _ _ ?_
                clear hK K
                refine wpAny_ready (rs := [3]) (by kernel_rfl) (by simp) ?_
                refine AllReady.cons rfl (fun K hK => ?_) AllReady.nil
                (try go_simp)
                go_at_call 70
                refine (HDF.out _ H3.out).mono ?_
                rintro e w4 ⟨rfl, h4⟩
                exact ⟨by rw [HE3.out], 4, _, _, _, _, _, rfl, h4, HOUT.out⟩
              · (try go_simp)
                go_at_call 71
                refine (HN.out _ HS2.out.drew).mono ?_
                rintro e w3 ⟨rfl, h3⟩
                have cb3 := HBX.out _ _ _ _ _ _ h3
                have H3 := Lib.hid h3
                clear h3
                rename_i K hK
                refine hK _ _ ?_
                clear hK K
                refine wpAny_ready (rs := [3]) (by kernel_rfl) (by simp) ?_
                refine AllReady.cons rfl (fun K hK => ?_) AllReady.nil
                (try go_simp)
                go_at_call 70
                refine (HDF.out _ H3.out).mono ?_
                rintro e w4 ⟨rfl, h4⟩
                exact ⟨by rw [HE3.out], 4, _, _, _, _, _, rfl, h4, HOUT.out⟩
              · (try go_simp)
                go_at_call 71
                refine (HN.out _ HS2.out.drew).mono ?_
                rintro e w3 ⟨rfl, h3⟩
                have cb3 := HBX.out _ _ _ _ _ _ h3
                have H3 := Lib.hid h3
                clear h3
                rename_i K hK
                refine hK _ _ ?_
                clear hK K
                refine wpAny_ready (rs := [0]) (by kernel_rfl) (by simp) ?_
                refine AllReady.cons rfl (fun K hK => ?_) AllReady.nil
                go_simp
                refine hK _ _ ?_
                clear hK K
                refine wpAny_ready (rs := [3]) (by kernel_rfl) (by simp) ?_
                refine AllReady.cons rfl (fun K hK => ?_) AllReady.nil
                (try go_simp)
                go_at_call 70
                refine (HDF.out _ H3.out).mono ?_
                rintro e w4 ⟨rfl, h4⟩
                exact ⟨by rw [HE3.out], 4, _, _, _, _, _, rfl, h4, HOUT.out⟩
          · have HN := Lib.hid (fun (W : World) (hW : St x2 E wk w W { m1 with steps := m1.steps + 1 } ad1 buf1 back1 pg1) => (next_prog hW hE.len hpb).mono (R' := fun e w2 => e = thrown 5 ∧ St x2 E wk w w2 { m1 with steps := m1.steps + 1 } ad1 buf1 back1 pg1) (by
              rintro e w2 (⟨h1, _⟩ | ⟨_, h1⟩)
              · exact absurd h1 hpl
              · exact h1))
            have HOUT := Lib.hid (Rn.fall (fuel := fuel) (mo := trap { m1 with steps := m1.steps + 1 } 5) (m2 := { m1 with steps := m1.steps + 1 }) hrun hs hlt (by rw [step_none (m := { m1 with steps := m1.steps + 1 }) hpl]; exact Eqv.refl _) rfl 5 rfl rfl rfl)
            clear hrun hs hlt hinv hbl hkf hk hf hpb hpl hstA HRn HI HX
            generalize (m1.steps : Int) = k at c20 HS2 hkb hkn hkz
            generalize (fuel : Int) = fu at hkn ⊢
            go_upto_region 6 with (fail)
            have h2 := HS2.out
            generalize wr.setCell _ _ = W at *
            have cb2 := HBX.out _ _ _ _ _ _ h2
            have hl2 := h2.lm
            clear c20 c21 f20 f21 cbx hl1 h2
            go_region_dies
            all_goals
              (try go_simp)
              go_at_call 71
              refine (HN.out _ HS2.out.drew).mono ?_
              rintro e w3 ⟨rfl, h3⟩
              exact ⟨by rw [HE3.out], 5, _, _, _, _, _, rfl, h3, HOUT.out⟩
      · exact absurd hs hend.1
    · have HE := Lib.hid (show outOf m1 = outOf (runN E fuel m0) from by
        obtain ⟨_, hrun | hend⟩ := HRn.out
        · exact absurd hrun.1 hs
        · exact hend.2)
      go_wp2
      exact ⟨by rw [HE3.out], _, _, _, _, _, H1.out, hs, HE.out⟩
end
end Go.Proofs.YtopceggmdieppaaDoor.Emu
