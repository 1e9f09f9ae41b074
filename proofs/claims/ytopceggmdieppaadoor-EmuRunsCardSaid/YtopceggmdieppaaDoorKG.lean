/- The document's machine, instructions that go elsewhere: calls and returns. No condition. -/
import Derived.Test.YtopceggmdieppaaDoorKA
import Derived.Test.YtopceggmdieppaaDoorHB
import Derived.Test.YtopceggmdieppaaDoorEC
import Derived.Deep.AppendLies
import Derived.Deep.RegionLaw
import Derived.Test.YtopceggmdieppaaDoorKF
import Derived.Test.YtopceggmdieppaaDoorUj3
namespace Go.Proofs.YtopceggmdieppaaDoor.Emu
open Go.RowKit Go.Proofs.YtopceggmdieppaaDoor.Enc Go.Proofs.YtopceggmdieppaaDoor.Graph

section
variable {x : Dz} {E : Env} {w w' w1 w2 : World} {m : M} {back buf : Value}
theorem Sd.backForm (h : Sd x E w w' m back buf) : ∃ p c, back = .slice p m.calls.length c := by
  rcases h.backR.2 with ⟨rfl, h0⟩ | ⟨g, cap, cur, rfl, _⟩
  · exact ⟨none, 0, by rw [h0]⟩
  · exact ⟨_, _, rfl⟩
theorem Sd.keptBack (h : Sd x E w w1 m back buf) (hb : w1.grownBy w2 back.ownBlock) (k : Nat) {v : Value} (hc : w1.cell? ⟨x.bm, k, none⟩ = some v) (hf : w1.frozen? ⟨x.bm, k, none⟩ = false) : w2.cell? ⟨x.bm, k, none⟩ = some v ∧ w2.frozen? ⟨x.bm, k, none⟩ = false := by
  have hne : some x.bm ≠ back.ownBlock := fun e => by
    have := (h.backR.lt _ e.symm).1
    have := h.ok.bn
    omega
  unfold World.cell? at hc ⊢
  unfold World.frozen? at hf ⊢
  rw [hb.block x.bm h.lm hne]
  exact ⟨hc, hf⟩
/-- The last place to come back to, and the row without it. -/
theorem Sd.top (h : Sd x E w w' m back buf) {l : List Int} {p : Int} (hm : m.calls = l ++ [p]) : ∃ g c, back = .slice (some ⟨g, 0, none⟩) (l.length + 1) c ∧ l.length + 1 ≤ c ∧ w'.cell? ⟨g, l.length, none⟩ = some (.int .i64 p) ∧ g ≠ x.bm ∧
    Sd x E w (w'.setCell ⟨x.bm, 16, none⟩ (.slice (some ⟨g, 0, none⟩) l.length c)) { m with calls := l } (.slice (some ⟨g, 0, none⟩) l.length c) buf := by
  have hR := h.backR
  rw [hm] at hR
  simp only [List.length_append, List.length_cons, List.length_nil, Nat.zero_add, List.map_append, List.map_cons, List.map_nil] at hR
  rcases hR.2 with ⟨_, h0⟩ | ⟨g, cap, cur, hv, hNg, hbg, hnc, hcm, hcs, htake⟩
  · omega
  have hcell := hR.cells (g := g) (by rw [hv]; rfl) l.length (.int .i64 p) (by simp)
  have hgm : g ≠ x.bm := by have := h.ok.bn; omega
  refine ⟨g, cap, hv, hnc, by rw [add0] at hcell; exact hcell, hgm, ?_⟩
  have hob : back.ownBlock = some g := by rw [hv]; rfl
  obtain ⟨cs, k1, k2⟩ := h.mach
  obtain ⟨ms, k3, k4⟩ := h.mem
  have hne : ∀ b, b ≠ x.bm → (w'.setCell ⟨x.bm, 16, none⟩ (.slice (some ⟨g, 0, none⟩) l.length cap)).heap[b]? = w'.heap[b]? := fun b hb => heap_setCell_other w' ⟨x.bm, 16, none⟩ b _ hb
  refine ⟨h.ok, h.below.setCell (p := ⟨x.bm, 16, none⟩) h.ok.zb _, by simpa using h.size, ⟨_, heap_setCell_same w' x.bm 16 _ _ _ k1, k2.put 16 _ rfl (fun j hj hn => by unfold dcell; simp only [hn, if_false])⟩, h.words, h.wz, ⟨ms, (hne _ h.ok.bm.symm).trans k3, k4⟩, ?_, ?_, ?_⟩
  · show World.ownsRow _ x.N _ 1 (.slice (some ⟨g, 0, none⟩) l.length cap) l.length (l.map fun p => .int .i64 p)
    have h1 := congrArg (List.take (l.length * 1)) htake
    rw [List.take_take, Nat.min_eq_left (by omega), Nat.mul_one, List.take_append_of_le_length (by simp), List.take_of_length_le (l := l.map _) (by simp)] at h1
    exact ⟨by simp, .inr ⟨g, cap, cur, rfl, hNg, (hne g hgm).trans hbg, by omega, hcm, hcs, by rw [Nat.mul_one]; exact h1⟩⟩
  · exact own_same h.bufR (fun b hb => hne b (by have := (h.bufR.lt b hb).1; have := h.ok.bn; omega))
  · intro b hb; exact h.bb b (by rw [hob]; exact hb)
set_option maxHeartbeats 4000000 in
set_option maxRecDepth 100000 in
theorem gd44 (h : Sd x E w w' m back buf) (hI : Inv m) (_hE : EnvOk E) (a b : Nat) (_ha : a < 12) (_hb : b < 12) (imm : Int) (_hi : -32768 ≤ imm ∧ imm ≤ 32767) (q : Int) (_hq : 0 ≤ q ∧ q ≤ 65536) :
    Calls Tryd.prog 75 #[.pointer (some ⟨x.bm, 0, none⟩), cV ⟨44, a, b, imm⟩, .int .i64 q] w' fun e w2 => e = .returned (.tuple #[]) ∧ ∃ back' buf', Sd x E w w2 (goesStep E m ⟨44, a, b, imm⟩ q) back' buf' := by
  have hmo : goesStep E m ⟨44, a, b, imm⟩ q = match m.calls.getLast? with | none => trap m 8 | some p => { m with place := p, calls := m.calls.dropLast } := by simp [goesStep, followsP]; cases m.calls.getLast? <;> rfl
  rw [hmo]
  have HF := Lib.hid (fun (w : World) => (show Calls Tryd.prog 121 #[.int .i64 44] w fun e w' => e = .returned (.int .i64 (0)) ∧ w' = w from by have h5 := rfollows_any 44 w; rwa [show followsP 44 = 0 by decide] at h5))
  obtain ⟨c17, f17⟩ := h.cell (k := 17) (by decide)
  change _ = some (Value.int .i64 m.place) at c17
  have hlm := h.lm
  obtain ⟨c16, f16⟩ := h.cell (k := 16) (by decide)
  change _ = some back at c16
  rcases List.eq_nil_or_concat m.calls with hm | ⟨l, p, hm⟩
  · rw [hm]
    obtain ⟨bp, bc, rfl⟩ := h.backForm
    have hn : m.calls.length = 0 := by rw [hm]; rfl
    have HT := Lib.hid (fun (W : World) (hW : Sd x E w W m (.slice bp m.calls.length bc) buf) => stop_d hW 2 8)
    have HH := Lib.hid h
    rw [hn] at c16 HT HH
    clear h hI _hE hmo hn hm
    go_enter Tryd.func75, Tryd.ntmps75
    go_wp2_with (first | (go_at_call 121; refine (HF.out _).mono ?_; rintro e w1 ⟨rfl, rfl⟩) | (go_at_call 46; refine (HT.out _ (by repeat' first | exact HH.out | apply Sd.alloc | apply Sd.drewN | apply Sd.drew)).mono ?_; rintro e w1 ⟨rfl, h1⟩; have H1 := Lib.hid h1; clear h1))
    refine bodyPost_ret (results_none rfl _ _ _) rfl ?_
    exact ⟨rfl, _, _, H1.out⟩
  · rw [List.concat_eq_append] at hm
    obtain ⟨g, c, hb, hc, cg, hgm, _⟩ := h.top hm
    have hl : l.length + 1 ≤ 50 := by have := hI.cl; rw [hm] at this; simpa using this
    have e1 : m.calls.getLast? = some p := by rw [hm]; simp
    have e2 : m.calls.dropLast = l := by rw [hm]; simp
    rw [e1, e2]
    simp only
    have hg := lt_of_cellE cg
    have HR := Lib.hid (fun (W : World) (hW : Sd x E w W m back buf) => hW.setPlace p)
    have HS := Lib.hid (fun (W : World) (hW : Sd x E w W { m with place := p } back buf) => (show Sd x E w (W.setCell ⟨x.bm, 16, none⟩ (.slice (some ⟨g, 0, none⟩) l.length c)) { m with place := p, calls := l } (.slice (some ⟨g, 0, none⟩) l.length c) buf from by
      obtain ⟨g', c', hb', _, _, _, hst⟩ := hW.top (l := l) (p := p) hm
      obtain ⟨rfl, rfl⟩ : g' = g ∧ c' = c := by rw [hb] at hb'; simp at hb'; exact ⟨hb'.1.symm, hb'.2.symm⟩
      exact hst))
    have HH := Lib.hid h
    subst hb
    clear h hmo hm e1 e2 hI _hE
    generalize l.length = n at *
    generalize m.place = q' at *
    go_enter Tryd.func75, Tryd.ntmps75
    go_wp2_with (go_at_call 121; refine (HF.out _).mono ?_; rintro e w1 ⟨rfl, rfl⟩)
    go_region
    all_goals
      go_wp2
      go_region
      all_goals
        go_wp2
        go_end0
        exact ⟨rfl, _, _, by repeat' first | exact HH.out | apply HS.out | apply HR.out | apply Sd.alloc | apply Sd.drewN | apply Sd.drew⟩
set_option maxHeartbeats 4000000 in
set_option maxRecDepth 100000 in
theorem gd43 (h : Sd x E w w' m back buf) (hI : Inv m) (hE : EnvOk E) (a b : Nat) (_ha : a < 12) (_hb : b < 12) (imm : Int) (_hi : -32768 ≤ imm ∧ imm ≤ 32767) (q : Int) (hq : 0 ≤ q ∧ q ≤ 65536) :
    Calls Tryd.prog 75 #[.pointer (some ⟨x.bm, 0, none⟩), cV ⟨43, a, b, imm⟩, .int .i64 q] w' fun e w2 => e = .returned (.tuple #[]) ∧ ∃ back' buf', Sd x E w w2 (goesStep E m ⟨43, a, b, imm⟩ q) back' buf' := by
  have hmo : goesStep E m ⟨43, a, b, imm⟩ q = match wordAt E q with | none => trap m 5 | some v => if 50 ≤ m.calls.length then trap m 3 else { m with calls := m.calls ++ [q + 1], place := v } := by simp [goesStep, followsP]; cases wordAt E q <;> rfl
  rw [hmo]
  obtain ⟨bp, bc, rfl⟩ := h.backForm
  have HF := Lib.hid (fun (w : World) => (show Calls Tryd.prog 121 #[.int .i64 43] w fun e w' => e = .returned (.int .i64 (1)) ∧ w' = w from by have h5 := rfollows_any 43 w; rwa [show followsP 43 = 1 by decide] at h5))
  obtain ⟨c17, f17⟩ := h.cell (k := 17) (by decide)
  change _ = some (Value.int .i64 m.place) at c17
  have hlm := h.lm
  obtain ⟨c16, f16⟩ := h.cell (k := 16) (by decide)
  change _ = some (Value.slice bp m.calls.length bc) at c16
  by_cases hlt : 0 ≤ q ∧ q < E.words.length
  · rw [wordAt_some hlt]
    simp only
    have HB := Lib.hid (fun o => wordD_ok (h.alloc o) q hlt)
    obtain ⟨v0, v1⟩ := isW_getD hE.words q.toNat
    generalize E.words.getD q.toNat 0 = v at *
    by_cases hfull : 50 ≤ m.calls.length
    · rw [if_pos hfull]
      have HT := Lib.hid (fun (W : World) (hW : Sd x E w W m (.slice bp m.calls.length bc) buf) => stop_d hW 2 3)
      have HH := Lib.hid h
      have h50 : m.calls.length = 50 := Nat.le_antisymm hI.cl hfull
      rw [h50] at c16 HT HH
      clear h hI hE hmo hlt hfull h50
      go_enter Tryd.func75, Tryd.ntmps75
      go_wp2_with (first | (go_at_call 121; refine (HF.out _).mono ?_; rintro e w1 ⟨rfl, rfl⟩) | (go_at_call 72; refine (HB.out _).mono ?_; rintro e w1 ⟨rfl, rfl⟩) | (go_at_call 46; refine (HT.out _ (by repeat' first | exact HH.out | apply Sd.alloc | apply Sd.drewN | apply Sd.drew)).mono ?_; rintro e w1 ⟨rfl, h1⟩; have H1 := Lib.hid h1; clear h1))
      refine bodyPost_ret (results_none rfl _ _ _) rfl ?_
      exact ⟨rfl, _, _, H1.out⟩
    · rw [if_neg hfull]
      have hn : m.calls.length ≤ 1000000 := by omega
      have hne : decide ((50 : Int) ≤ m.calls.length) = false := decide_eq_false (by omega)
      have HW := Lib.hid (fun (W : World) (hW : Sd x E w W m (.slice bp m.calls.length bc) buf) => hW.backR)
      have HPU := Lib.hid (fun (W W2 : World) (back' : Value) (hW : Sd x E w W m (.slice bp m.calls.length bc) buf) (hg : W.grownBy W2 (Value.slice bp m.calls.length bc).ownBlock) (hn : W2.ownsRow x.N 3 1 back' (m.calls.length + 1) ((m.calls.map fun p => .int .i64 p) ++ [.int .i64 (q + 1)])) (hgn : ∀ g, back'.ownBlock = some g → (Value.slice bp m.calls.length bc).ownBlock = some g ∨ W.heap.size ≤ g) => (hW.push hg hn hgn).setPlace v)
      have HN := Lib.hid (fun (W : World) (hW : Sd x E w W m (.slice bp m.calls.length bc) buf) => hW.size)
      have HKP := Lib.hid (fun (W W2 : World) (hW : Sd x E w W m (.slice bp m.calls.length bc) buf) (hg : W.grownBy W2 (Value.slice bp m.calls.length bc).ownBlock) (k : Nat) (v : Value) hc hf => hW.keptBack hg k (v := v) hc hf)
      have HH := Lib.hid h
      obtain ⟨q0, q1⟩ := hq
      clear h hI hE hmo hlt hfull
      generalize m.calls.length = n at *
      generalize m.place = q' at *
      go_enter Tryd.func75, Tryd.ntmps75
      go_wp2_with (first | (go_at_call 121; refine (HF.out _).mono ?_; rintro e w1 ⟨rfl, rfl⟩) | (go_at_call 72; refine (HB.out _).mono ?_; rintro e w1 ⟨rfl, rfl⟩) | (at_builtin; refine append_cell rfl (.tmp 133) (.tmp 136) 25 3 (.int .i64 0) 8 rfl Tryd.underlying25 info_intE rfl (by omega) x.N (.slice bp n bc) n _ rfl (HW.out _ (by repeat' first | exact HH.out | apply Sd.alloc | apply Sd.drewN | apply Sd.drew)) (HN.out _ (by repeat' first | exact HH.out | apply Sd.alloc | apply Sd.drewN | apply Sd.drew)) (.int .i64 (q + 1)) rfl (w'.heap.size + 1) 1 rfl (by go_simp) (by omega) ?_; intro g cap w3 h2 h3 h4; have hkc := HKP.out _ _ (by repeat' first | exact HH.out | apply Sd.alloc | apply Sd.drewN | apply Sd.drew) h3; obtain ⟨d16, e16⟩ := hkc 16 (.slice bp n bc) (by go_simp) (by go_simp); obtain ⟨d17, e17⟩ := hkc 17 (.int .i64 q') (by go_simp) (by go_simp); have HG := Lib.hid (HPU.out _ _ _ (by repeat' first | exact HH.out | apply Sd.alloc | apply Sd.drewN | apply Sd.drew) h3 h2 (fun g' e => by (have e : some g = some g' := e); injection e with e; subst e; rcases h4 with h4 | h4; exact .inl h4; right; exact Nat.le_of_eq h4.symm)); clear h2 h3 h4 hkc))
      go_end0
      exact ⟨rfl, _, _, HG.out⟩
  · rw [wordAt_none hlt]
    clear c16 f16
    have HB := Lib.hid (fun o => wordD_no (h.alloc o) q hlt)
    have HH := Lib.hid h
    clear h hI hE hmo hlt
    go_enter Tryd.func75, Tryd.ntmps75
    go_wp2_with (first | (go_at_call 121; refine (HF.out _).mono ?_; rintro e w1 ⟨rfl, rfl⟩) | (go_at_call 72; refine (HB.out _).mono ?_; rintro e w1 ⟨rfl, h1⟩; have H1 := Lib.hid h1; clear h1))
    refine bodyPost_ret (results_none rfl _ _ _) rfl ?_
    exact ⟨rfl, _, _, H1.out⟩
end
end Go.Proofs.YtopceggmdieppaaDoor.Emu
namespace Go.Proofs.YtopceggmdieppaaDoor.Emu
open Go.RowKit Go.Proofs.YtopceggmdieppaaDoor.Enc Go.Proofs.YtopceggmdieppaaDoor.Graph

section
variable {x : Dz} {E : Env} {w w' w1 w2 : World} {m : M} {back buf : Value}
theorem plain_none {c : PC} (h : plainStep E m c = none) (ho : 1 ≤ c.op ∧ c.op ≤ 48) : c.op = 2 ∨ 30 ≤ c.op ∧ c.op ≤ 44 := by
  unfold plainStep at h
  simp only at h
  by_cases q0 : c.op = 1
  · rw [if_pos q0] at h; cases h
  rw [if_neg q0] at h
  by_cases q1 : c.op = 3
  · rw [if_pos q1] at h; cases h
  rw [if_neg q1] at h
  by_cases q2 : c.op = 24
  · rw [if_pos q2] at h; cases h
  rw [if_neg q2] at h
  by_cases q3 : c.op = 25
  · rw [if_pos q3] at h; cases h
  rw [if_neg q3] at h
  by_cases q4 : c.op = 26
  · rw [if_pos q4] at h; cases h
  rw [if_neg q4] at h
  by_cases q5 : c.op = 4
  · rw [if_pos q5] at h; cases h
  rw [if_neg q5] at h
  by_cases q6 : c.op = 27
  · rw [if_pos q6] at h; cases h
  rw [if_neg q6] at h
  by_cases q7 : c.op = 28
  · rw [if_pos q7] at h; cases h
  rw [if_neg q7] at h
  by_cases q8 : c.op = 29
  · rw [if_pos q8] at h; cases h
  rw [if_neg q8] at h
  by_cases q9 : c.op = 45
  · rw [if_pos q9] at h; cases h
  rw [if_neg q9] at h
  by_cases q10 : c.op = 46
  · rw [if_pos q10] at h; cases h
  rw [if_neg q10] at h
  by_cases q11 : c.op = 47
  · rw [if_pos q11] at h; cases h
  rw [if_neg q11] at h
  by_cases q12 : c.op = 48
  · rw [if_pos q12] at h; cases h
  rw [if_neg q12] at h
  by_cases q13 : 5 ≤ c.op ∧ c.op ≤ 23
  · rw [if_pos q13] at h; cases h
  rw [if_neg q13] at h
  omega
theorem goes_d (h : Sd x E w w' m back buf) (hI : Inv m) (hE : EnvOk E) (hT : DHolds E.holds) (c : PC) (hm : mayP c = true) (hn : plainStep E m c = none) (q : Int) (hq : 0 ≤ q ∧ q ≤ 65536) :
    Calls Tryd.prog 75 #[.pointer (some ⟨x.bm, 0, none⟩), cV c, .int .i64 q] w' fun e w2 => e = .returned (.tuple #[]) ∧ ∃ back' buf', Sd x E w w2 (goesStep E m c q) back' buf' := by
  have hc := within hm
  have ho2 := plain_none hn
  clear hn hm
  obtain ⟨op, a', b', imm⟩ := c
  obtain ⟨ho, ha', hb', hi⟩ := hc
  simp only at ho ha' hb' hi ho2
  have ho3 := ho2 (by omega)
  clear ho2
  obtain ⟨a, rfl⟩ := Int.eq_ofNat_of_zero_le ha'.1
  obtain ⟨b, rfl⟩ := Int.eq_ofNat_of_zero_le hb'.1
  have ha : a < 12 := by omega
  have hb : b < 12 := by omega
  obtain rfl | rfl | rfl | rfl | rfl | rfl | rfl | rfl | rfl | rfl | rfl | rfl | rfl | rfl | rfl | rfl : op = 2 ∨ op = 30 ∨ op = 31 ∨ op = 32 ∨ op = 33 ∨ op = 34 ∨ op = 35 ∨ op = 36 ∨ op = 37 ∨ op = 38 ∨ op = 39 ∨ op = 40 ∨ op = 41 ∨ op = 42 ∨ op = 43 ∨ op = 44 := by omega
  · exact gd2 h hI hE a b ha hb imm hi q hq
  · exact gd30 h hI hE a b ha hb imm hi q hq hT
  · exact gd31 h hI hE a b ha hb imm hi q hq hT
  · exact gd32 h hI hE a b ha hb imm hi q hq hT
  · exact gd33 h hI hE a b ha hb imm hi q hq hT
  · exact gd34 h hI hE a b ha hb imm hi q hq hT
  · exact gd35 h hI hE a b ha hb imm hi q hq hT
  · exact gd36 h hI hE a b ha hb imm hi q hq hT
  · exact gd37 h hI hE a b ha hb imm hi q hq hT
  · exact gd38 h hI hE a b ha hb imm hi q hq hT
  · exact gd39 h hI hE a b ha hb imm hi q hq hT
  · exact gd40 h hI hE a b ha hb imm hi q hq
  · exact gd41 h hI hE a b ha hb imm hi q hq
  · exact gd42 h hI hE a b ha hb imm hi q hq
  · exact gd43 h hI hE a b ha hb imm hi q hq
  · exact gd44 h hI hE a b ha hb imm hi q hq
end
end Go.Proofs.YtopceggmdieppaaDoor.Emu
