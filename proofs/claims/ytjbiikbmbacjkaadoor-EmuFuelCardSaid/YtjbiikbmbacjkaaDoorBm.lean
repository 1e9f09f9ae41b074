/- Calls and returns. No condition. -/
import Derived.Test.YtjbiikbmbacjkaaDoorBl
namespace Go.Proofs.YtjbiikbmbacjkaaDoor.Emu
open Go.RowKit Go.Proofs.YtjbiikbmbacjkaaDoor.Enc Go.Proofs.YtjbiikbmbacjkaaDoor.Graph

section
variable {x : Fz} {E : Env} {wk : Nat → Value} {w w' w1 w2 : World} {m : M} {ad buf back : Value} {pg : Nat → Option Nat}
theorem St.kept (h : St x E wk w w1 m ad buf back pg) (hb : w1.grownBy w2 back.ownBlock) (k : Nat) {v : Value} (hc : w1.cell? ⟨x.bm, k, none⟩ = some v) (hf : w1.frozen? ⟨x.bm, k, none⟩ = false) : w2.cell? ⟨x.bm, k, none⟩ = some v ∧ w2.frozen? ⟨x.bm, k, none⟩ = false := by
  have hne : some x.bm ≠ back.ownBlock := fun e => by
    have := (h.backR.lt _ e.symm).1
    have := h.ok.bn
    omega
  unfold World.cell? at hc ⊢
  unfold World.frozen? at hf ⊢
  rw [hb.block x.bm h.lm hne]
  exact ⟨hc, hf⟩
set_option maxHeartbeats 4000000 in
set_option maxRecDepth 100000 in
theorem jump43 (h : St x E wk w w' m ad buf back pg) (h0 : m.stop = 0) (hI : Inv m) (hE : EnvOk E) (hp : 0 ≤ m.place ∧ m.place ≤ 65536) (a b imm : Int) :
    Calls Tryd.prog 78 #[.pointer (some ⟨x.bm, 0, none⟩), iV ⟨43, a, b, imm⟩] w' (DoPost x E wk w m (doStep E m ⟨43, a, b, imm⟩) False) := by
  have hmo : doStep E m ⟨43, a, b, imm⟩ = match wordAt E m.place with | none => trap m 5 | some v => if 50 ≤ m.calls.length then trap m 3 else { m with calls := m.calls ++ [m.place + 1], place := v } := by simp [doStep, plainStep, goesStep, followsP]; cases wordAt E m.place <;> rfl
  rw [hmo]
  obtain ⟨bp, bc, rfl⟩ := h.backForm
  have HH := Lib.hid h
  by_cases hlt : 0 ≤ m.place ∧ m.place < E.words.length
  · rw [wordAt_some hlt]
    simp only
    have HB := Lib.hid (fun o => behind_ok (h.alloc o) hE.len hlt)
    have hv : isW (E.words.getD m.place.toNat 0) := isW_getD hE.words _
    have HC := Lib.hid (fun (w1 : World) (h1 : St x E wk w w1 { m with place := m.place + 1 } ad buf (.slice bp m.calls.length bc) pg) => (show w1.cell? ⟨x.bm, 19, none⟩ = some (.int .i64 (m.place + 1)) ∧ w1.frozen? ⟨x.bm, 19, none⟩ = false from h1.cell (k := 19) (by decide)))
    have HD := Lib.hid (fun (w1 : World) (h1 : St x E wk w w1 { m with place := m.place + 1 } ad buf (.slice bp m.calls.length bc) pg) => (show w1.cell? ⟨x.bm, 18, none⟩ = some (.slice bp m.calls.length bc) ∧ w1.frozen? ⟨x.bm, 18, none⟩ = false from h1.cell (k := 18) (by decide)))
    obtain ⟨v0, v1⟩ := hv
    generalize E.words.getD m.place.toNat 0 = v at *
    by_cases hfull : 50 ≤ m.calls.length
    · rw [if_pos hfull]
      have HP := Lib.hid (fun (e : Ending) (w2 : World) (he : e = thrown 3 ∧ St x E wk w w2 { m with place := m.place + 1 } ad buf (.slice bp m.calls.length bc) pg) => DoPost.trap (T := False) (m := m) (m2 := { m with place := m.place + 1 }) (fun h => h) he.1 rfl rfl he.2)
      have h50 : m.calls.length = 50 := Nat.le_antisymm hI.cl hfull
      rw [h50] at HD HC HB HP
      clear h hmo hlt hI hE hp hfull h50 HH
      generalize m.place = p at *
      refine Calls.mono ?_ HP.out
      go_enter Tryd.func78, Tryd.ntmps78
      go_wp2_with (go_at_call 73; refine (HB.out _).mono ?_; rintro e w1 ⟨rfl, h1⟩; obtain ⟨c19, f19⟩ := HC.out w1 h1; obtain ⟨c18, f18⟩ := HD.out w1 h1; have hlm := h1.lm; have H1 := Lib.hid h1; clear h1)
      exact ⟨rfl, rfl, H1.out⟩
    · rw [if_neg hfull]
      have HP := Lib.hid (fun (e : Ending) (w2 : World) (he : e = .returned (.tuple #[]) ∧ ∃ back', St x E wk w w2 { m with calls := m.calls ++ [m.place + 1], place := v } ad buf back' pg) => (he.2.elim fun _ h2 => DoPost.ok (m := m) (T := False) h0 he.1 h2 rfl : DoPost x E wk w m { m with calls := m.calls ++ [m.place + 1], place := v } False e w2))
      have hn : m.calls.length ≤ 1000000 := by omega
      have hne : ¬ ((m.calls.length : Int) = 50) := by omega
      have HW := Lib.hid (fun (w1 : World) (h1 : St x E wk w w1 { m with place := m.place + 1 } ad buf (.slice bp m.calls.length bc) pg) => (show w1.ownsRow x.N 3 1 (.slice bp m.calls.length bc) m.calls.length (m.calls.map fun p => .int .i64 p) from h1.backR))
      have HPU := Lib.hid (fun (w1 w2 : World) (back' : Value) (h1 : St x E wk w w1 { m with place := m.place + 1 } ad buf (.slice bp m.calls.length bc) pg) (hb : w1.grownBy w2 (Value.slice bp m.calls.length bc).ownBlock) (hn : w2.ownsRow x.N 3 1 back' (m.calls.length + 1) ((m.calls.map fun p => .int .i64 p) ++ [.int .i64 (m.place + 1)])) (hgn : ∀ g, back'.ownBlock = some g → (Value.slice bp m.calls.length bc).ownBlock = some g ∨ w1.heap.size ≤ g) => (h1.push hb hn hgn).setPlace v)
      have HN := Lib.hid (fun (w1 : World) (h1 : St x E wk w w1 { m with place := m.place + 1 } ad buf (.slice bp m.calls.length bc) pg) => h1.size)
      have HKP := Lib.hid (fun (w1 w2 : World) (h1 : St x E wk w w1 { m with place := m.place + 1 } ad buf (.slice bp m.calls.length bc) pg) (hb : w1.grownBy w2 (Value.slice bp m.calls.length bc).ownBlock) (k : Nat) (v : Value) hc hf => h1.kept hb k (v := v) hc hf)
      obtain ⟨i0, hi, hz0, hz1, hz2⟩ := info_parts info_intE
      have HIN := Lib.hid (And.intro hi (And.intro hz0 (And.intro hz1 hz2)))
      have hn2 : m.calls.length + 1 ≤ maxLen := by unfold maxLen; omega
      have hn3 : (m.calls.length + 1) * 8 ≤ 140737488355328 := by omega
      have HNN := Lib.hid (And.intro hn2 hn3)
      have hp0 := hp.1
      have hp1 := hp.2
      clear h hmo hlt hI hE hp hfull hi hz0 hz1 hz2 hn2 hn3 HH
      generalize m.place = p at *
      generalize m.calls.length = n at *
      refine Calls.mono ?_ HP.out
      go_enter Tryd.func78, Tryd.ntmps78
      go_wp2_with (go_at_call 73; refine (HB.out _).mono ?_; rintro e w1 ⟨rfl, h1⟩; obtain ⟨c19, f19⟩ := HC.out w1 h1; obtain ⟨c18, f18⟩ := HD.out w1 h1; have hlm := h1.lm; have H1 := Lib.hid h1; have hnz := HN.out w1 h1; clear h1)
      go_region_law (first
        | (refine step_append_lies _ rfl (.tmp 54) (.tmp 59) 23 rfl x.N 3 i0 (.int .i64 0) 1 8 Tryd.underlying23 HIN.out.1 HIN.out.2.1 HIN.out.2.2.1 HIN.out.2.2.2 rfl (by omega) (.slice bp n bc) n _ rfl (HW.out _ ((H1.out.alloc _).drew)) ⟨w1.heap.size, 0, none⟩ 1 1 [.int .i64 (p + 1)] rfl rfl (one_newsE (by go_simp)) (fun y hy => by rw [List.mem_singleton.1 hy]; rfl) (by omega) HNN.out.1 HNN.out.2 (by simp; omega) _ rfl ?_
           intro g cap w3 h2 h3 h4 h5
           have hkc := HKP.out _ _ ((H1.out.alloc _).drew) h3
           obtain ⟨d18, e18⟩ := hkc 18 (.slice bp n bc) (by go_simp) (by go_simp)
           obtain ⟨d19, e19⟩ := hkc 19 (.int .i64 (p + 1)) (by go_simp) (by go_simp)
           have HG := Lib.hid (HPU.out _ _ _ ((H1.out.alloc _).drew) h3 h2 (fun g' e => by
             have e : some g = some g' := e
             injection e with e
             subst e
             rcases h4 with h4 | h4
             · exact .inl h4
             · right; rw [h4]; simp))
           clear h2 h3 h4 h5 hkc))
      all_goals
        go_wp2
        go_end0
        exact ⟨rfl, _, HG.out⟩
  · rw [wordAt_none hlt]
    have HB := Lib.hid (fun o => behind_no (h.alloc o) hE.len ⟨by omega, by omega⟩ hlt)
    have HP := Lib.hid (fun (e : Ending) (w2 : World) (he : e = thrown 5 ∧ St x E wk w w2 m ad buf (.slice bp m.calls.length bc) pg) => DoPost.trap (T := False) (m := m) (m2 := m) (fun h => h) he.1 rfl rfl he.2)
    clear h hmo hlt
    refine Calls.mono ?_ HP.out
    go_enter Tryd.func78, Tryd.ntmps78
    go_wp2_with (go_at_call 73; refine (HB.out _).mono ?_; rintro e w1 ⟨rfl, hw2⟩; have hw3 := hw2.symm; clear hw2; subst hw3)
    exact ⟨rfl, rfl, HH.out.alloc _⟩
end
end Go.Proofs.YtjbiikbmbacjkaaDoor.Emu
