/- What a step comes to; a table's place. No condition. -/
import Derived.Test.YtjbiikbmbacjkaaDoorBj
namespace Go.Proofs.YtjbiikbmbacjkaaDoor.Emu
open Go.RowKit Go.Proofs.YtjbiikbmbacjkaaDoor.Enc Go.Proofs.YtjbiikbmbacjkaaDoor.Graph

/-- A step comes to the plain machine's, or throws the trap that that one has. (T: it is the trap's own instruction.) -/
def DoPost (x : Fz) (E : Env) (wk : Nat → Value) (w : World) (m mo : M) (T : Prop) (e : Ending) (w2 : World) : Prop :=
  ((mo.stop ≠ 2 ∨ T) ∧ e = .returned (.tuple #[]) ∧ ∃ ad buf back pg, St x E wk w w2 mo ad buf back pg) ∨
  (¬ (mo.stop ≠ 2 ∨ T) ∧ e = thrown mo.code ∧ mo.bytes = m.bytes ∧ mo.steps = m.steps ∧ ∃ m2 ad buf back pg, m2.bytes = m.bytes ∧ m2.steps = m.steps ∧ St x E wk w w2 m2 ad buf back pg)
section
variable {x : Fz} {E : Env} {wk : Nat → Value} {w w' w2 : World} {m : M} {ad buf back : Value} {pg : Nat → Option Nat}
theorem DoPost.ok {mo : M} {T : Prop} {e : Ending} (h0 : m.stop = 0) (he : e = .returned (.tuple #[])) (h : St x E wk w w2 mo ad buf back pg) (hs : mo.stop = m.stop) : DoPost x E wk w m mo T e w2 := .inl ⟨.inl (by rw [hs, h0]; decide), he, _, _, _, _, h⟩
theorem DoPost.trap {T : Prop} {k : Int} {m2 : M} {e : Ending} (hT : ¬ T) (he : e = thrown k) (hb : m2.bytes = m.bytes) (hs : m2.steps = m.steps) (h : St x E wk w w2 m2 ad buf back pg) : DoPost x E wk w m (trap m k) T e w2 :=
  .inr ⟨fun h => h.elim (fun h => h rfl) hT, he, rfl, rfl, m2, _, _, _, _, hb, hs, h⟩
/-- What has happened, where it goes on; where it does not. -/
theorem DoPost.went {mo : M} {T : Prop} {e : Ending} (hc : mo.stop ≠ 2 ∨ T) (h : DoPost x E wk w m mo T e w2) : e = .returned (.tuple #[]) ∧ ∃ ad buf back pg, St x E wk w w2 mo ad buf back pg := by
  rcases h with h | h
  · exact h.2
  · exact absurd hc h.1
theorem DoPost.fell {mo : M} {T : Prop} {e : Ending} (hc : ¬ (mo.stop ≠ 2 ∨ T)) (h : DoPost x E wk w m mo T e w2) : e = thrown mo.code ∧ mo.bytes = m.bytes ∧ mo.steps = m.steps ∧ ∃ m2 ad buf back pg, m2.bytes = m.bytes ∧ m2.steps = m.steps ∧ St x E wk w w2 m2 ad buf back pg := by
  rcases h with h | h
  · exact absurd h.1 hc
  · exact h.2
theorem DoPost.of_went {mo : M} {T : Prop} {e : Ending} (hc : mo.stop ≠ 2 ∨ T) (h : e = .returned (.tuple #[]) ∧ ∃ ad buf back pg, St x E wk w w2 mo ad buf back pg) : DoPost x E wk w m mo T e w2 := .inl ⟨hc, h⟩
theorem DoPost.of_fell {mo : M} {T : Prop} {e : Ending} (hc : ¬ (mo.stop ≠ 2 ∨ T)) (h : e = thrown mo.code ∧ mo.bytes = m.bytes ∧ mo.steps = m.steps ∧ ∃ m2 ad buf back pg, m2.bytes = m.bytes ∧ m2.steps = m.steps ∧ St x E wk w w2 m2 ad buf back pg) : DoPost x E wk w m mo T e w2 := .inr ⟨hc, h⟩
theorem behind_ok (h : St x E wk w w' m ad buf back pg) (hE : E.words.length ≤ 65536) (hlt : 0 ≤ m.place ∧ m.place < E.words.length) :
    Calls Tryd.prog 73 #[.pointer (some ⟨x.bm, 0, none⟩)] w' fun e w2 => e = .returned (.int .u32 (E.words.getD m.place.toNat 0)) ∧ St x E wk w w2 { m with place := m.place + 1 } ad buf back pg := by
  refine (behind_prog h hE ⟨by omega, by omega⟩).mono ?_
  rintro e w2 (⟨_, h1⟩ | ⟨h1, _⟩)
  · exact h1
  · exact absurd hlt h1
theorem behind_no (h : St x E wk w w' m ad buf back pg) (hE : E.words.length ≤ 65536) (hp : -4611686018427387904 ≤ m.place ∧ m.place < 4611686018427387904) (hlt : ¬ (0 ≤ m.place ∧ m.place < E.words.length)) :
    Calls Tryd.prog 73 #[.pointer (some ⟨x.bm, 0, none⟩)] w' fun e w2 => e = thrown 5 ∧ w2 = w' := by
  refine (behind_prog h hE hp).mono ?_
  rintro e w2 (⟨h1, _⟩ | ⟨_, h1⟩)
  · exact absurd h1 hlt
  · exact h1
def tableP (E : Env) (m : M) (n : Int) : M :=
  match wordAt E m.place with
  | none => trap m 5
  | some b => if b ≤ n then trap m 7 else match wordAt E (m.place + 1 + n) with
    | none => trap m 5
    | some t => { m with place := t }
set_option maxHeartbeats 4000000 in
set_option maxRecDepth 100000 in
theorem table_prog (h : St x E wk w w' m ad buf back pg) (h0 : m.stop = 0) (hE : EnvOk E) (hp : 0 ≤ m.place ∧ m.place ≤ 65536) (n : Int) (hn : isW n) :
    Calls Tryd.prog 104 #[.pointer (some ⟨x.bm, 0, none⟩), .int .u32 n] w' (DoPost x E wk w m (tableP E m n) False) := by
  obtain ⟨n0, n1⟩ := hn
  by_cases hlt : 0 ≤ m.place ∧ m.place < E.words.length
  · have HB := Lib.hid (behind_ok h hE.len hlt)
    have hv : isW (E.words.getD m.place.toNat 0) := isW_getD hE.words _
    have hmo : tableP E m n = if E.words.getD m.place.toNat 0 ≤ n then trap m 7 else match wordAt E (m.place + 1 + n) with
      | none => trap m 5
      | some t => { m with place := t } := by unfold tableP; rw [wordAt_some hlt]
    rw [hmo]
    obtain ⟨v0, v1⟩ := hv
    generalize E.words.getD m.place.toNat 0 = v at *
    by_cases hle : v ≤ n
    · rw [if_pos hle]
      have HP := Lib.hid (fun (e : Ending) (w2 : World) (he : e = thrown 7 ∧ St x E wk w w2 { m with place := m.place + 1 } ad buf back pg) => DoPost.trap (T := False) (m := m) (m2 := { m with place := m.place + 1 }) (fun h => h) he.1 rfl rfl he.2)
      have hp0 := hp.1
      clear h hmo hlt
      generalize m.place = p at *
      refine Calls.mono ?_ HP.out
      go_enter Tryd.func104, Tryd.ntmps104
      go_wp2_with (go_at_call 73; refine HB.out.mono ?_; rintro e w1 ⟨rfl, h1⟩; have H1 := Lib.hid h1; clear h1)
      exact ⟨rfl, rfl, H1.out⟩
    · rw [if_neg hle]
      have hp0 : 0 ≤ m.place := hp.1
      by_cases hl2 : m.place + 1 + n < E.words.length
      · rw [wordAt_some ⟨by omega, hl2⟩]
        have HP := Lib.hid (fun (e : Ending) (w2 : World) (he : e = .returned (.tuple #[]) ∧ St x E wk w w2 { m with place := E.words.getD (m.place + 1 + n).toNat 0 } ad buf back pg) => DoPost.ok (m := m) (T := False) h0 he.1 he.2 rfl)
        have hu : isW (E.words.getD (m.place + 1 + n).toNat 0) := isW_getD hE.words _
        obtain ⟨u0, u1⟩ := hu
        have HW := Lib.hid (fun (w1 : World) (h1 : St x E wk w w1 { m with place := m.place + 1 } ad buf back pg) => (word_prog h1 hE.len (m.place + 1 + n) ⟨by omega, by omega⟩).mono (R' := fun e w2 => e = .returned (.int .u32 (E.words.getD (m.place + 1 + n).toNat 0)) ∧ w2 = w1) fun e w2 he => ⟨he.1 hl2, he.2.2⟩)
        have HC := Lib.hid (fun (w1 : World) (h1 : St x E wk w w1 { m with place := m.place + 1 } ad buf back pg) => (show w1.cell? ⟨x.bm, 19, none⟩ = some (.int .i64 (m.place + 1)) ∧ w1.frozen? ⟨x.bm, 19, none⟩ = false from h1.cell (k := 19) (by decide)))
        have HS := Lib.hid (fun (w1 : World) (h1 : St x E wk w w1 { m with place := m.place + 1 } ad buf back pg) => h1.setPlace (E.words.getD (m.place + 1 + n).toNat 0))
        have hp1 := hlt.2
        have hl3 := hE.len
        clear h hmo hlt hl2 hE
        generalize E.words.getD (m.place + 1 + n).toNat 0 = u at *
        generalize m.place = p at *
        refine Calls.mono ?_ HP.out
        go_enter Tryd.func104, Tryd.ntmps104
        go_wp2_with (first
          | (go_at_call 73; refine HB.out.mono ?_; rintro e w1 ⟨rfl, h1⟩; obtain ⟨c19, f19⟩ := HC.out w1 h1; have hlm := h1.lm; have H1 := Lib.hid h1; clear h1)
          | (go_at_call 102; refine (HW.out _ H1.out).mono ?_; rintro e w2 ⟨rfl, hw2⟩; have hw3 := hw2.symm; clear hw2; subst hw3))
        go_end0
        exact ⟨rfl, HS.out _ H1.out⟩
      · rw [wordAt_none (fun h => hl2 h.2)]
        have HP := Lib.hid (fun (e : Ending) (w2 : World) (he : e = thrown 5 ∧ St x E wk w w2 { m with place := m.place + 1 } ad buf back pg) => DoPost.trap (T := False) (m := m) (m2 := { m with place := m.place + 1 }) (fun h => h) he.1 rfl rfl he.2)
        have HW := Lib.hid (fun (w1 : World) (h1 : St x E wk w w1 { m with place := m.place + 1 } ad buf back pg) => (word_prog h1 hE.len (m.place + 1 + n) ⟨by omega, by omega⟩).mono (R' := fun e w2 => e = thrown 5 ∧ w2 = w1) fun e w2 he => ⟨he.2.1 hl2, he.2.2⟩)
        have HC := Lib.hid (fun (w1 : World) (h1 : St x E wk w w1 { m with place := m.place + 1 } ad buf back pg) => (show w1.cell? ⟨x.bm, 19, none⟩ = some (.int .i64 (m.place + 1)) ∧ w1.frozen? ⟨x.bm, 19, none⟩ = false from h1.cell (k := 19) (by decide)))
        have hp1 := hlt.2
        have hl3 := hE.len
        clear h hmo hlt hl2 hE
        generalize m.place = p at *
        refine Calls.mono ?_ HP.out
        go_enter Tryd.func104, Tryd.ntmps104
        go_wp2_with (first
          | (go_at_call 73; refine HB.out.mono ?_; rintro e w1 ⟨rfl, h1⟩; obtain ⟨c19, f19⟩ := HC.out w1 h1; have hlm := h1.lm; have H1 := Lib.hid h1; clear h1)
          | (go_at_call 102; refine (HW.out _ H1.out).mono ?_; rintro e w2 ⟨rfl, hw2⟩; have hw3 := hw2.symm; clear hw2; subst hw3))
        exact ⟨rfl, rfl, H1.out⟩
  · have hmo : tableP E m n = trap m 5 := by unfold tableP; rw [wordAt_none hlt]
    rw [hmo]
    have HB := Lib.hid (behind_no h hE.len ⟨by omega, by omega⟩ hlt)
    have HP := Lib.hid (fun (e : Ending) (w2 : World) (he : e = thrown 5 ∧ St x E wk w w2 m ad buf back pg) => DoPost.trap (T := False) (m := m) (m2 := m) (fun h => h) he.1 rfl rfl he.2)
    have HH := Lib.hid h
    clear h hmo hlt
    refine Calls.mono ?_ HP.out
    go_enter Tryd.func104, Tryd.ntmps104
    go_wp2_with (go_at_call 73; refine HB.out.mono ?_; rintro e w1 ⟨rfl, hw2⟩; have hw3 := hw2.symm; clear hw2; subst hw3)
    exact ⟨rfl, rfl, HH.out⟩
end
end Go.Proofs.YtjbiikbmbacjkaaDoor.Emu
