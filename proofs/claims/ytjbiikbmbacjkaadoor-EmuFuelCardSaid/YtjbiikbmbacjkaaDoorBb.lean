/- The machine's small functions: halt, stands, word, behind, getc. No condition. -/
import Derived.Test.YtjbiikbmbacjkaaDoorBa
import Derived.Laws.Slices
namespace Go.Proofs.YtjbiikbmbacjkaaDoor.Emu
open Go.RowKit Go.Proofs.YtjbiikbmbacjkaaDoor.Enc Go.Proofs.YtjbiikbmbacjkaaDoor.Graph

/-- What is thrown. -/
abbrev thrown (n : Int) : Ending := .panicked [{ v := .iface 118 (.int .u32 n), recovered := false }]
section
variable {x : Fz} {E : Env} {wk : Nat → Value} {w w' : World} {m : M} {ad buf back : Value} {pg : Nat → Option Nat}
set_option maxHeartbeats 4000000 in
set_option maxRecDepth 100000 in
theorem halt_prog (h : St x E wk w w' m ad buf back pg) (s c : Int) :
    Calls Tryd.prog 35 #[.pointer (some ⟨x.bm, 0, none⟩), .int .i64 s, .int .u32 c] w' fun e w2 => e = .returned (.tuple #[]) ∧ St x E wk w w2 { m with stop := s, code := c } ad buf back pg := by
  have H0 := Lib.hid h
  have H1 := Lib.hid (h.setStop s)
  obtain ⟨c21, f21⟩ := h.cell (k := 21) (by decide)
  obtain ⟨c22, f22⟩ := h.cell (k := 22) (by decide)
  change _ = some (Value.int .i64 m.stop) at c21
  change _ = some (Value.int .u32 m.code) at c22
  clear h
  go_enter Tryd.func35, Tryd.ntmps35
  go_wp2
  go_end0
  exact ⟨rfl, H1.out.setCode c⟩
set_option maxHeartbeats 4000000 in
set_option maxRecDepth 100000 in
theorem stands_prog (h : St x E wk w w' m ad buf back pg) (hE : E.words.length ≤ 65536) (p : Int) (_hp : 0 ≤ p ∧ p < 18446744073709551616) :
    Calls Tryd.prog 81 #[.pointer (some ⟨x.bm, 0, none⟩), .int .u64 p] w' fun e w2 => e = .returned (.bool (decide (p < E.words.length))) ∧ w2 = w' := by
  obtain ⟨c0, f0⟩ := h.cell (k := 0) (by decide)
  change _ = some x.vw at c0
  have hw := h.words
  obtain ⟨p0, n0, k0, hvw, hn⟩ : ∃ p0 n0 k0, x.vw = .slice p0 n0 k0 ∧ n0 = E.words.length := by
    rcases hw with ⟨h1, pp, cc, h2⟩ | ⟨b, o, cc, h2, _⟩
    · exact ⟨pp, _, cc, h2, h1.symm⟩
    · exact ⟨_, _, cc, h2, rfl⟩
  rw [hvw] at c0
  clear h hw hvw
  subst hn
  have i0 : ((E.words.length : Nat) : Int) % 18446744073709551616 = E.words.length := by omega
  go_enter Tryd.func81, Tryd.ntmps81
  go_wp2
  go_ret
  exact ⟨rfl, rfl⟩
/-- The word at a place, or the trap. -/
def WordPost (E : Env) (p : Int) (w : World) (e : Ending) (w' : World) : Prop :=
  (p < E.words.length → e = .returned (.int .u32 (E.words.getD p.toNat 0))) ∧ (¬ p < E.words.length → e = thrown 5) ∧ w' = w
set_option maxHeartbeats 4000000 in
set_option maxRecDepth 100000 in
theorem word_prog (h : St x E wk w w' m ad buf back pg) (hE : E.words.length ≤ 65536) (p : Int) (hp : 0 ≤ p ∧ p < 18446744073709551616) :
    Calls Tryd.prog 102 #[.pointer (some ⟨x.bm, 0, none⟩), .int .u64 p] w' (WordPost E p w') := by
  have HS := Lib.hid (stands_prog h hE p hp)
  obtain ⟨c0, f0⟩ := h.cell (k := 0) (by decide)
  change _ = some x.vw at c0
  have hw := h.wds
  by_cases hlt : p < E.words.length
  · obtain ⟨b, o, c, hvw, hc, hb, hat⟩ := SlR.form2 hw (by omega)
    have hx : E.words[p.toNat]? = some (E.words.getD p.toNat 0) := by
      rw [List.getD_eq_getElem?_getD, List.getElem?_eq_getElem (by omega)]; rfl
    have cw := hat p.toNat (by omega) _ hx
    rw [Nat.mul_one] at cw
    rw [hvw] at c0
    have i0 : (decide (p < (E.words.length : Int))) = true := by simp [hlt]
    rw [i0] at HS
    have HP := Lib.hid (show ∀ e w2, (e = Ending.returned (.int .u32 (E.words.getD p.toNat 0)) ∧ w2 = w') → WordPost E p w' e w2 from fun e w2 he => ⟨fun _ => he.1, fun hn => absurd hlt hn, he.2⟩)
    have i1 := hp.1
    generalize E.words.getD p.toNat 0 = u at *
    clear h hw hvw hat hx
    refine Calls.mono ?_ HP.out
    go_enter Tryd.func102, Tryd.ntmps102
    go_wp2_with (go_at_call 81; refine HS.out.mono ?_; rintro e w1 ⟨rfl, rfl⟩)
    go_ret
    exact ⟨rfl, rfl⟩
  · have i0 : (decide (p < (E.words.length : Int))) = false := by simp [hlt]
    rw [i0] at HS
    have HP := Lib.hid (show ∀ e w2, (e = thrown 5 ∧ w2 = w') → WordPost E p w' e w2 from fun e w2 he => ⟨fun hn => absurd hn hlt, fun _ => he.1, he.2⟩)
    clear h hw hlt
    refine Calls.mono ?_ HP.out
    go_enter Tryd.func102, Tryd.ntmps102
    go_wp2_with (go_at_call 81; refine HS.out.mono ?_; rintro e w1 ⟨rfl, rfl⟩)
    exact ⟨rfl, rfl, rfl⟩
end
end Go.Proofs.YtjbiikbmbacjkaaDoor.Emu
