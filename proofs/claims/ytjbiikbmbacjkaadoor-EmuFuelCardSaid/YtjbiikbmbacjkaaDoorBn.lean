/- Returns; all that leads elsewhere, at once. No condition. -/
import Derived.Test.YtjbiikbmbacjkaaDoorBm
namespace Go.Proofs.YtjbiikbmbacjkaaDoor.Emu
open Go.RowKit Go.Proofs.YtjbiikbmbacjkaaDoor.Enc Go.Proofs.YtjbiikbmbacjkaaDoor.Graph

theorem lt_of_cellE {w : World} {g k : Nat} {v : Value} (h : w.cell? ⟨g, k, none⟩ = some v) : g < w.heap.size := World.block_lt_of_cell? w _ h
section
variable {x : Fz} {E : Env} {wk : Nat → Value} {w w' w1 w2 : World} {m : M} {ad buf back : Value} {pg : Nat → Option Nat}
set_option maxHeartbeats 4000000 in
set_option maxRecDepth 100000 in
theorem jump44 (h : St x E wk w w' m ad buf back pg) (h0 : m.stop = 0) (hI : Inv m) (a b imm : Int) :
    Calls Tryd.prog 78 #[.pointer (some ⟨x.bm, 0, none⟩), iV ⟨44, a, b, imm⟩] w' (DoPost x E wk w m (doStep E m ⟨44, a, b, imm⟩) False) := by
  have hmo : doStep E m ⟨44, a, b, imm⟩ = match m.calls.getLast? with | none => trap m 8 | some p => { m with place := p, calls := m.calls.dropLast } := by simp [doStep, plainStep, goesStep, followsP]; cases m.calls.getLast? <;> rfl
  rw [hmo]
  have HH := Lib.hid h
  obtain ⟨c18, f18⟩ := h.cell (k := 18) (by decide)
  change _ = some back at c18
  obtain ⟨c19, f19⟩ := h.cell (k := 19) (by decide)
  change _ = some (Value.int .i64 m.place) at c19
  have hlm := h.lm
  rcases List.eq_nil_or_concat m.calls with hm | ⟨l, p, hm⟩
  · rw [hm]
    obtain ⟨bp, bc, rfl⟩ := h.backForm
    have hn : m.calls.length = 0 := by rw [hm]; rfl
    rw [hn] at c18
    have HP := Lib.hid (fun (e : Ending) (w2 : World) (he : e = thrown 8 ∧ St x E wk w w2 m ad buf (.slice bp m.calls.length bc) pg) => DoPost.trap (T := False) (m := m) (m2 := m) (fun h => h) he.1 rfl rfl he.2)
    clear h hmo hn hm
    refine Calls.mono ?_ HP.out
    go_enter Tryd.func78, Tryd.ntmps78
    go_wp2
    exact ⟨rfl, rfl, HH.out.alloc _⟩
  · rw [List.concat_eq_append] at hm
    obtain ⟨g, c, hb, hc, cg, hgm, _⟩ := h.top hm
    have hl : l.length + 1 ≤ 50 := by have := hI.cl; rw [hm] at this; simpa using this
    obtain ⟨g', c', hb', _, _, _, hst⟩ := (h.setPlace p).top (l := l) (p := p) hm
    obtain ⟨rfl, rfl⟩ : g' = g ∧ c' = c := by rw [hb] at hb'; simp at hb'; exact ⟨hb'.1.symm, hb'.2.symm⟩
    have HT := Lib.hid hst
    clear hst hb'
    have e1 : m.calls.getLast? = some p := by rw [hm]; simp
    have e2 : m.calls.dropLast = l := by rw [hm]; simp
    rw [e1, e2]
    simp only
    have hg := lt_of_cellE cg
    subst hb
    have HP := Lib.hid (fun (e : Ending) (w2 : World) (he : e = .returned (.tuple #[]) ∧ ∃ c', St x E wk w w2 { m with place := p, calls := l } ad buf c' pg) => (he.2.elim fun _ h2 => DoPost.ok (m := m) (T := False) h0 he.1 h2 rfl : DoPost x E wk w m { m with place := p, calls := l } False e w2))
    clear h hmo hm e1 e2 hI h0
    generalize l.length = n at *
    generalize m.place = q at *
    refine Calls.mono ?_ HP.out
    go_enter Tryd.func78, Tryd.ntmps78
    go_wp2
    go_end0
    exact ⟨rfl, _, HT.out.alloc _⟩
theorem jump_prog (h : St x E wk w w' m ad buf back pg) (h0 : m.stop = 0) (hI : Inv m) (hE : EnvOk E) (hp : 0 ≤ m.place ∧ m.place ≤ 65536) (c : PC) (hc : Within c) (ho : 40 ≤ c.op ∧ c.op ≤ 44) :
    Calls Tryd.prog 78 #[.pointer (some ⟨x.bm, 0, none⟩), iV c] w' (DoPost x E wk w m (doStep E m c) False) := by
  obtain ⟨op, a, b, imm⟩ := c
  obtain ⟨_, ha, _, hi⟩ := hc
  simp only at ho ha hi
  obtain rfl | rfl | rfl | rfl | rfl : op = 40 ∨ op = 41 ∨ op = 42 ∨ op = 43 ∨ op = 44 := by omega
  · exact jump40 h h0 ⟨by omega, by omega⟩ a b imm hi
  · exact jump41 h h0 hE hp a b imm
  · obtain ⟨k, rfl⟩ := Int.eq_ofNat_of_zero_le ha.1
    exact jump42 h h0 hI hE hp k b imm (by omega)
  · exact jump43 h h0 hI hE hp a b imm
  · exact jump44 h h0 hI a b imm
end
end Go.Proofs.YtjbiikbmbacjkaaDoor.Emu
