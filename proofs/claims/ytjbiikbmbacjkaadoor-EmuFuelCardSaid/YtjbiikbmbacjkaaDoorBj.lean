/- The next instruction. No condition. -/
import Derived.Test.YtjbiikbmbacjkaaDoorBh
namespace Go.Proofs.YtjbiikbmbacjkaaDoor.Emu
open Go.RowKit Go.Proofs.YtjbiikbmbacjkaaDoor.Enc Go.Proofs.YtjbiikbmbacjkaaDoor.Graph

/-- A block of which the machine knows nothing. -/
structure Free (x : Fz) (buf back : Value) (pg : Nat → Option Nat) (g : Nat) : Prop where
  z : x.Z ≤ g
  bm : g ≠ x.bm
  mm : g ≠ x.mm
  lb : g ≠ x.lb
  pg : ∀ i, i < 128 → pg i ≠ some g
  back : back.ownBlock ≠ some g
  buf : buf.ownBlock ≠ some g
  pb : g ≠ x.pb
section
variable {x : Fz} {E : Env} {wk : Nat → Value} {w w' w2 : World} {m : M} {ad buf back : Value} {pg : Nat → Option Nat}
theorem St.free (h : St x E wk w w' m ad buf back pg) {g : Nat} (hg : w'.heap.size ≤ g) : Free x buf back pg g := by
  have h1 := h.lm
  have h2 := h.lmm
  have h3 := h.llb
  have h4 := h.ok.zb
  have h5 := h.lpb
  refine ⟨by omega, by omega, by omega, by omega, fun i hi e => ?_, fun e => ?_, fun e => ?_, by omega⟩
  · have := h.mem.lt hi e; omega
  · have := (h.backR.lt g e).2; omega
  · have := (h.bufR.lt g e).2; omega
theorem St.other (h : St x E wk w w' m ad buf back pg) {g : Nat} (hf : Free x buf back pg g) (k : Nat) (v : Value) : St x E wk w (w'.setCell ⟨g, k, none⟩ v) m ad buf back pg := by
  obtain ⟨cs, k1, k2⟩ := h.mach
  obtain ⟨ls, k3, k4⟩ := h.list
  have hne : ∀ b, b ≠ g → (w'.setCell ⟨g, k, none⟩ v).heap[b]? = w'.heap[b]? := fun b hb => heap_setCell_other w' ⟨g, k, none⟩ b v hb
  refine ⟨h.ok, h.below.setCell (p := ⟨g, k, none⟩) hf.z v, by simpa using h.size, ⟨cs, (hne _ hf.bm.symm).trans k1, k2⟩, h.words, h.wz, ⟨ls, (hne _ hf.lb.symm).trans k3, k4⟩, ?_, ?_, ?_, h.ads, h.bb, h.pz, h.nul, (hne _ hf.pb.symm).trans h.box, h.pzb⟩
  · exact h.mem.same (hne _ hf.mm.symm) (fun i g' hi hg => hne g' (fun e => hf.pg i hi (by rw [hg, e])))
  · exact own_same h.backR (fun b hb => hne b (fun e => hf.back (by rw [hb, e])))
  · exact own_same h.bufR (fun b hb => hne b (fun e => hf.buf (by rw [hb, e])))
abbrev iV (c : PC) : Value := .agg #[.int .u8 c.op, .int .u8 c.a, .int .u8 c.b, .int .i32 c.imm]
def NextPost (x : Fz) (E : Env) (wk : Nat → Value) (w : World) (m : M) (ad buf back : Value) (pg : Nat → Option Nat) (e : Ending) (w2 : World) : Prop :=
  ((0 ≤ m.place ∧ m.place < E.words.length) ∧ e = .returned (iV (insP (E.words.getD m.place.toNat 0))) ∧ St x E wk w w2 { m with place := m.place + 1 } ad buf back pg) ∨
  (¬ (0 ≤ m.place ∧ m.place < E.words.length) ∧ e = thrown 5 ∧ St x E wk w w2 m ad buf back pg)
set_option maxHeartbeats 4000000 in
set_option maxRecDepth 100000 in
theorem next_prog (h : St x E wk w w' m ad buf back pg) (hE : E.words.length ≤ 65536) (hp : -4611686018427387904 ≤ m.place ∧ m.place < 4611686018427387904) :
    Calls Tryd.prog 38 #[.pointer (some ⟨x.bm, 0, none⟩)] w' (NextPost x E wk w m ad buf back pg) := by
  have HS := Lib.hid (fun o => stands_prog (h.alloc o) hE (u64 m.place) (by unfold u64; omega))
  have hu := u64_lt hE ⟨by omega, by omega⟩ (p := m.place)
  have hlb := h.lm
  have hll := h.llb
  have HF := Lib.hid (h.free (Nat.le_refl _))
  obtain ⟨c19, f19⟩ := h.cell (k := 19) (by decide)
  change _ = some (Value.int .i64 m.place) at c19
  obtain ⟨c1, f1⟩ := h.cell (k := 1) (by decide)
  change _ = some (Value.slice (some ⟨x.lb, 0, none⟩) E.words.length E.words.length) at c1
  obtain ⟨ls, k3, k4⟩ := h.list
  have HH := Lib.hid h
  by_cases hlt : 0 ≤ m.place ∧ m.place < E.words.length
  · have h6 : IntKind.i64.wrap (m.place + 1) = m.place + 1 := by rw [IntKind.wrap_i64]; omega
    obtain ⟨q0, q1, q2, q3⟩ := k4 m.place.toNat (by omega)
    have l0 := (cell_of_block k3 q0).1
    have l1 := (cell_of_block k3 q1).1
    have l2 := (cell_of_block k3 q2).1
    have l3 := (cell_of_block k3 q3).1
    rw [Nat.mul_comm] at l0 l1 l2 l3
    have HP := Lib.hid (show ∀ e w2, (e = Ending.returned (iV (insP (E.words.getD m.place.toNat 0))) ∧ St x E wk w w2 { m with place := m.place + 1 } ad buf back pg) → NextPost x E wk w m ad buf back pg e w2 from fun e w2 he => .inl ⟨hlt, he⟩)
    have i0 : u64 m.place = m.place := by unfold u64; omega
    have i1 : (decide (u64 m.place < (E.words.length : Int))) = true := by simp [hu.2 hlt]
    rw [i1, i0] at HS
    have b0 := hlt.1
    have b1 := hlt.2
    generalize insP (E.words.getD m.place.toNat 0) = c at *
    generalize m.place = p at *
    clear h hu i0 hlt k3 k4 q0 q1 q2 q3 i1
    refine Calls.mono ?_ HP.out
    go_enter Tryd.func38, Tryd.ntmps38
    go_wp2_with (go_at_call 81; refine (HS.out _).mono ?_; rintro e w1 ⟨rfl, rfl⟩)
    go_region
    all_goals
      go_wp2
      refine bodyPost_ret (v := iV c) (by simp [results, Tryd.results38, go_sem]) rfl ⟨rfl, ?_⟩
      repeat' first | exact HH.out.setPlace _ | apply St.alloc | apply St.drew
  · have HP := Lib.hid (show ∀ e w2, (e = thrown 5 ∧ St x E wk w w2 m ad buf back pg) → NextPost x E wk w m ad buf back pg e w2 from fun e w2 he => .inr ⟨hlt, he⟩)
    have i0 : u64 m.place = m.place % 18446744073709551616 := rfl
    have i1 : (decide (u64 m.place < (E.words.length : Int))) = false := by simp only [decide_eq_false_iff_not]; exact fun h => hlt (hu.1 h)
    rw [i1, i0] at HS
    generalize m.place = p at *
    clear h hu i0 hlt k3 k4 i1
    refine Calls.mono ?_ HP.out
    go_enter Tryd.func38, Tryd.ntmps38
    go_wp2_with (go_at_call 81; refine (HS.out _).mono ?_; rintro e w1 ⟨rfl, rfl⟩)
    exact ⟨rfl, rfl, HH.out.alloc _⟩
end
end Go.Proofs.YtjbiikbmbacjkaaDoor.Emu
