/- The document's machine: which instructions go on, at once. No condition. -/
import Derived.Test.YtopceggmdieppaaDoorKB
import Derived.Test.YtopceggmdieppaaDoorKC
import Derived.Test.YtopceggmdieppaaDoorKD
import Derived.Test.YtopceggmdieppaaDoorKE
import Derived.Test.YtopceggmdieppaaDoorBq
namespace Go.Proofs.YtopceggmdieppaaDoor.Emu
open Go.RowKit Go.Proofs.YtopceggmdieppaaDoor.Enc Go.Proofs.YtopceggmdieppaaDoor.Graph

section
variable {x : Dz} {E : Env} {w w' w1 w2 : World} {m : M} {back buf : Value}
set_option maxHeartbeats 4000000 in
set_option maxRecDepth 100000 in
theorem pn2 (h : Sd x E w w' m back buf) (a b : Nat) (hb : b < 12) (imm : Int) :
    Calls Tryd.prog 74 #[.pointer (some ⟨x.bm, 0, none⟩), cV ⟨2, a, b, imm⟩] w' fun e w2 => e = .returned (.bool false) ∧ Sd x E w w2 m back buf ∧ Below w'.heap.size w' w2 := by
  obtain ⟨cb, fb⟩ := h.cell (k := 1 + b) (by omega)
  rw [dcell_reg _ _ _ _ _ hb] at cb
  have hlm := h.lm
  have hb2 : (b : Int) < 12 := by omega
  have HH := Lib.hid h
  clear h
  generalize m.r.getD b 0 = vb at *
  go_enter Tryd.func74, Tryd.ntmps74
  go_wp2
  go_quiet (fail)
  go_wp2
  go_ret
  exact ⟨rfl, by repeat' first | exact HH.out | apply Sd.alloc | apply Sd.drewN | apply Sd.drew, (below_one w' _).trans ⟨rfl, rfl, rfl, Nat.le_refl _, fun _ _ => rfl⟩⟩
set_option maxHeartbeats 4000000 in
set_option maxRecDepth 100000 in
theorem pn30 (h : Sd x E w w' m back buf) (a b : Nat) (hb : b < 12) (imm : Int) :
    Calls Tryd.prog 74 #[.pointer (some ⟨x.bm, 0, none⟩), cV ⟨30, a, b, imm⟩] w' fun e w2 => e = .returned (.bool false) ∧ Sd x E w w2 m back buf ∧ Below w'.heap.size w' w2 := by
  obtain ⟨cb, fb⟩ := h.cell (k := 1 + b) (by omega)
  rw [dcell_reg _ _ _ _ _ hb] at cb
  have hlm := h.lm
  have hb2 : (b : Int) < 12 := by omega
  have HH := Lib.hid h
  clear h
  generalize m.r.getD b 0 = vb at *
  go_enter Tryd.func74, Tryd.ntmps74
  go_wp2
  go_quiet (fail)
  go_wp2
  go_ret
  exact ⟨rfl, by repeat' first | exact HH.out | apply Sd.alloc | apply Sd.drewN | apply Sd.drew, (below_one w' _).trans ⟨rfl, rfl, rfl, Nat.le_refl _, fun _ _ => rfl⟩⟩
set_option maxHeartbeats 4000000 in
set_option maxRecDepth 100000 in
theorem pn31 (h : Sd x E w w' m back buf) (a b : Nat) (hb : b < 12) (imm : Int) :
    Calls Tryd.prog 74 #[.pointer (some ⟨x.bm, 0, none⟩), cV ⟨31, a, b, imm⟩] w' fun e w2 => e = .returned (.bool false) ∧ Sd x E w w2 m back buf ∧ Below w'.heap.size w' w2 := by
  obtain ⟨cb, fb⟩ := h.cell (k := 1 + b) (by omega)
  rw [dcell_reg _ _ _ _ _ hb] at cb
  have hlm := h.lm
  have hb2 : (b : Int) < 12 := by omega
  have HH := Lib.hid h
  clear h
  generalize m.r.getD b 0 = vb at *
  go_enter Tryd.func74, Tryd.ntmps74
  go_wp2
  go_quiet (fail)
  go_wp2
  go_ret
  exact ⟨rfl, by repeat' first | exact HH.out | apply Sd.alloc | apply Sd.drewN | apply Sd.drew, (below_one w' _).trans ⟨rfl, rfl, rfl, Nat.le_refl _, fun _ _ => rfl⟩⟩
set_option maxHeartbeats 4000000 in
set_option maxRecDepth 100000 in
theorem pn32 (h : Sd x E w w' m back buf) (a b : Nat) (hb : b < 12) (imm : Int) :
    Calls Tryd.prog 74 #[.pointer (some ⟨x.bm, 0, none⟩), cV ⟨32, a, b, imm⟩] w' fun e w2 => e = .returned (.bool false) ∧ Sd x E w w2 m back buf ∧ Below w'.heap.size w' w2 := by
  obtain ⟨cb, fb⟩ := h.cell (k := 1 + b) (by omega)
  rw [dcell_reg _ _ _ _ _ hb] at cb
  have hlm := h.lm
  have hb2 : (b : Int) < 12 := by omega
  have HH := Lib.hid h
  clear h
  generalize m.r.getD b 0 = vb at *
  go_enter Tryd.func74, Tryd.ntmps74
  go_wp2
  go_quiet (fail)
  go_wp2
  go_ret
  exact ⟨rfl, by repeat' first | exact HH.out | apply Sd.alloc | apply Sd.drewN | apply Sd.drew, (below_one w' _).trans ⟨rfl, rfl, rfl, Nat.le_refl _, fun _ _ => rfl⟩⟩
set_option maxHeartbeats 4000000 in
set_option maxRecDepth 100000 in
theorem pn33 (h : Sd x E w w' m back buf) (a b : Nat) (hb : b < 12) (imm : Int) :
    Calls Tryd.prog 74 #[.pointer (some ⟨x.bm, 0, none⟩), cV ⟨33, a, b, imm⟩] w' fun e w2 => e = .returned (.bool false) ∧ Sd x E w w2 m back buf ∧ Below w'.heap.size w' w2 := by
  obtain ⟨cb, fb⟩ := h.cell (k := 1 + b) (by omega)
  rw [dcell_reg _ _ _ _ _ hb] at cb
  have hlm := h.lm
  have hb2 : (b : Int) < 12 := by omega
  have HH := Lib.hid h
  clear h
  generalize m.r.getD b 0 = vb at *
  go_enter Tryd.func74, Tryd.ntmps74
  go_wp2
  go_quiet (fail)
  go_wp2
  go_ret
  exact ⟨rfl, by repeat' first | exact HH.out | apply Sd.alloc | apply Sd.drewN | apply Sd.drew, (below_one w' _).trans ⟨rfl, rfl, rfl, Nat.le_refl _, fun _ _ => rfl⟩⟩
set_option maxHeartbeats 4000000 in
set_option maxRecDepth 100000 in
theorem pn34 (h : Sd x E w w' m back buf) (a b : Nat) (hb : b < 12) (imm : Int) :
    Calls Tryd.prog 74 #[.pointer (some ⟨x.bm, 0, none⟩), cV ⟨34, a, b, imm⟩] w' fun e w2 => e = .returned (.bool false) ∧ Sd x E w w2 m back buf ∧ Below w'.heap.size w' w2 := by
  obtain ⟨cb, fb⟩ := h.cell (k := 1 + b) (by omega)
  rw [dcell_reg _ _ _ _ _ hb] at cb
  have hlm := h.lm
  have hb2 : (b : Int) < 12 := by omega
  have HH := Lib.hid h
  clear h
  generalize m.r.getD b 0 = vb at *
  go_enter Tryd.func74, Tryd.ntmps74
  go_wp2
  go_quiet (fail)
  go_wp2
  go_ret
  exact ⟨rfl, by repeat' first | exact HH.out | apply Sd.alloc | apply Sd.drewN | apply Sd.drew, (below_one w' _).trans ⟨rfl, rfl, rfl, Nat.le_refl _, fun _ _ => rfl⟩⟩
set_option maxHeartbeats 4000000 in
set_option maxRecDepth 100000 in
theorem pn35 (h : Sd x E w w' m back buf) (a b : Nat) (hb : b < 12) (imm : Int) :
    Calls Tryd.prog 74 #[.pointer (some ⟨x.bm, 0, none⟩), cV ⟨35, a, b, imm⟩] w' fun e w2 => e = .returned (.bool false) ∧ Sd x E w w2 m back buf ∧ Below w'.heap.size w' w2 := by
  obtain ⟨cb, fb⟩ := h.cell (k := 1 + b) (by omega)
  rw [dcell_reg _ _ _ _ _ hb] at cb
  have hlm := h.lm
  have hb2 : (b : Int) < 12 := by omega
  have HH := Lib.hid h
  clear h
  generalize m.r.getD b 0 = vb at *
  go_enter Tryd.func74, Tryd.ntmps74
  go_wp2
  go_quiet (fail)
  go_wp2
  go_ret
  exact ⟨rfl, by repeat' first | exact HH.out | apply Sd.alloc | apply Sd.drewN | apply Sd.drew, (below_one w' _).trans ⟨rfl, rfl, rfl, Nat.le_refl _, fun _ _ => rfl⟩⟩
set_option maxHeartbeats 4000000 in
set_option maxRecDepth 100000 in
theorem pn36 (h : Sd x E w w' m back buf) (a b : Nat) (hb : b < 12) (imm : Int) :
    Calls Tryd.prog 74 #[.pointer (some ⟨x.bm, 0, none⟩), cV ⟨36, a, b, imm⟩] w' fun e w2 => e = .returned (.bool false) ∧ Sd x E w w2 m back buf ∧ Below w'.heap.size w' w2 := by
  obtain ⟨cb, fb⟩ := h.cell (k := 1 + b) (by omega)
  rw [dcell_reg _ _ _ _ _ hb] at cb
  have hlm := h.lm
  have hb2 : (b : Int) < 12 := by omega
  have HH := Lib.hid h
  clear h
  generalize m.r.getD b 0 = vb at *
  go_enter Tryd.func74, Tryd.ntmps74
  go_wp2
  go_quiet (fail)
  go_wp2
  go_ret
  exact ⟨rfl, by repeat' first | exact HH.out | apply Sd.alloc | apply Sd.drewN | apply Sd.drew, (below_one w' _).trans ⟨rfl, rfl, rfl, Nat.le_refl _, fun _ _ => rfl⟩⟩
set_option maxHeartbeats 4000000 in
set_option maxRecDepth 100000 in
theorem pn37 (h : Sd x E w w' m back buf) (a b : Nat) (hb : b < 12) (imm : Int) :
    Calls Tryd.prog 74 #[.pointer (some ⟨x.bm, 0, none⟩), cV ⟨37, a, b, imm⟩] w' fun e w2 => e = .returned (.bool false) ∧ Sd x E w w2 m back buf ∧ Below w'.heap.size w' w2 := by
  obtain ⟨cb, fb⟩ := h.cell (k := 1 + b) (by omega)
  rw [dcell_reg _ _ _ _ _ hb] at cb
  have hlm := h.lm
  have hb2 : (b : Int) < 12 := by omega
  have HH := Lib.hid h
  clear h
  generalize m.r.getD b 0 = vb at *
  go_enter Tryd.func74, Tryd.ntmps74
  go_wp2
  go_quiet (fail)
  go_wp2
  go_ret
  exact ⟨rfl, by repeat' first | exact HH.out | apply Sd.alloc | apply Sd.drewN | apply Sd.drew, (below_one w' _).trans ⟨rfl, rfl, rfl, Nat.le_refl _, fun _ _ => rfl⟩⟩
set_option maxHeartbeats 4000000 in
set_option maxRecDepth 100000 in
theorem pn38 (h : Sd x E w w' m back buf) (a b : Nat) (hb : b < 12) (imm : Int) :
    Calls Tryd.prog 74 #[.pointer (some ⟨x.bm, 0, none⟩), cV ⟨38, a, b, imm⟩] w' fun e w2 => e = .returned (.bool false) ∧ Sd x E w w2 m back buf ∧ Below w'.heap.size w' w2 := by
  obtain ⟨cb, fb⟩ := h.cell (k := 1 + b) (by omega)
  rw [dcell_reg _ _ _ _ _ hb] at cb
  have hlm := h.lm
  have hb2 : (b : Int) < 12 := by omega
  have HH := Lib.hid h
  clear h
  generalize m.r.getD b 0 = vb at *
  go_enter Tryd.func74, Tryd.ntmps74
  go_wp2
  go_quiet (fail)
  go_wp2
  go_ret
  exact ⟨rfl, by repeat' first | exact HH.out | apply Sd.alloc | apply Sd.drewN | apply Sd.drew, (below_one w' _).trans ⟨rfl, rfl, rfl, Nat.le_refl _, fun _ _ => rfl⟩⟩
set_option maxHeartbeats 4000000 in
set_option maxRecDepth 100000 in
theorem pn39 (h : Sd x E w w' m back buf) (a b : Nat) (hb : b < 12) (imm : Int) :
    Calls Tryd.prog 74 #[.pointer (some ⟨x.bm, 0, none⟩), cV ⟨39, a, b, imm⟩] w' fun e w2 => e = .returned (.bool false) ∧ Sd x E w w2 m back buf ∧ Below w'.heap.size w' w2 := by
  obtain ⟨cb, fb⟩ := h.cell (k := 1 + b) (by omega)
  rw [dcell_reg _ _ _ _ _ hb] at cb
  have hlm := h.lm
  have hb2 : (b : Int) < 12 := by omega
  have HH := Lib.hid h
  clear h
  generalize m.r.getD b 0 = vb at *
  go_enter Tryd.func74, Tryd.ntmps74
  go_wp2
  go_quiet (fail)
  go_wp2
  go_ret
  exact ⟨rfl, by repeat' first | exact HH.out | apply Sd.alloc | apply Sd.drewN | apply Sd.drew, (below_one w' _).trans ⟨rfl, rfl, rfl, Nat.le_refl _, fun _ _ => rfl⟩⟩
set_option maxHeartbeats 4000000 in
set_option maxRecDepth 100000 in
theorem pn40 (h : Sd x E w w' m back buf) (a b : Nat) (hb : b < 12) (imm : Int) :
    Calls Tryd.prog 74 #[.pointer (some ⟨x.bm, 0, none⟩), cV ⟨40, a, b, imm⟩] w' fun e w2 => e = .returned (.bool false) ∧ Sd x E w w2 m back buf ∧ Below w'.heap.size w' w2 := by
  obtain ⟨cb, fb⟩ := h.cell (k := 1 + b) (by omega)
  rw [dcell_reg _ _ _ _ _ hb] at cb
  have hlm := h.lm
  have hb2 : (b : Int) < 12 := by omega
  have HH := Lib.hid h
  clear h
  generalize m.r.getD b 0 = vb at *
  go_enter Tryd.func74, Tryd.ntmps74
  go_wp2
  go_quiet (fail)
  go_wp2
  go_ret
  exact ⟨rfl, by repeat' first | exact HH.out | apply Sd.alloc | apply Sd.drewN | apply Sd.drew, (below_one w' _).trans ⟨rfl, rfl, rfl, Nat.le_refl _, fun _ _ => rfl⟩⟩
set_option maxHeartbeats 4000000 in
set_option maxRecDepth 100000 in
theorem pn41 (h : Sd x E w w' m back buf) (a b : Nat) (hb : b < 12) (imm : Int) :
    Calls Tryd.prog 74 #[.pointer (some ⟨x.bm, 0, none⟩), cV ⟨41, a, b, imm⟩] w' fun e w2 => e = .returned (.bool false) ∧ Sd x E w w2 m back buf ∧ Below w'.heap.size w' w2 := by
  obtain ⟨cb, fb⟩ := h.cell (k := 1 + b) (by omega)
  rw [dcell_reg _ _ _ _ _ hb] at cb
  have hlm := h.lm
  have hb2 : (b : Int) < 12 := by omega
  have HH := Lib.hid h
  clear h
  generalize m.r.getD b 0 = vb at *
  go_enter Tryd.func74, Tryd.ntmps74
  go_wp2
  go_quiet (fail)
  go_wp2
  go_ret
  exact ⟨rfl, by repeat' first | exact HH.out | apply Sd.alloc | apply Sd.drewN | apply Sd.drew, (below_one w' _).trans ⟨rfl, rfl, rfl, Nat.le_refl _, fun _ _ => rfl⟩⟩
set_option maxHeartbeats 4000000 in
set_option maxRecDepth 100000 in
theorem pn42 (h : Sd x E w w' m back buf) (a b : Nat) (hb : b < 12) (imm : Int) :
    Calls Tryd.prog 74 #[.pointer (some ⟨x.bm, 0, none⟩), cV ⟨42, a, b, imm⟩] w' fun e w2 => e = .returned (.bool false) ∧ Sd x E w w2 m back buf ∧ Below w'.heap.size w' w2 := by
  obtain ⟨cb, fb⟩ := h.cell (k := 1 + b) (by omega)
  rw [dcell_reg _ _ _ _ _ hb] at cb
  have hlm := h.lm
  have hb2 : (b : Int) < 12 := by omega
  have HH := Lib.hid h
  clear h
  generalize m.r.getD b 0 = vb at *
  go_enter Tryd.func74, Tryd.ntmps74
  go_wp2
  go_quiet (fail)
  go_wp2
  go_ret
  exact ⟨rfl, by repeat' first | exact HH.out | apply Sd.alloc | apply Sd.drewN | apply Sd.drew, (below_one w' _).trans ⟨rfl, rfl, rfl, Nat.le_refl _, fun _ _ => rfl⟩⟩
set_option maxHeartbeats 4000000 in
set_option maxRecDepth 100000 in
theorem pn43 (h : Sd x E w w' m back buf) (a b : Nat) (hb : b < 12) (imm : Int) :
    Calls Tryd.prog 74 #[.pointer (some ⟨x.bm, 0, none⟩), cV ⟨43, a, b, imm⟩] w' fun e w2 => e = .returned (.bool false) ∧ Sd x E w w2 m back buf ∧ Below w'.heap.size w' w2 := by
  obtain ⟨cb, fb⟩ := h.cell (k := 1 + b) (by omega)
  rw [dcell_reg _ _ _ _ _ hb] at cb
  have hlm := h.lm
  have hb2 : (b : Int) < 12 := by omega
  have HH := Lib.hid h
  clear h
  generalize m.r.getD b 0 = vb at *
  go_enter Tryd.func74, Tryd.ntmps74
  go_wp2
  go_quiet (fail)
  go_wp2
  go_ret
  exact ⟨rfl, by repeat' first | exact HH.out | apply Sd.alloc | apply Sd.drewN | apply Sd.drew, (below_one w' _).trans ⟨rfl, rfl, rfl, Nat.le_refl _, fun _ _ => rfl⟩⟩
set_option maxHeartbeats 4000000 in
set_option maxRecDepth 100000 in
theorem pn44 (h : Sd x E w w' m back buf) (a b : Nat) (hb : b < 12) (imm : Int) :
    Calls Tryd.prog 74 #[.pointer (some ⟨x.bm, 0, none⟩), cV ⟨44, a, b, imm⟩] w' fun e w2 => e = .returned (.bool false) ∧ Sd x E w w2 m back buf ∧ Below w'.heap.size w' w2 := by
  obtain ⟨cb, fb⟩ := h.cell (k := 1 + b) (by omega)
  rw [dcell_reg _ _ _ _ _ hb] at cb
  have hlm := h.lm
  have hb2 : (b : Int) < 12 := by omega
  have HH := Lib.hid h
  clear h
  generalize m.r.getD b 0 = vb at *
  go_enter Tryd.func74, Tryd.ntmps74
  go_wp2
  go_quiet (fail)
  go_wp2
  go_ret
  exact ⟨rfl, by repeat' first | exact HH.out | apply Sd.alloc | apply Sd.drewN | apply Sd.drew, (below_one w' _).trans ⟨rfl, rfl, rfl, Nat.le_refl _, fun _ _ => rfl⟩⟩
def PlainD (x : Dz) (E : Env) (w w' : World) (m : M) (back buf : Value) (c : PC) (e : Ending) (w2 : World) : Prop :=
  (∃ m', plainStep E m c = some m' ∧ e = .returned (.bool true) ∧ ∃ back' buf', Sd x E w w2 m' back' buf') ∨ (plainStep E m c = none ∧ e = .returned (.bool false) ∧ Sd x E w w2 m back buf ∧ Below w'.heap.size w' w2)
theorem PlainD.yes {mo : M} {c : PC} {e : Ending} (h : plainStep E m c = some mo) (k : e = .returned (.bool true) ∧ ∃ back' buf', Sd x E w w2 mo back' buf') : PlainD x E w w' m back buf c e w2 := .inl ⟨mo, h, k⟩
theorem PlainD.no {c : PC} {e : Ending} (h : plainStep E m c = none) (k : e = .returned (.bool false) ∧ Sd x E w w2 m back buf ∧ Below w'.heap.size w' w2) : PlainD x E w w' m back buf c e w2 := .inr ⟨h, k⟩
theorem plain_d (h : Sd x E w w' m back buf) (hI : Inv m) (hl : E.input.length ≤ 10000) (hbl : m.bytes.length ≤ 1073741824) (hA : DArith E.ar) (c : PC) (hm : mayP c = true) :
    Calls Tryd.prog 74 #[.pointer (some ⟨x.bm, 0, none⟩), cV c] w' (PlainD x E w w' m back buf c) := by
  have hc := within hm
  have hr := regs_of hm
  have ht := trap_of hm
  obtain ⟨op, a', b', imm⟩ := c
  obtain ⟨ho, ha', hb', hi⟩ := hc
  simp only at ho ha' hb' hi hr ht
  obtain ⟨a, rfl⟩ := Int.eq_ofNat_of_zero_le ha'.1
  obtain ⟨b, rfl⟩ := Int.eq_ofNat_of_zero_le hb'.1
  have ha : a < 12 := by omega
  have hb : b < 12 := by omega
  clear ha' hb'
  by_cases hrk : 5 ≤ op ∧ op ≤ 23
  · obtain ⟨hi0, hi1⟩ := hr hrk
    obtain ⟨c, rfl⟩ := Int.eq_ofNat_of_zero_le hi0
    have hc : c < 12 := by omega
    obtain rfl | rfl | rfl | rfl | rfl | rfl | rfl | rfl | rfl | rfl | rfl | rfl | rfl | rfl | rfl | rfl | rfl | rfl | rfl : op = 5 ∨ op = 6 ∨ op = 7 ∨ op = 8 ∨ op = 9 ∨ op = 10 ∨ op = 11 ∨ op = 12 ∨ op = 13 ∨ op = 14 ∨ op = 15 ∨ op = 16 ∨ op = 17 ∨ op = 18 ∨ op = 19 ∨ op = 20 ∨ op = 21 ∨ op = 22 ∨ op = 23 := by omega
    · refine (pd5 h hI a b ha hb c hc E.ar hA).mono fun e w2 he => PlainD.yes ?_ he
      simp [plainStep]; cases E.ar 0 (reg m b) (reg m c) <;> rfl
    · refine (pd6 h hI a b ha hb c hc E.ar hA).mono fun e w2 he => PlainD.yes ?_ he
      simp [plainStep]; cases E.ar 1 (reg m b) (reg m c) <;> rfl
    · refine (pd7 h hI a b ha hb c hc E.ar hA).mono fun e w2 he => PlainD.yes ?_ he
      simp [plainStep]; cases E.ar 2 (reg m b) (reg m c) <;> rfl
    · refine (pd8 h hI a b ha hb c hc E.ar hA).mono fun e w2 he => PlainD.yes ?_ he
      simp [plainStep]; cases E.ar 3 (reg m b) (reg m c) <;> rfl
    · refine (pd9 h hI a b ha hb c hc E.ar hA).mono fun e w2 he => PlainD.yes ?_ he
      simp [plainStep]; cases E.ar 4 (reg m b) (reg m c) <;> rfl
    · refine (pd10 h hI a b ha hb c hc E.ar hA).mono fun e w2 he => PlainD.yes ?_ he
      simp [plainStep]; cases E.ar 5 (reg m b) (reg m c) <;> rfl
    · refine (pd11 h hI a b ha hb c hc E.ar hA).mono fun e w2 he => PlainD.yes ?_ he
      simp [plainStep]; cases E.ar 6 (reg m b) (reg m c) <;> rfl
    · refine (pd12 h hI a b ha hb c hc E.ar hA).mono fun e w2 he => PlainD.yes ?_ he
      simp [plainStep]; cases E.ar 7 (reg m b) (reg m c) <;> rfl
    · refine (pd13 h hI a b ha hb c hc E.ar hA).mono fun e w2 he => PlainD.yes ?_ he
      simp [plainStep]; cases E.ar 8 (reg m b) (reg m c) <;> rfl
    · refine (pd14 h hI a b ha hb c hc E.ar hA).mono fun e w2 he => PlainD.yes ?_ he
      simp [plainStep]; cases E.ar 9 (reg m b) (reg m c) <;> rfl
    · refine (pd15 h hI a b ha hb c hc E.ar hA).mono fun e w2 he => PlainD.yes ?_ he
      simp [plainStep]; cases E.ar 10 (reg m b) (reg m c) <;> rfl
    · refine (pd16 h hI a b ha hb c hc E.ar hA).mono fun e w2 he => PlainD.yes ?_ he
      simp [plainStep]; cases E.ar 11 (reg m b) (reg m c) <;> rfl
    · refine (pd17 h hI a b ha hb c hc E.ar hA).mono fun e w2 he => PlainD.yes ?_ he
      simp [plainStep]; cases E.ar 12 (reg m b) (reg m c) <;> rfl
    · refine (pd18 h hI a b ha hb c hc E.ar hA).mono fun e w2 he => PlainD.yes ?_ he
      simp [plainStep]; cases E.ar 13 (reg m b) (reg m c) <;> rfl
    · refine (pd19 h hI a b ha hb c hc E.ar hA).mono fun e w2 he => PlainD.yes ?_ he
      simp [plainStep]; cases E.ar 14 (reg m b) (reg m c) <;> rfl
    · refine (pd20 h hI a b ha hb c hc E.ar hA).mono fun e w2 he => PlainD.yes ?_ he
      simp [plainStep]; cases E.ar 15 (reg m b) (reg m c) <;> rfl
    · refine (pd21 h hI a b ha hb c hc E.ar hA).mono fun e w2 he => PlainD.yes ?_ he
      simp [plainStep]; cases E.ar 16 (reg m b) (reg m c) <;> rfl
    · refine (pd22 h hI a b ha hb c hc E.ar hA).mono fun e w2 he => PlainD.yes ?_ he
      simp [plainStep]; cases E.ar 17 (reg m b) (reg m c) <;> rfl
    · refine (pd23 h hI a b ha hb c hc E.ar hA).mono fun e w2 he => PlainD.yes ?_ he
      simp [plainStep]; cases E.ar 18 (reg m b) (reg m c) <;> rfl
  obtain rfl | rfl | rfl | rfl | rfl | rfl | rfl | rfl | rfl | rfl | rfl | rfl | rfl | rfl | rfl | rfl | rfl | rfl | rfl | rfl | rfl | rfl | rfl | rfl | rfl | rfl | rfl | rfl | rfl : op = 1 ∨ op = 2 ∨ op = 3 ∨ op = 4 ∨ op = 24 ∨ op = 25 ∨ op = 26 ∨ op = 27 ∨ op = 28 ∨ op = 29 ∨ op = 30 ∨ op = 31 ∨ op = 32 ∨ op = 33 ∨ op = 34 ∨ op = 35 ∨ op = 36 ∨ op = 37 ∨ op = 38 ∨ op = 39 ∨ op = 40 ∨ op = 41 ∨ op = 42 ∨ op = 43 ∨ op = 44 ∨ op = 45 ∨ op = 46 ∨ op = 47 ∨ op = 48 := by omega
  · exact (pd1 h hI a b ha hb imm hi).mono fun e w2 he => PlainD.yes (by simp [plainStep]) he
  · exact (pn2 h a b hb imm).mono fun e w2 he => PlainD.no (by simp [plainStep]) he
  · exact (pd3 h hI a b ha hb imm hi).mono fun e w2 he => PlainD.yes (by simp [plainStep]) he
  · exact (pd4 h hI a b ha hb imm hi).mono fun e w2 he => PlainD.yes (by simp [plainStep]) he
  · exact (pd24 h hI a b ha hb imm hi).mono fun e w2 he => PlainD.yes (by simp [plainStep]) he
  · exact (pd25 h hI a b ha hb imm hi).mono fun e w2 he => PlainD.yes (by simp [plainStep]) he
  · exact (pd26 h hI a b ha hb imm hi).mono fun e w2 he => PlainD.yes (by simp [plainStep]) he
  · exact (pd27 h hI a b ha hb imm hi).mono fun e w2 he => PlainD.yes (by simp [plainStep]) he
  · exact (pd28 h hI a b ha hb imm hi).mono fun e w2 he => PlainD.yes (by simp [plainStep]) he
  · exact (pd29 h hI a b ha hb imm hi).mono fun e w2 he => PlainD.yes (by simp [plainStep]) he
  · exact (pn30 h a b hb imm).mono fun e w2 he => PlainD.no (by simp [plainStep]) he
  · exact (pn31 h a b hb imm).mono fun e w2 he => PlainD.no (by simp [plainStep]) he
  · exact (pn32 h a b hb imm).mono fun e w2 he => PlainD.no (by simp [plainStep]) he
  · exact (pn33 h a b hb imm).mono fun e w2 he => PlainD.no (by simp [plainStep]) he
  · exact (pn34 h a b hb imm).mono fun e w2 he => PlainD.no (by simp [plainStep]) he
  · exact (pn35 h a b hb imm).mono fun e w2 he => PlainD.no (by simp [plainStep]) he
  · exact (pn36 h a b hb imm).mono fun e w2 he => PlainD.no (by simp [plainStep]) he
  · exact (pn37 h a b hb imm).mono fun e w2 he => PlainD.no (by simp [plainStep]) he
  · exact (pn38 h a b hb imm).mono fun e w2 he => PlainD.no (by simp [plainStep]) he
  · exact (pn39 h a b hb imm).mono fun e w2 he => PlainD.no (by simp [plainStep]) he
  · exact (pn40 h a b hb imm).mono fun e w2 he => PlainD.no (by simp [plainStep]) he
  · exact (pn41 h a b hb imm).mono fun e w2 he => PlainD.no (by simp [plainStep]) he
  · exact (pn42 h a b hb imm).mono fun e w2 he => PlainD.no (by simp [plainStep]) he
  · exact (pn43 h a b hb imm).mono fun e w2 he => PlainD.no (by simp [plainStep]) he
  · exact (pn44 h a b hb imm).mono fun e w2 he => PlainD.no (by simp [plainStep]) he
  · refine (pd45 h hI a b ha hb imm hi hl).mono fun e w2 he => PlainD.yes ?_ he
    simp [plainStep]; cases E.input[m.at_]? <;> rfl
  · exact (pd46 h hI a b ha hb imm hbl).mono fun e w2 he => PlainD.yes (by simp [plainStep]) he
  · exact (pd47 h hI a b ha hb imm hi).mono fun e w2 he => PlainD.yes (by simp [plainStep]) he
  · exact (pd48 h hI a b ha hb imm hi (ht rfl)).mono fun e w2 he => PlainD.yes (by simp [plainStep, trap]) he
end
end Go.Proofs.YtopceggmdieppaaDoor.Emu
