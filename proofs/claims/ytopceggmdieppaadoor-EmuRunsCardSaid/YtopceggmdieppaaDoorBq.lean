/- Any instruction, done. No condition. -/
import Derived.Test.YtopceggmdieppaaDoorHE
import Derived.Test.YtopceggmdieppaaDoorHF
import Derived.Test.YtopceggmdieppaaDoorHG
import Derived.Test.YtopceggmdieppaaDoorHH
import Derived.Test.YtopceggmdieppaaDoorBp0
import Derived.Test.YtopceggmdieppaaDoorBp1
import Derived.Test.YtopceggmdieppaaDoorBp2
import Derived.Test.YtopceggmdieppaaDoorBp3
import Derived.Test.YtopceggmdieppaaDoorBp4
import Derived.Test.YtopceggmdieppaaDoorBp5
import Derived.Test.YtopceggmdieppaaDoorBp6
namespace Go.Proofs.YtopceggmdieppaaDoor.Emu
open Go.RowKit Go.Proofs.YtopceggmdieppaaDoor.Enc Go.Proofs.YtopceggmdieppaaDoor.Graph

theorem regs_of {c : PC} (h : mayP c = true) (h5 : 5 ≤ c.op ∧ c.op ≤ 23) : 0 ≤ c.imm ∧ c.imm ≤ 11 := by
  unfold mayP Enc.reg zero wide near trapN at h
  (repeat' split at h) <;> simp at h <;> omega
theorem trap_of {c : PC} (h : mayP c = true) (h5 : c.op = 48) : 0 ≤ c.imm ∧ c.imm ≤ 255 := by
  unfold mayP Enc.reg zero wide near trapN at h
  (repeat' split at h) <;> simp at h <;> omega
section
variable {x : Fz} {E : Env} {wk : Nat → Value} {w w' w1 w2 : World} {m : M} {ad buf back : Value} {pg : Nat → Option Nat}
theorem DoPost.widen {mo : M} {e : Ending} {T : Prop} (hT : ¬ T) (h : DoPost x E wk w m mo False e w2) : DoPost x E wk w m mo T e w2 := by
  have e1 : T = False := eq_false hT
  rw [e1]; exact h
theorem do_prog (h : St x E wk w w' m ad buf back pg) (h0 : m.stop = 0) (hI : Inv m) (hE : EnvOk E) (hEa : E.ar = ar) (hEh : E.holds = hs) (hwk : ∀ k, k < 19 → wk (k + 6) = funV (fOf k)) (hp : 0 ≤ m.place ∧ m.place ≤ 65536) (hbl : m.bytes.length ≤ 1073741824) (c : PC) (hm : mayP c = true) :
    Calls Tryd.prog 70 #[.pointer (some ⟨x.bm, 0, none⟩), iV c] w' (DoPost x E wk w m (doStep E m c) (c.op = 48)) := by
  have hc := within hm
  have hr := regs_of hm
  have ht := trap_of hm
  obtain ⟨op, a', b', imm⟩ := c
  obtain ⟨ho, ha', hb', hi⟩ := hc
  simp only at ho ha' hb' hi hr ht ⊢
  obtain ⟨a, rfl⟩ := Int.eq_ofNat_of_zero_le ha'.1
  obtain ⟨b, rfl⟩ := Int.eq_ofNat_of_zero_le hb'.1
  have ha : a < 12 := by omega
  have hb : b < 12 := by omega
  clear ha' hb'
  by_cases h48 : op = 48
  · subst h48
    have e1 : ((48 : Int) = 48) = True := eq_true rfl
    rw [e1]
    exact do48 h h0 hI a b ha hb imm hi (ht rfl)
  refine Calls.mono ?_ (fun e w2 he => DoPost.widen h48 he)
  by_cases hrk : 5 ≤ op ∧ op ≤ 23
  · obtain ⟨hi0, hi1⟩ := hr hrk
    obtain ⟨c, rfl⟩ := Int.eq_ofNat_of_zero_le hi0
    have hc : c < 12 := by omega
    obtain rfl | rfl | rfl | rfl | rfl | rfl | rfl | rfl | rfl | rfl | rfl | rfl | rfl | rfl | rfl | rfl | rfl | rfl | rfl : op = 5 ∨ op = 6 ∨ op = 7 ∨ op = 8 ∨ op = 9 ∨ op = 10 ∨ op = 11 ∨ op = 12 ∨ op = 13 ∨ op = 14 ∨ op = 15 ∨ op = 16 ∨ op = 17 ∨ op = 18 ∨ op = 19 ∨ op = 20 ∨ op = 21 ∨ op = 22 ∨ op = 23 := by omega
    · exact do5 h h0 hI a b ha hb c hc hEa hwk
    · exact do6 h h0 hI a b ha hb c hc hEa hwk
    · exact do7 h h0 hI a b ha hb c hc hEa hwk
    · exact do8 h h0 hI a b ha hb c hc hEa hwk
    · exact do9 h h0 hI a b ha hb c hc hEa hwk
    · exact do10 h h0 hI a b ha hb c hc hEa hwk
    · exact do11 h h0 hI a b ha hb c hc hEa hwk
    · exact do12 h h0 hI a b ha hb c hc hEa hwk
    · exact do13 h h0 hI a b ha hb c hc hEa hwk
    · exact do14 h h0 hI a b ha hb c hc hEa hwk
    · exact do15 h h0 hI a b ha hb c hc hEa hwk
    · exact do16 h h0 hI a b ha hb c hc hEa hwk
    · exact do17 h h0 hI a b ha hb c hc hEa hwk
    · exact do18 h h0 hI a b ha hb c hc hEa hwk
    · exact do19 h h0 hI a b ha hb c hc hEa hwk
    · exact do20 h h0 hI a b ha hb c hc hEa hwk
    · exact do21 h h0 hI a b ha hb c hc hEa hwk
    · exact do22 h h0 hI a b ha hb c hc hEa hwk
    · exact do23 h h0 hI a b ha hb c hc hEa hwk
  obtain rfl | rfl | rfl | rfl | rfl | rfl | rfl | rfl | rfl | rfl | rfl | rfl | rfl | rfl | rfl | rfl | rfl | rfl | rfl | rfl | rfl | rfl | rfl | rfl | rfl | rfl | rfl | rfl : op = 1 ∨ op = 2 ∨ op = 3 ∨ op = 4 ∨ op = 24 ∨ op = 25 ∨ op = 26 ∨ op = 27 ∨ op = 28 ∨ op = 29 ∨ op = 30 ∨ op = 31 ∨ op = 32 ∨ op = 33 ∨ op = 34 ∨ op = 35 ∨ op = 36 ∨ op = 37 ∨ op = 38 ∨ op = 39 ∨ op = 40 ∨ op = 41 ∨ op = 42 ∨ op = 43 ∨ op = 44 ∨ op = 45 ∨ op = 46 ∨ op = 47 := by omega
  · exact do1 h h0 hI a b ha hb imm hi
  · exact do2 h h0 hI a b ha hb imm hi hE hp
  · exact do3 h h0 hI a b ha hb imm hi
  · exact do4 h h0 hI a b ha hb imm hi
  · exact do24 h h0 hI a b ha hb imm hi
  · exact do25 h h0 hI a b ha hb imm hi
  · exact do26 h h0 hI a b ha hb imm hi
  · exact do27 h h0 hI a b ha hb imm hi
  · exact do28 h h0 hI a b ha hb imm hi
  · exact do29 h h0 hI a b ha hb imm hi
  · exact do30 h h0 hI a b ha hb imm hi hp hEh
  · exact do31 h h0 hI a b ha hb imm hi hp hEh
  · exact do32 h h0 hI a b ha hb imm hi hp hEh
  · exact do33 h h0 hI a b ha hb imm hi hp hEh
  · exact do34 h h0 hI a b ha hb imm hi hp hEh
  · exact do35 h h0 hI a b ha hb imm hi hp hEh
  · exact do36 h h0 hI a b ha hb imm hi hp hEh
  · exact do37 h h0 hI a b ha hb imm hi hp hEh
  · exact do38 h h0 hI a b ha hb imm hi hp hEh
  · exact do39 h h0 hI a b ha hb imm hi hp hEh
  · exact doJ40 h h0 hI hE hp a b ha hb imm hi
  · exact doJ41 h h0 hI hE hp a b ha hb imm hi
  · exact doJ42 h h0 hI hE hp a b ha hb imm hi
  · exact doJ43 h h0 hI hE hp a b ha hb imm hi
  · exact doJ44 h h0 hI hE hp a b ha hb imm hi
  · exact do45 h h0 hI a b ha hb imm hi hE
  · exact do46 h h0 hI a b ha hb imm hi hbl
  · exact do47 h h0 hI a b ha hb imm hi
end
end Go.Proofs.YtopceggmdieppaaDoor.Emu
