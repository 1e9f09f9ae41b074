/- Draws of order change nothing; the word that is none. No condition. -/
import Derived.Test.YtjbiikbmbacjkaaDoorBn
namespace Go.Proofs.YtjbiikbmbacjkaaDoor.Emu
open Go.RowKit Go.Proofs.YtjbiikbmbacjkaaDoor.Enc Go.Proofs.YtjbiikbmbacjkaaDoor.Graph

theorem not32 {v : Int} (h0 : 0 ≤ v) (h1 : v < 4294967296) : bits BinOp.xor IntKind.u32 IntKind.u32.max v = 4294967295 - v := by
  obtain ⟨b, rfl⟩ := Int.eq_ofNat_of_zero_le h0
  have h2 : (BitVec.ofInt 32 (b : Int)).toNat = b := by
    rw [BitVec.ofInt_natCast, BitVec.toNat_ofNat]; exact Nat.mod_eq_of_lt (by omega)
  show IntKind.u32.wrap ((BitVec.ofInt 32 4294967295 ^^^ BitVec.ofInt 32 (b : Int)).toNat : Int) = _
  rw [show BitVec.ofInt 32 4294967295 = BitVec.allOnes 32 from rfl, BitVec.allOnes_xor, BitVec.toNat_not, h2, IntKind.wrap_u32]
  omega
section
variable {x : Fz} {E : Env} {wk : Nat → Value} {w w' w1 w2 : World} {m : M} {ad buf back : Value} {pg : Nat → Option Nat}
theorem below_drewN (w : World) (n : Nat) : Below w.heap.size w (w.drewN n) := ⟨rfl, rfl, rfl, Nat.le_refl _, fun _ _ => rfl⟩
theorem St.drewN (h : St x E wk w w' m ad buf back pg) (n : Nat) : St x E wk w (w'.drewN n) m ad buf back pg := h.go (below_drewN _ _)
set_option maxHeartbeats 4000000 in
set_option maxRecDepth 100000 in
theorem do0 (h : St x E wk w w' m ad buf back pg) :
    Calls Tryd.prog 37 #[.pointer (some ⟨x.bm, 0, none⟩), iV ⟨0, 0, 0, 0⟩] w' fun e w2 => e = thrown 4 ∧ St x E wk w w2 m ad buf back pg := by
  obtain ⟨ca, fa⟩ := h.cell (k := 2) (by omega)
  change _ = some (Value.int .u32 (m.r.getD 0 0)) at ca
  have hlm := h.lm
  have HH := Lib.hid h
  clear h
  go_enter Tryd.func37, Tryd.ntmps37
  go_wp2
  go_quiet (fail)
  go_wp2
  go_quiet (fail)
  go_wp2
  exact ⟨rfl, rfl, (HH.out.alloc _).drewN _⟩
end
end Go.Proofs.YtjbiikbmbacjkaaDoor.Emu
