/- Instructions that a caller hands over. -/
import Derived.Test.YtfdhjkjljhgapaaDoorEi
import Derived.OpenShut
import Derived.ProofKit
import Derived.SizedLaws
import Derived.Lib.SmallJoins
namespace Go.Proofs.YtfdhjkjljhgapaaDoor.Enc
open Go.RowKit Go.ChangeShapes Go.Joins
theorem inR_of {n : Int} (h : (Lit.int .i64 n).wf = true) : inR n := by
  unfold inR
  have h1 : IntKind.i64.min ≤ n ∧ n ≤ IntKind.i64.max := by simpa [Lit.wf] using h
  have e1 : IntKind.i64.min = -9223372036854775808 := rfl
  have e2 : IntKind.i64.max = 9223372036854775807 := rfl
  omega
theorem wf_of {n : Int} (h : inR n) : (Lit.int .i64 n).wf = true := by
  unfold inR at h
  have e1 : IntKind.i64.min = -9223372036854775808 := rfl
  have e2 : IntKind.i64.max = 9223372036854775807 := rfl
  have h1 : IntKind.i64.min ≤ n ∧ n ≤ IntKind.i64.max := by omega
  simpa [Lit.wf] using h1
theorem u32_in {n : Int} (h : (Lit.int .u32 n).wf = true) : 0 ≤ n ∧ n ≤ 4294967295 := by
  have h1 : IntKind.u32.min ≤ n ∧ n ≤ IntKind.u32.max := by simpa [Lit.wf] using h
  have e1 : IntKind.u32.min = 0 := rfl
  have e2 : IntKind.u32.max = 4294967295 := rfl
  omega
section
variable {H : Type} {enc : TypeId × Value → H} {w : World} {base : Nat} {sp : Nat → Bool} {held : Bool}
theorem int_of {fuel : Nat} {c : Value} {y : DataW H × List MemPlace} (h : DataW.trod enc Tryd.prog w base sp held fuel 3 [c] = some y) : ∃ n, c = .int .i64 n ∧ y = (.lit (.int .i64 n), []) ∧ inR n := by
  obtain ⟨n, h1, h2, h3⟩ := DataW.trod_int Tryd.underlying3 h
  refine ⟨n, ?_, h2, inR_of h3⟩
  simpa using h1
theorem cells_code : Tryd.prog.cellsOf 23 = 4 := by kernel_rfl
theorem code_in {r : Reach} {b0 : Nat} {v : Value} {d : DataW H} {p : List MemPlace} (hv : Value.okWide Tryd.prog w r b0 23 v) (h : DataW.Trod enc Tryd.prog w base sp held 23 v d p) :
    ∃ o a b i, v = cV ⟨o, a, b, i⟩ ∧ d = .agg [.lit (.int .i64 o), .lit (.int .i64 a), .lit (.int .i64 b), .lit (.int .i64 i)] ∧ p = [] ∧ InR ⟨o, a, b, i⟩ := by
  obtain ⟨v0, v1, v2, v3, y0, y1, y2, y3, n, rfl, rfl, rfl, h0, h1, h2, h3⟩ := open_agg4 Tryd.underlying23 (by kernel_rfl) cells_code hv h
  obtain ⟨o, rfl, rfl, r0⟩ := int_of h0
  obtain ⟨a, rfl, rfl, r1⟩ := int_of h1
  obtain ⟨b, rfl, rfl, r2⟩ := int_of h2
  obtain ⟨i, rfl, rfl, r3⟩ := int_of h3
  exact ⟨o, a, b, i, rfl, rfl, rfl, r0, r1, r2, r3⟩
theorem int_out {n : Int} (h : inR n) : ∃ m, DataW.trod enc Tryd.prog w base sp held m 3 [.int .i64 n] = some (.lit (.int .i64 n), []) := by
  obtain ⟨m, hm⟩ := shut_int (w := w) (enc := enc) (base := base) (spare := sp) (held := held) Tryd.underlying3 (wf_of h)
  exact ⟨m, hm⟩
theorem code_out {o a b i : Int} (h : InR ⟨o, a, b, i⟩) : DataW.Trod enc Tryd.prog w base sp held 23 (cV ⟨o, a, b, i⟩) (.agg [.lit (.int .i64 o), .lit (.int .i64 a), .lit (.int .i64 b), .lit (.int .i64 i)]) [] :=
  shut_agg4 Tryd.underlying23 (by kernel_rfl) cells_code (int_out h.op) (int_out h.a) (int_out h.b) (int_out h.imm)
end
end Go.Proofs.YtfdhjkjljhgapaaDoor.Enc
