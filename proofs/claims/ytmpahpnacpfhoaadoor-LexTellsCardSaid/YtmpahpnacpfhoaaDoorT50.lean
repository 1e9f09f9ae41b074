/- The document's own answer for numbers: digits one after another. -/
import Derived.Test.YtmpahpnacpfhoaaDoorT1
import Derived.Test.YtmpahpnacpfhoaaDoorE
namespace Go.Proofs.YtmpahpnacpfhoaaDoor
open Go.RowKit
theorem pU_cons (b : Nat) (acc : Nat) (d : ByteArray) (k : Nat) (h : k < d.size) : parseU b acc (d.data.toList.drop k) = if digN d[k] < b ∧ acc * b + digN d[k] ≤ 4294967295 then parseU b (acc * b + digN d[k]) (d.data.toList.drop (k + 1)) else none := by
  rw [drop_cons d k h, parseU]
theorem pU_nil (b : Nat) (acc : Nat) (d : ByteArray) (k : Nat) (h : d.size ≤ k) : parseU b acc (d.data.toList.drop k) = some acc := by
  rw [List.drop_eq_nil_of_le (by rw [← Lib.size_eq]; exact h), parseU]

end Go.Proofs.YtmpahpnacpfhoaaDoor
