/- The document's May: which instructions may be. No condition. -/
import Derived.Test.YtbbfjlheaaalkaaDoorEd1
import Derived.Test.YtbbfjlheaaalkaaDoorEd2
import Derived.Test.YtbbfjlheaaalkaaDoorEd3
import Derived.Test.YtbbfjlheaaalkaaDoorEd4
import Derived.Test.YtbbfjlheaaalkaaDoorEd5
import Derived.Test.YtbbfjlheaaalkaaDoorEd6
namespace Go.Proofs.YtbbfjlheaaalkaaDoor.Enc
open Go.RowKit
theorem rmay_any (c : PC) (w : World) : Calls Tryd.prog 15 #[cV c] w fun e w' => e = .returned (.bool (mayP c)) ∧ Below w.heap.size w w' := by
  obtain ⟨op, a, b, i⟩ := c
  rcases opClass op with h | h | h | h | h | h | h | h | h | h | h
  · exact rmay_1 op a b i w (by omega)
  · by_cases h47 : op = 47
    · exact rmay_2 op a b i w (by omega)
    · exact rmay_1 op a b i w (by omega)
  · by_cases h29 : op = 29
    · exact rmay_3 op a b i w (by omega)
    · exact rmay_2 op a b i w (by omega)
  · exact rmay_3 op a b i w (by omega)
  · exact rmay_3 op a b i w (by omega)
  · exact rmay_4 op a b i w (by omega)
  · exact rmay_4 op a b i w (by omega)
  · exact rmay_mid op a b i w h
  · exact rmay_br op a b i w h
  · exact rmay_lo op a b i w h
  · exact rmay_hi op a b i w h
end Go.Proofs.YtbbfjlheaaalkaaDoor.Enc
