/- The law GraphCopies, at any module, whole. -/
import Derived.Test.YtacbfjinellonaaKm
import Derived.Test.YtacbfjinellonaaLh
namespace Go.Proofs.Ytacbfjinellonaa.Graph
open Go.RowKit
theorem graphCopies_any (x : PMod) (vg va vf : Value) (w : World) (hL : ModL w vg va vf x) (hs : SmM x) :
    Calls Try.prog 5 #[modV x vg va vf] w (Is (.bool true) w) :=
  copies_any spoils_any x vg va vf w hL hs
end Go.Proofs.Ytacbfjinellonaa.Graph
