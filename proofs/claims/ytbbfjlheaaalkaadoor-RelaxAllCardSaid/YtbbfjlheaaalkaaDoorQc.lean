/- How many branches a list has: the law's function. No condition. -/
import Derived.Test.YtbbfjlheaaalkaaDoorQc0
namespace Go.Proofs.YtbbfjlheaaalkaaDoor.Relax
open Go.RowKit Go.Proofs.YtbbfjlheaaalkaaDoor.Enc Go.Proofs.YtbbfjlheaaalkaaDoor.Graph

end Go.Proofs.YtbbfjlheaaalkaaDoor.Relax
