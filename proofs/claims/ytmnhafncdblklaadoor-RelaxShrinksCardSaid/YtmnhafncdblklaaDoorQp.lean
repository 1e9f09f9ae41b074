/- What the program's assembler and Decode do. -/
import Derived.Test.YtmnhafncdblklaaDoorAz
namespace Go.Proofs.YtmnhafncdblklaaDoor.Relax
open Go.RowKit Go.Proofs.YtmnhafncdblklaaDoor.Enc
theorem does : DoesAsm := ⟨fun l v w hl hs hF => assemble_prog l v w hl hs hF⟩
theorem doesDec : Enc.DoesDec := ⟨fun x w hx hF => Enc.dec_any x hx w hF⟩
end Go.Proofs.YtmnhafncdblklaaDoor.Relax
