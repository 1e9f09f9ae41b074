/- The law RelaxShrinks at any list. No condition but that the program's assembler and Decode do what the plain ones do. -/
import Derived.Test.YtmnhafncdblklaaDoorRs1
namespace Go.Proofs.YtmnhafncdblklaaDoor.Relax
open Go.RowKit Go.Proofs.YtmnhafncdblklaaDoor.Enc Go.Proofs.YtmnhafncdblklaaDoor.Graph

theorem shrinks_any (D : DoesAsm) (E : DoesDec) (l : List PL) (v : Value) (which : Int) (w : World) (h : LinesR w v l) (hs : SmL l) (hF : FormsAt w) (hw1 : -9223372036854775808 ≤ which) (hw2 : which ≤ 9223372036854775807) :
    Calls Tryd.prog 9 #[v, .int .i64 which] w (Is (.bool true) w) := by
  by_cases h1 : (asmP l).2.2 ≠ 0 ∨ l.length = 0
  · exact shrinks_no D l v which w h hs hF h1
  · have h2 : (asmP l).2.2 = 0 := by
      by_cases h3 : (asmP l).2.2 = 0
      · exact h3
      · exact absurd (.inl h3) h1
    have h4 : 0 < l.length := by
      rcases Nat.eq_zero_or_pos l.length with h5 | h5
      · exact absurd (.inr h5) h1
      · exact h5
    have ha : asmP l = ((asmP l).1, (asmP l).2.1, 0) := by rw [← h2]
    cases h3 : plainL (lineAt l (pickN which l.length)) with
    | false => exact shrinks_idle D l v which w h hs hF _ _ ha h4 hw1 hw2 h3
    | true => exact shrinks_do D E l v which w h hs hF _ _ ha h4 hw1 hw2 h3
end Go.Proofs.YtmnhafncdblklaaDoor.Relax
