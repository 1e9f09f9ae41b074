/- The map of labels, and the row of parts, as they lie. No condition. -/
import Derived.Test.YtmnhafncdblklaaDoorGB
import Derived.Test.YtmnhafncdblklaaDoorLr
import Derived.Maps.OwnSet
import Derived.Laws.OwnMore
namespace Go.Proofs.YtmnhafncdblklaaDoor.Relax
open Go.RowKit Go.Proofs.YtmnhafncdblklaaDoor.Enc Go.Proofs.YtmnhafncdblklaaDoor.Graph Go.Maps

def lit (n : Int) : Lit := .int .i64 n
/-- The map of the labels among the first so many lines. -/
def mapD (l : List PL) : Nat → DataW Unit
  | 0 => .map []
  | i + 1 => if (lineAt l i).op = 0 then (mapD l i).put (lit (lineAt l i).label) (.lit (lit (partN l i))) else mapD l i
theorem mapD_is (l : List PL) : ∀ i, IsMap (mapD l i)
  | 0 => isMap_empty
  | i + 1 => by
    unfold mapD
    split
    · exact (mapD_is l i).put _ _
    · exact mapD_is l i
theorem lit_key (n : Int) : WideAt.IsKeyLit (lit n) := by unfold lit WideAt.IsKeyLit; trivial
theorem lit_ne {a b : Int} (h : a ≠ b) : lit a ≠ lit b := fun e => by injection e with _ e; exact h e
theorem mapD_has (l : List PL) (lab : Int) : ∀ i, Maps.has (mapD l i) (lit lab) = (standsAt l lab i).isSome
  | 0 => rfl
  | i + 1 => by
    unfold mapD standsAt
    by_cases h0 : (lineAt l i).op = 0
    · rw [if_pos h0]
      by_cases h1 : (lineAt l i).label = lab
      · rw [if_pos ⟨h0, h1⟩, h1, has_put_same (mapD_is l i) (lit_key _)]; rfl
      · rw [if_neg (fun h => h1 h.2), has_put_other (lit_ne (fun e => h1 e.symm))]; exact mapD_has l lab i
    · rw [if_neg h0, if_neg (fun h => h0 h.1)]; exact mapD_has l lab i
theorem mapD_at (l : List PL) (lab : Int) : ∀ i, (mapD l i).atKey (lit lab) (.lit (lit 0)) = .lit (lit (match standsAt l lab i with | none => 0 | some t => (partN l t : Int)))
  | 0 => rfl
  | i + 1 => by
    unfold mapD standsAt
    by_cases h0 : (lineAt l i).op = 0
    · rw [if_pos h0]
      by_cases h1 : (lineAt l i).label = lab
      · rw [if_pos ⟨h0, h1⟩, h1, atKey_put_same (mapD_is l i) (lit_key _)]
      · rw [if_neg (fun h => h1 h.2), atKey_put_other (lit_ne (fun e => h1 e.symm))]; exact mapD_at l lab i
    · rw [if_neg h0, if_neg (fun h => h0 h.1)]; exact mapD_at l lab i
abbrev MapAt (w : World) (b n : Nat) (l : List PL) (i : Nat) : Prop := w.ownsMap Tryd.prog 3 (plainElem (H := Unit) Tryd.prog 3) b n (mapD l i)
theorem law : Keyed Tryd.prog 3 := int_keyed Tryd.underlying3
theorem zeroE (w : World) : (zeroValue 3).run Tryd.prog w = .ok (.int .i64 0) w := by kernel_rfl
theorem key_of {n : Int} (h : 0 ≤ n ∧ n ≤ 100000) : keyOf Tryd.prog 3 (.int .i64 n) = some (lit n) := keyOf_int_mk Tryd.underlying3 (WalkArith.wf_i64 (by omega))
end Go.Proofs.YtmnhafncdblklaaDoor.Relax
