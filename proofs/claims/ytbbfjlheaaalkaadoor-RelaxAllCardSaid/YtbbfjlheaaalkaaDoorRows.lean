/-
  NARROWER THAN 'FOR EVERY INPUT', by the rows' own cells (each row's printed sentence says how): RelaxAnswers: laid · RelaxAll: laid · RelaxLabels: laid.
  DERIVED. THE GIVEN ROWS OF THIS SEAT. 3 by the template 'for every input the law returns true; each argument reads behind the call as it read before'; 0 by the template 'total and deterministic' (their statements: YtbbfjlheaaalkaaDoorTotals.lean).
  GIVEN WITH THE SEED: the statements are not yours to turn. If you find one false, say at which input.
  Laid BY PROGRAM, IN A SANDBOX (cutbox-rows.mjs): the forced cells as the released guide's own fill.sh prints them over the translation 64e038d1651c45f9… (all of the seat's roots in one cut). By AI agents, Wed Nov 11 2026. No macro, syntax, notation, axiom, sorry.
-/
import Derived.Test.YtbbfjlheaaalkaaDoorChecked
import GoSem.Claim
import GoSem.ClaimJoined
import GoSem.ClaimMapViews
import Derived.JoinedTies
import Derived.KernelRfl
namespace Go.Proofs.YtbbfjlheaaalkaaDoor
/- THE CELL 'sum', in the pinned program and in every row, IS THE sha256 OF THE DUMP (.gsa) THAT YtbbfjlheaaalkaaDoorProg.lean LOADS. Nothing in Lean hashes anything: it is a label: what it is worth is what the hold of that sum in a sandbox is worth. -/
noncomputable def Tryd.pinned : Pinned := { name := "ytbbfjlheaaalkaadoor", sum := "64e038d1651c45f94a2b4a78a4583bd6ee5656beec3b7e49349731fb3ac2f364", checked := Tryd.checked }
namespace Rows
def none {H : Type} : Left H := { results := [], args := [] }

/- WHAT THE LISTED PACKAGE-LEVEL VARIABLES READ AS WHEN THE CALL BEGINS. Each datum BY PROGRAM (the guide's laid-datum.mjs) off the statement by which the dump's own 'gosem.cut.vars' lays the variable. In a bare row this is a premise. The card (YtbbfjlheaaalkaaDoorCards.lean) ties it to the program's text. -/
def laid_switchback_enc_forms {H : Type} : DataW H := .agg [.lit (.int .i64 0), .lit (.int .i64 0), .lit (.int .i64 1), .lit (.int .i64 2), .lit (.int .i64 3), .lit (.int .i64 4), .lit (.int .i64 4), .lit (.int .i64 4), .lit (.int .i64 4), .lit (.int .i64 4), .lit (.int .i64 4), .lit (.int .i64 4), .lit (.int .i64 4), .lit (.int .i64 4), .lit (.int .i64 4), .lit (.int .i64 4), .lit (.int .i64 4), .lit (.int .i64 4), .lit (.int .i64 4), .lit (.int .i64 4), .lit (.int .i64 4), .lit (.int .i64 4), .lit (.int .i64 4), .lit (.int .i64 4), .lit (.int .i64 2), .lit (.int .i64 2), .lit (.int .i64 2), .lit (.int .i64 3), .lit (.int .i64 3), .lit (.int .i64 2), .lit (.int .i64 5), .lit (.int .i64 5), .lit (.int .i64 5), .lit (.int .i64 5), .lit (.int .i64 5), .lit (.int .i64 5), .lit (.int .i64 5), .lit (.int .i64 5), .lit (.int .i64 5), .lit (.int .i64 5), .lit (.int .i64 6), .lit (.int .i64 7), .lit (.int .i64 1), .lit (.int .i64 7), .lit (.int .i64 7), .lit (.int .i64 1), .lit (.int .i64 1), .lit (.int .i64 1), .lit (.int .i64 8)]

/-- 'switchbacklaw17.RelaxAnswers': WHATEVER THE INPUT: true; the input reads as it did. -/
def relaxAnswersSpec : ChangeSpec := { name := "relaxAnswers", fn := fun _ => fun
  | [d] => { results := [.lit (.bool true)], args := [d] }
  | _ => none }
def relaxAnswersRow : OpenClaim := { program := "ytbbfjlheaaalkaadoor", sum := "64e038d1651c45f94a2b4a78a4583bd6ee5656beec3b7e49349731fb3ac2f364", func := "switchback/switchbacklaw17.RelaxAnswers", spec := "relaxAnswers", named := ["switchback/enc.forms"], apart := false, laid := [("switchback/enc.forms", laid_switchback_enc_forms)] }
def RelaxAnswersSaid : Prop := relaxAnswersRow.holds Tryd.pinned (OpenSpec.ofChange relaxAnswersSpec)

/-- ITS FALSE NEIGHBOUR: 'it returns false'. Refute it at one input. -/
def relaxAnswersWrong : ChangeSpec := { name := "relaxAnswers", fn := fun _ => fun
  | [d] => { results := [.lit (.bool false)], args := [d] }
  | _ => none }
def RelaxAnswersWrongFalsely : Prop := relaxAnswersRow.holds Tryd.pinned (OpenSpec.ofChange relaxAnswersWrong)

/-- 'switchbacklaw17.RelaxAll': WHATEVER THE INPUT: true; the input reads as it did. -/
def relaxAllSpec : ChangeSpec := { name := "relaxAll", fn := fun _ => fun
  | [d1, d2] => { results := [.lit (.bool true)], args := [d1, d2] }
  | _ => none }
def relaxAllRow : OpenClaim := { program := "ytbbfjlheaaalkaadoor", sum := "64e038d1651c45f94a2b4a78a4583bd6ee5656beec3b7e49349731fb3ac2f364", func := "switchback/switchbacklaw17.RelaxAll", spec := "relaxAll", named := ["switchback/enc.forms"], apart := false, laid := [("switchback/enc.forms", laid_switchback_enc_forms)] }
def RelaxAllSaid : Prop := relaxAllRow.holds Tryd.pinned (OpenSpec.ofChange relaxAllSpec)

/-- ITS FALSE NEIGHBOUR: 'it returns false'. Refute it at one input. -/
def relaxAllWrong : ChangeSpec := { name := "relaxAll", fn := fun _ => fun
  | [d1, d2] => { results := [.lit (.bool false)], args := [d1, d2] }
  | _ => none }
def RelaxAllWrongFalsely : Prop := relaxAllRow.holds Tryd.pinned (OpenSpec.ofChange relaxAllWrong)

/-- 'switchbacklaw17.RelaxLabels': WHATEVER THE INPUT: true; the input reads as it did. -/
def relaxLabelsSpec : ChangeSpec := { name := "relaxLabels", fn := fun _ => fun
  | [d1, d2] => { results := [.lit (.bool true)], args := [d1, d2] }
  | _ => none }
def relaxLabelsRow : OpenClaim := { program := "ytbbfjlheaaalkaadoor", sum := "64e038d1651c45f94a2b4a78a4583bd6ee5656beec3b7e49349731fb3ac2f364", func := "switchback/switchbacklaw17.RelaxLabels", spec := "relaxLabels", named := ["switchback/enc.forms"], apart := false, laid := [("switchback/enc.forms", laid_switchback_enc_forms)] }
def RelaxLabelsSaid : Prop := relaxLabelsRow.holds Tryd.pinned (OpenSpec.ofChange relaxLabelsSpec)

/-- ITS FALSE NEIGHBOUR: 'it returns false'. Refute it at one input. -/
def relaxLabelsWrong : ChangeSpec := { name := "relaxLabels", fn := fun _ => fun
  | [d1, d2] => { results := [.lit (.bool false)], args := [d1, d2] }
  | _ => none }
def RelaxLabelsWrongFalsely : Prop := relaxLabelsRow.holds Tryd.pinned (OpenSpec.ofChange relaxLabelsWrong)

/- THE SECOND FORM. 'bulk': how many values and letters a reading holds, each counted each time it is reached (what is shared counts as often as it is met; a slice's spare places count too). A statement '..UptoSaid' is the law's where the arguments, and the package variables that the reading takes, are together of bulk at most 1048576: NARROWER than '..Said'. Prove '..Said' where nothing that the law and all that it calls make is longer than what came in: it says more and counts as full. Else prove '..UptoSaid'. A law counts once. -/
mutual
def uptoBulk {H : Type} : DataW H → Nat
  | .lit (.string bytes) => bytes.length + 1
  | .lit _ => 1
  | .nil => 1
  | .ptr d => uptoBulk d + 1
  | .slice elems spare => uptoBulkAll elems + uptoBulkAll spare + 1
  | .agg parts => uptoBulkAll parts + 1
  | .iface _ d => uptoBulk d + 1
  | .map entries => uptoBulkEntries entries + 1
  | .held _ => 1
def uptoBulkAll {H : Type} : List (DataW H) → Nat
  | [] => 0
  | d :: r => uptoBulk d + uptoBulkAll r
def uptoBulkEntries {H : Type} : List (Lit × DataW H) → Nat
  | [] => 0
  | x :: r => uptoBulkEntry x + uptoBulkEntries r
def uptoBulkEntry {H : Type} : Lit × DataW H → Nat
  | (.string bytes, d) => bytes.length + uptoBulk d + 1
  | (_, d) => uptoBulk d + 1
 end
def uptoSmall : (H : Type) → List (DataW H) → Bool := fun _ ds => decide (uptoBulkAll ds ≤ 1048576)
def OpenSpec.upto (s : _root_.Go.ChangeSpec) : _root_.Go.OpenSpec := { _root_.Go.OpenSpec.ofChange s with cond := some uptoSmall }

/-- 'switchbacklaw17.RelaxAnswers', WHERE WHAT IT READS IS OF BULK AT MOST 1048576: true; the input reads as it did. -/
def relaxAnswersUptoRow : OpenClaim := { program := "ytbbfjlheaaalkaadoor", sum := "64e038d1651c45f94a2b4a78a4583bd6ee5656beec3b7e49349731fb3ac2f364", func := "switchback/switchbacklaw17.RelaxAnswers", spec := "relaxAnswers", named := ["switchback/enc.forms"], apart := false, laid := [("switchback/enc.forms", laid_switchback_enc_forms)], narrowed := true }
def RelaxAnswersUptoSaid : Prop := relaxAnswersUptoRow.holds Tryd.pinned (OpenSpec.upto relaxAnswersSpec)

/-- 'switchbacklaw17.RelaxAll', WHERE WHAT IT READS IS OF BULK AT MOST 1048576: true; the input reads as it did. -/
def relaxAllUptoRow : OpenClaim := { program := "ytbbfjlheaaalkaadoor", sum := "64e038d1651c45f94a2b4a78a4583bd6ee5656beec3b7e49349731fb3ac2f364", func := "switchback/switchbacklaw17.RelaxAll", spec := "relaxAll", named := ["switchback/enc.forms"], apart := false, laid := [("switchback/enc.forms", laid_switchback_enc_forms)], narrowed := true }
def RelaxAllUptoSaid : Prop := relaxAllUptoRow.holds Tryd.pinned (OpenSpec.upto relaxAllSpec)

/-- 'switchbacklaw17.RelaxLabels', WHERE WHAT IT READS IS OF BULK AT MOST 1048576: true; the input reads as it did. -/
def relaxLabelsUptoRow : OpenClaim := { program := "ytbbfjlheaaalkaadoor", sum := "64e038d1651c45f94a2b4a78a4583bd6ee5656beec3b7e49349731fb3ac2f364", func := "switchback/switchbacklaw17.RelaxLabels", spec := "relaxLabels", named := ["switchback/enc.forms"], apart := false, laid := [("switchback/enc.forms", laid_switchback_enc_forms)], narrowed := true }
def RelaxLabelsUptoSaid : Prop := relaxLabelsUptoRow.holds Tryd.pinned (OpenSpec.upto relaxLabelsSpec)

end Rows
end Go.Proofs.YtbbfjlheaaalkaaDoor
