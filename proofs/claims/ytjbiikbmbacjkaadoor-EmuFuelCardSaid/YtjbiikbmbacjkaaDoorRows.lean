/-
  NARROWER THAN 'FOR EVERY INPUT', by the rows' own cells (each row's printed sentence says how): EmuRuns: laid · EmuFuel: laid · EmuKinds: laid · EmuAny: laid · EmuBehind: laid · EmuRegisters: laid · EmuIdle: laid · EmuNoughts: laid.
  DERIVED. THE GIVEN ROWS OF THIS SEAT. 8 by the template 'for every input the law returns true; each argument reads behind the call as it read before'; 0 by the template 'total and deterministic' (their statements: YtjbiikbmbacjkaaDoorTotals.lean).
  GIVEN WITH THE SEED: the statements are not yours to turn. If you find one false, say at which input.
  Laid BY PROGRAM, IN A SANDBOX (cutbox-rows.mjs): the forced cells as the released guide's own fill.sh prints them over the translation 079d58bebe0cdaf7… (all of the seat's roots in one cut). By AI agents, Wed Nov 11 2026. No macro, syntax, notation, axiom, sorry.
-/
import Derived.Test.YtjbiikbmbacjkaaDoorChecked
import GoSem.Claim
import GoSem.ClaimJoined
import GoSem.ClaimMapViews
import Derived.JoinedTies
import Derived.KernelRfl
namespace Go.Proofs.YtjbiikbmbacjkaaDoor
/- THE CELL 'sum', in the pinned program and in every row, IS THE sha256 OF THE DUMP (.gsa) THAT YtjbiikbmbacjkaaDoorProg.lean LOADS. Nothing in Lean hashes anything: it is a label: what it is worth is what the hold of that sum in a sandbox is worth. -/
noncomputable def Tryd.pinned : Pinned := { name := "ytjbiikbmbacjkaadoor", sum := "079d58bebe0cdaf7e0a5b5ae274361721aa15f38bf3d5aa82b6b120caa41469e", checked := Tryd.checked }
namespace Rows
def none {H : Type} : Left H := { results := [], args := [] }

/- WHAT THE LISTED PACKAGE-LEVEL VARIABLES READ AS WHEN THE CALL BEGINS. Each datum BY PROGRAM (the guide's laid-datum.mjs) off the statement by which the dump's own 'gosem.cut.vars' lays the variable. In a bare row this is a premise. The card (YtjbiikbmbacjkaaDoorCards.lean) ties it to the program's text. -/
def laid_switchback_enc_forms {H : Type} : DataW H := .agg [.lit (.int .i64 0), .lit (.int .i64 0), .lit (.int .i64 1), .lit (.int .i64 2), .lit (.int .i64 3), .lit (.int .i64 4), .lit (.int .i64 4), .lit (.int .i64 4), .lit (.int .i64 4), .lit (.int .i64 4), .lit (.int .i64 4), .lit (.int .i64 4), .lit (.int .i64 4), .lit (.int .i64 4), .lit (.int .i64 4), .lit (.int .i64 4), .lit (.int .i64 4), .lit (.int .i64 4), .lit (.int .i64 4), .lit (.int .i64 4), .lit (.int .i64 4), .lit (.int .i64 4), .lit (.int .i64 4), .lit (.int .i64 4), .lit (.int .i64 2), .lit (.int .i64 2), .lit (.int .i64 2), .lit (.int .i64 3), .lit (.int .i64 3), .lit (.int .i64 2), .lit (.int .i64 5), .lit (.int .i64 5), .lit (.int .i64 5), .lit (.int .i64 5), .lit (.int .i64 5), .lit (.int .i64 5), .lit (.int .i64 5), .lit (.int .i64 5), .lit (.int .i64 5), .lit (.int .i64 5), .lit (.int .i64 6), .lit (.int .i64 7), .lit (.int .i64 1), .lit (.int .i64 7), .lit (.int .i64 7), .lit (.int .i64 1), .lit (.int .i64 1), .lit (.int .i64 1), .lit (.int .i64 8)]

/-- 'switchbacklaw18.EmuRuns': WHATEVER THE INPUT: true; the input reads as it did. -/
def emuRunsSpec : ChangeSpec := { name := "emuRuns", fn := fun _ => fun
  | [d1, d2, d3] => { results := [.lit (.bool true)], args := [d1, d2, d3] }
  | _ => none }
def emuRunsRow : OpenClaim := { program := "ytjbiikbmbacjkaadoor", sum := "079d58bebe0cdaf7e0a5b5ae274361721aa15f38bf3d5aa82b6b120caa41469e", func := "switchback/switchbacklaw18.EmuRuns", spec := "emuRuns", inPlace := ["internal/abi.NoEscape"], unfollowed := true, recurses := true, named := ["switchback/enc.forms"], apart := false, laid := [("switchback/enc.forms", laid_switchback_enc_forms)] }
def EmuRunsSaid : Prop := emuRunsRow.holds Tryd.pinned (OpenSpec.ofChange emuRunsSpec)

/-- ITS FALSE NEIGHBOUR: 'it returns false'. Refute it at one input. -/
def emuRunsWrong : ChangeSpec := { name := "emuRuns", fn := fun _ => fun
  | [d1, d2, d3] => { results := [.lit (.bool false)], args := [d1, d2, d3] }
  | _ => none }
def EmuRunsWrongFalsely : Prop := emuRunsRow.holds Tryd.pinned (OpenSpec.ofChange emuRunsWrong)

/-- 'switchbacklaw18.EmuFuel': WHATEVER THE INPUT: true; the input reads as it did. -/
def emuFuelSpec : ChangeSpec := { name := "emuFuel", fn := fun _ => fun
  | [d1, d2, d3, d4] => { results := [.lit (.bool true)], args := [d1, d2, d3, d4] }
  | _ => none }
def emuFuelRow : OpenClaim := { program := "ytjbiikbmbacjkaadoor", sum := "079d58bebe0cdaf7e0a5b5ae274361721aa15f38bf3d5aa82b6b120caa41469e", func := "switchback/switchbacklaw18.EmuFuel", spec := "emuFuel", inPlace := ["internal/abi.NoEscape"], unfollowed := true, recurses := true, named := ["switchback/enc.forms"], apart := false, laid := [("switchback/enc.forms", laid_switchback_enc_forms)] }
def EmuFuelSaid : Prop := emuFuelRow.holds Tryd.pinned (OpenSpec.ofChange emuFuelSpec)

/-- ITS FALSE NEIGHBOUR: 'it returns false'. Refute it at one input. -/
def emuFuelWrong : ChangeSpec := { name := "emuFuel", fn := fun _ => fun
  | [d1, d2, d3, d4] => { results := [.lit (.bool false)], args := [d1, d2, d3, d4] }
  | _ => none }
def EmuFuelWrongFalsely : Prop := emuFuelRow.holds Tryd.pinned (OpenSpec.ofChange emuFuelWrong)

/-- 'switchbacklaw18.EmuKinds': WHATEVER THE INPUT: true; the input reads as it did. -/
def emuKindsSpec : ChangeSpec := { name := "emuKinds", fn := fun _ => fun
  | [d1, d2, d3] => { results := [.lit (.bool true)], args := [d1, d2, d3] }
  | _ => none }
def emuKindsRow : OpenClaim := { program := "ytjbiikbmbacjkaadoor", sum := "079d58bebe0cdaf7e0a5b5ae274361721aa15f38bf3d5aa82b6b120caa41469e", func := "switchback/switchbacklaw18.EmuKinds", spec := "emuKinds", inPlace := ["internal/abi.NoEscape"], unfollowed := true, recurses := true, named := ["switchback/enc.forms"], apart := false, laid := [("switchback/enc.forms", laid_switchback_enc_forms)] }
def EmuKindsSaid : Prop := emuKindsRow.holds Tryd.pinned (OpenSpec.ofChange emuKindsSpec)

/-- ITS FALSE NEIGHBOUR: 'it returns false'. Refute it at one input. -/
def emuKindsWrong : ChangeSpec := { name := "emuKinds", fn := fun _ => fun
  | [d1, d2, d3] => { results := [.lit (.bool false)], args := [d1, d2, d3] }
  | _ => none }
def EmuKindsWrongFalsely : Prop := emuKindsRow.holds Tryd.pinned (OpenSpec.ofChange emuKindsWrong)

/-- 'switchbacklaw18.EmuAny': WHATEVER THE INPUT: true; the input reads as it did. -/
def emuAnySpec : ChangeSpec := { name := "emuAny", fn := fun _ => fun
  | [d1, d2, d3, d4, d5] => { results := [.lit (.bool true)], args := [d1, d2, d3, d4, d5] }
  | _ => none }
def emuAnyRow : OpenClaim := { program := "ytjbiikbmbacjkaadoor", sum := "079d58bebe0cdaf7e0a5b5ae274361721aa15f38bf3d5aa82b6b120caa41469e", func := "switchback/switchbacklaw18.EmuAny", spec := "emuAny", inPlace := ["internal/abi.NoEscape"], unfollowed := true, recurses := true, named := ["switchback/enc.forms"], apart := false, laid := [("switchback/enc.forms", laid_switchback_enc_forms)] }
def EmuAnySaid : Prop := emuAnyRow.holds Tryd.pinned (OpenSpec.ofChange emuAnySpec)

/-- ITS FALSE NEIGHBOUR: 'it returns false'. Refute it at one input. -/
def emuAnyWrong : ChangeSpec := { name := "emuAny", fn := fun _ => fun
  | [d1, d2, d3, d4, d5] => { results := [.lit (.bool false)], args := [d1, d2, d3, d4, d5] }
  | _ => none }
def EmuAnyWrongFalsely : Prop := emuAnyRow.holds Tryd.pinned (OpenSpec.ofChange emuAnyWrong)

/-- 'switchbacklaw18.EmuBehind': WHATEVER THE INPUT: true; the input reads as it did. -/
def emuBehindSpec : ChangeSpec := { name := "emuBehind", fn := fun _ => fun
  | [d1, d2, d3] => { results := [.lit (.bool true)], args := [d1, d2, d3] }
  | _ => none }
def emuBehindRow : OpenClaim := { program := "ytjbiikbmbacjkaadoor", sum := "079d58bebe0cdaf7e0a5b5ae274361721aa15f38bf3d5aa82b6b120caa41469e", func := "switchback/switchbacklaw18.EmuBehind", spec := "emuBehind", inPlace := ["internal/abi.NoEscape"], unfollowed := true, recurses := true, named := ["switchback/enc.forms"], apart := false, laid := [("switchback/enc.forms", laid_switchback_enc_forms)] }
def EmuBehindSaid : Prop := emuBehindRow.holds Tryd.pinned (OpenSpec.ofChange emuBehindSpec)

/-- ITS FALSE NEIGHBOUR: 'it returns false'. Refute it at one input. -/
def emuBehindWrong : ChangeSpec := { name := "emuBehind", fn := fun _ => fun
  | [d1, d2, d3] => { results := [.lit (.bool false)], args := [d1, d2, d3] }
  | _ => none }
def EmuBehindWrongFalsely : Prop := emuBehindRow.holds Tryd.pinned (OpenSpec.ofChange emuBehindWrong)

/-- 'switchbacklaw18.EmuRegisters': WHATEVER THE INPUT: true; the input reads as it did. -/
def emuRegistersSpec : ChangeSpec := { name := "emuRegisters", fn := fun _ => fun
  | [d1, d2, d3, d4, d5] => { results := [.lit (.bool true)], args := [d1, d2, d3, d4, d5] }
  | _ => none }
def emuRegistersRow : OpenClaim := { program := "ytjbiikbmbacjkaadoor", sum := "079d58bebe0cdaf7e0a5b5ae274361721aa15f38bf3d5aa82b6b120caa41469e", func := "switchback/switchbacklaw18.EmuRegisters", spec := "emuRegisters", inPlace := ["internal/abi.NoEscape"], unfollowed := true, recurses := true, named := ["switchback/enc.forms"], apart := false, laid := [("switchback/enc.forms", laid_switchback_enc_forms)] }
def EmuRegistersSaid : Prop := emuRegistersRow.holds Tryd.pinned (OpenSpec.ofChange emuRegistersSpec)

/-- ITS FALSE NEIGHBOUR: 'it returns false'. Refute it at one input. -/
def emuRegistersWrong : ChangeSpec := { name := "emuRegisters", fn := fun _ => fun
  | [d1, d2, d3, d4, d5] => { results := [.lit (.bool false)], args := [d1, d2, d3, d4, d5] }
  | _ => none }
def EmuRegistersWrongFalsely : Prop := emuRegistersRow.holds Tryd.pinned (OpenSpec.ofChange emuRegistersWrong)

/-- 'switchbacklaw18.EmuIdle': WHATEVER THE INPUT: true; the input reads as it did. -/
def emuIdleSpec : ChangeSpec := { name := "emuIdle", fn := fun _ => fun
  | [d1, d2, d3, d4, d5] => { results := [.lit (.bool true)], args := [d1, d2, d3, d4, d5] }
  | _ => none }
def emuIdleRow : OpenClaim := { program := "ytjbiikbmbacjkaadoor", sum := "079d58bebe0cdaf7e0a5b5ae274361721aa15f38bf3d5aa82b6b120caa41469e", func := "switchback/switchbacklaw18.EmuIdle", spec := "emuIdle", inPlace := ["internal/abi.NoEscape"], unfollowed := true, recurses := true, named := ["switchback/enc.forms"], apart := false, laid := [("switchback/enc.forms", laid_switchback_enc_forms)] }
def EmuIdleSaid : Prop := emuIdleRow.holds Tryd.pinned (OpenSpec.ofChange emuIdleSpec)

/-- ITS FALSE NEIGHBOUR: 'it returns false'. Refute it at one input. -/
def emuIdleWrong : ChangeSpec := { name := "emuIdle", fn := fun _ => fun
  | [d1, d2, d3, d4, d5] => { results := [.lit (.bool false)], args := [d1, d2, d3, d4, d5] }
  | _ => none }
def EmuIdleWrongFalsely : Prop := emuIdleRow.holds Tryd.pinned (OpenSpec.ofChange emuIdleWrong)

/-- 'switchbacklaw18.EmuNoughts': WHATEVER THE INPUT: true; the input reads as it did. -/
def emuNoughtsSpec : ChangeSpec := { name := "emuNoughts", fn := fun _ => fun
  | [d1, d2, d3, d4] => { results := [.lit (.bool true)], args := [d1, d2, d3, d4] }
  | _ => none }
def emuNoughtsRow : OpenClaim := { program := "ytjbiikbmbacjkaadoor", sum := "079d58bebe0cdaf7e0a5b5ae274361721aa15f38bf3d5aa82b6b120caa41469e", func := "switchback/switchbacklaw18.EmuNoughts", spec := "emuNoughts", inPlace := ["internal/abi.NoEscape"], unfollowed := true, recurses := true, named := ["switchback/enc.forms"], apart := false, laid := [("switchback/enc.forms", laid_switchback_enc_forms)] }
def EmuNoughtsSaid : Prop := emuNoughtsRow.holds Tryd.pinned (OpenSpec.ofChange emuNoughtsSpec)

/-- ITS FALSE NEIGHBOUR: 'it returns false'. Refute it at one input. -/
def emuNoughtsWrong : ChangeSpec := { name := "emuNoughts", fn := fun _ => fun
  | [d1, d2, d3, d4] => { results := [.lit (.bool false)], args := [d1, d2, d3, d4] }
  | _ => none }
def EmuNoughtsWrongFalsely : Prop := emuNoughtsRow.holds Tryd.pinned (OpenSpec.ofChange emuNoughtsWrong)

/- THE SECOND FORM. 'bulk': how many values and letters a reading holds, each counted each time it is reached (what is shared counts as often as it is met; a slice's spare places count too). A statement '..UptoSaid' is the law's where the arguments, and the package variables that the reading takes, are together of bulk at most 1048576: NARROWER than '..Said'. Prove '..Said' where nothing that the law and all that it calls make is longer than what came in: it says more and counts as full. Else prove '..UptoSaid'. A law counts once. -/
mutual
def uptoBulk {H : Type} : DataW H → Nat
  | .lit (.string bytes) => bytes.length + 1
  | .lit _ => 1
  | .nil => 1
  | .ptr d => uptoBulk d + 1
  | .slice elems spare => uptoBulkAll elems + uptoBulkAll spare + 1
  | .agg parts => uptoBulkAll parts + 1
  | .iface _ d => uptoBulk d + 1
  | .map entries => uptoBulkEntries entries + 1
  | .held _ => 1
def uptoBulkAll {H : Type} : List (DataW H) → Nat
  | [] => 0
  | d :: r => uptoBulk d + uptoBulkAll r
def uptoBulkEntries {H : Type} : List (Lit × DataW H) → Nat
  | [] => 0
  | x :: r => uptoBulkEntry x + uptoBulkEntries r
def uptoBulkEntry {H : Type} : Lit × DataW H → Nat
  | (.string bytes, d) => bytes.length + uptoBulk d + 1
  | (_, d) => uptoBulk d + 1
 end
def uptoSmall : (H : Type) → List (DataW H) → Bool := fun _ ds => decide (uptoBulkAll ds ≤ 1048576)
def OpenSpec.upto (s : _root_.Go.ChangeSpec) : _root_.Go.OpenSpec := { _root_.Go.OpenSpec.ofChange s with cond := some uptoSmall }

/-- 'switchbacklaw18.EmuRuns', WHERE WHAT IT READS IS OF BULK AT MOST 1048576: true; the input reads as it did. -/
def emuRunsUptoRow : OpenClaim := { program := "ytjbiikbmbacjkaadoor", sum := "079d58bebe0cdaf7e0a5b5ae274361721aa15f38bf3d5aa82b6b120caa41469e", func := "switchback/switchbacklaw18.EmuRuns", spec := "emuRuns", inPlace := ["internal/abi.NoEscape"], unfollowed := true, recurses := true, named := ["switchback/enc.forms"], apart := false, laid := [("switchback/enc.forms", laid_switchback_enc_forms)], narrowed := true }
def EmuRunsUptoSaid : Prop := emuRunsUptoRow.holds Tryd.pinned (OpenSpec.upto emuRunsSpec)

/-- 'switchbacklaw18.EmuFuel', WHERE WHAT IT READS IS OF BULK AT MOST 1048576: true; the input reads as it did. -/
def emuFuelUptoRow : OpenClaim := { program := "ytjbiikbmbacjkaadoor", sum := "079d58bebe0cdaf7e0a5b5ae274361721aa15f38bf3d5aa82b6b120caa41469e", func := "switchback/switchbacklaw18.EmuFuel", spec := "emuFuel", inPlace := ["internal/abi.NoEscape"], unfollowed := true, recurses := true, named := ["switchback/enc.forms"], apart := false, laid := [("switchback/enc.forms", laid_switchback_enc_forms)], narrowed := true }
def EmuFuelUptoSaid : Prop := emuFuelUptoRow.holds Tryd.pinned (OpenSpec.upto emuFuelSpec)

/-- 'switchbacklaw18.EmuKinds', WHERE WHAT IT READS IS OF BULK AT MOST 1048576: true; the input reads as it did. -/
def emuKindsUptoRow : OpenClaim := { program := "ytjbiikbmbacjkaadoor", sum := "079d58bebe0cdaf7e0a5b5ae274361721aa15f38bf3d5aa82b6b120caa41469e", func := "switchback/switchbacklaw18.EmuKinds", spec := "emuKinds", inPlace := ["internal/abi.NoEscape"], unfollowed := true, recurses := true, named := ["switchback/enc.forms"], apart := false, laid := [("switchback/enc.forms", laid_switchback_enc_forms)], narrowed := true }
def EmuKindsUptoSaid : Prop := emuKindsUptoRow.holds Tryd.pinned (OpenSpec.upto emuKindsSpec)

/-- 'switchbacklaw18.EmuAny', WHERE WHAT IT READS IS OF BULK AT MOST 1048576: true; the input reads as it did. -/
def emuAnyUptoRow : OpenClaim := { program := "ytjbiikbmbacjkaadoor", sum := "079d58bebe0cdaf7e0a5b5ae274361721aa15f38bf3d5aa82b6b120caa41469e", func := "switchback/switchbacklaw18.EmuAny", spec := "emuAny", inPlace := ["internal/abi.NoEscape"], unfollowed := true, recurses := true, named := ["switchback/enc.forms"], apart := false, laid := [("switchback/enc.forms", laid_switchback_enc_forms)], narrowed := true }
def EmuAnyUptoSaid : Prop := emuAnyUptoRow.holds Tryd.pinned (OpenSpec.upto emuAnySpec)

/-- 'switchbacklaw18.EmuBehind', WHERE WHAT IT READS IS OF BULK AT MOST 1048576: true; the input reads as it did. -/
def emuBehindUptoRow : OpenClaim := { program := "ytjbiikbmbacjkaadoor", sum := "079d58bebe0cdaf7e0a5b5ae274361721aa15f38bf3d5aa82b6b120caa41469e", func := "switchback/switchbacklaw18.EmuBehind", spec := "emuBehind", inPlace := ["internal/abi.NoEscape"], unfollowed := true, recurses := true, named := ["switchback/enc.forms"], apart := false, laid := [("switchback/enc.forms", laid_switchback_enc_forms)], narrowed := true }
def EmuBehindUptoSaid : Prop := emuBehindUptoRow.holds Tryd.pinned (OpenSpec.upto emuBehindSpec)

/-- 'switchbacklaw18.EmuRegisters', WHERE WHAT IT READS IS OF BULK AT MOST 1048576: true; the input reads as it did. -/
def emuRegistersUptoRow : OpenClaim := { program := "ytjbiikbmbacjkaadoor", sum := "079d58bebe0cdaf7e0a5b5ae274361721aa15f38bf3d5aa82b6b120caa41469e", func := "switchback/switchbacklaw18.EmuRegisters", spec := "emuRegisters", inPlace := ["internal/abi.NoEscape"], unfollowed := true, recurses := true, named := ["switchback/enc.forms"], apart := false, laid := [("switchback/enc.forms", laid_switchback_enc_forms)], narrowed := true }
def EmuRegistersUptoSaid : Prop := emuRegistersUptoRow.holds Tryd.pinned (OpenSpec.upto emuRegistersSpec)

/-- 'switchbacklaw18.EmuIdle', WHERE WHAT IT READS IS OF BULK AT MOST 1048576: true; the input reads as it did. -/
def emuIdleUptoRow : OpenClaim := { program := "ytjbiikbmbacjkaadoor", sum := "079d58bebe0cdaf7e0a5b5ae274361721aa15f38bf3d5aa82b6b120caa41469e", func := "switchback/switchbacklaw18.EmuIdle", spec := "emuIdle", inPlace := ["internal/abi.NoEscape"], unfollowed := true, recurses := true, named := ["switchback/enc.forms"], apart := false, laid := [("switchback/enc.forms", laid_switchback_enc_forms)], narrowed := true }
def EmuIdleUptoSaid : Prop := emuIdleUptoRow.holds Tryd.pinned (OpenSpec.upto emuIdleSpec)

/-- 'switchbacklaw18.EmuNoughts', WHERE WHAT IT READS IS OF BULK AT MOST 1048576: true; the input reads as it did. -/
def emuNoughtsUptoRow : OpenClaim := { program := "ytjbiikbmbacjkaadoor", sum := "079d58bebe0cdaf7e0a5b5ae274361721aa15f38bf3d5aa82b6b120caa41469e", func := "switchback/switchbacklaw18.EmuNoughts", spec := "emuNoughts", inPlace := ["internal/abi.NoEscape"], unfollowed := true, recurses := true, named := ["switchback/enc.forms"], apart := false, laid := [("switchback/enc.forms", laid_switchback_enc_forms)], narrowed := true }
def EmuNoughtsUptoSaid : Prop := emuNoughtsUptoRow.holds Tryd.pinned (OpenSpec.upto emuNoughtsSpec)

end Rows
end Go.Proofs.YtjbiikbmbacjkaaDoor
