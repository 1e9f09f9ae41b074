/-
  NARROWER THAN 'FOR EVERY INPUT', by the rows' own cells (each row's printed sentence says how): ParseTrees: laid · ParseBrackets: laid · ParseCuts: laid · ParseJoined: laid · ParseBlocks: laid.
  DERIVED. THE GIVEN ROWS OF THIS SEAT. 5 by the template 'for every input the law returns true; each argument reads behind the call as it read before'; 0 by the template 'total and deterministic' (their statements: YteggenldmkbhiaaDoorTotals.lean).
  GIVEN WITH THE SEED: the statements are not yours to turn. If you find one false, say at which input.
  Laid BY PROGRAM, IN A SANDBOX (cutbox-rows.mjs): the forced cells as the released guide's own fill.sh prints them over the translation 01131edcfcabd6ea… (all of the seat's roots in one cut). By AI agents, Wed Nov 11 2026. No macro, syntax, notation, axiom, sorry.
-/
import Derived.Test.YteggenldmkbhiaaDoorChecked
import GoSem.Claim
import GoSem.ClaimJoined
import GoSem.ClaimMapViews
import Derived.JoinedTies
import Derived.KernelRfl
namespace Go.Proofs.YteggenldmkbhiaaDoor
/- THE CELL 'sum', in the pinned program and in every row, IS THE sha256 OF THE DUMP (.gsa) THAT YteggenldmkbhiaaDoorProg.lean LOADS. Nothing in Lean hashes anything: it is a label: what it is worth is what the hold of that sum in a sandbox is worth. -/
noncomputable def Tryd.pinned : Pinned := { name := "yteggenldmkbhiaadoor", sum := "01131edcfcabd6ea5b3fc85b12f6142a84c1c57530cd8a644aec8de4fcc69c92", checked := Tryd.checked }
namespace Rows
def none {H : Type} : Left H := { results := [], args := [] }

/- WHAT THE LISTED PACKAGE-LEVEL VARIABLES READ AS WHEN THE CALL BEGINS. Each datum BY PROGRAM (the guide's laid-datum.mjs) off the statement by which the dump's own 'gosem.cut.vars' lays the variable. In a bare row this is a premise. The card (YteggenldmkbhiaaDoorCards.lean) ties it to the program's text. -/
def laid_switchback_parse_operators {H : Type} : DataW H := .agg [.agg [.lit (.string [124, 124]), .lit (.int .i64 8), .lit (.int .i64 0), .lit (.int .i64 1)], .agg [.lit (.string [38, 38]), .lit (.int .i64 7), .lit (.int .i64 0), .lit (.int .i64 2)], .agg [.lit (.string [124]), .lit (.int .i64 6), .lit (.int .i64 9), .lit (.int .i64 3)], .agg [.lit (.string [94]), .lit (.int .i64 6), .lit (.int .i64 10), .lit (.int .i64 4)], .agg [.lit (.string [38]), .lit (.int .i64 6), .lit (.int .i64 8), .lit (.int .i64 5)], .agg [.lit (.string [61, 61]), .lit (.int .i64 6), .lit (.int .i64 11), .lit (.int .i64 6)], .agg [.lit (.string [33, 61]), .lit (.int .i64 6), .lit (.int .i64 12), .lit (.int .i64 6)], .agg [.lit (.string [60]), .lit (.int .i64 6), .lit (.int .i64 13), .lit (.int .i64 7)], .agg [.lit (.string [60, 61]), .lit (.int .i64 6), .lit (.int .i64 14), .lit (.int .i64 7)], .agg [.lit (.string [62]), .lit (.int .i64 6), .lit (.int .i64 15), .lit (.int .i64 7)], .agg [.lit (.string [62, 61]), .lit (.int .i64 6), .lit (.int .i64 16), .lit (.int .i64 7)], .agg [.lit (.string [60, 60]), .lit (.int .i64 6), .lit (.int .i64 6), .lit (.int .i64 8)], .agg [.lit (.string [62, 62]), .lit (.int .i64 6), .lit (.int .i64 7), .lit (.int .i64 8)], .agg [.lit (.string [43]), .lit (.int .i64 6), .lit (.int .i64 1), .lit (.int .i64 9)], .agg [.lit (.string [45]), .lit (.int .i64 6), .lit (.int .i64 2), .lit (.int .i64 9)], .agg [.lit (.string [42]), .lit (.int .i64 6), .lit (.int .i64 3), .lit (.int .i64 10)], .agg [.lit (.string [47]), .lit (.int .i64 6), .lit (.int .i64 4), .lit (.int .i64 10)], .agg [.lit (.string [37]), .lit (.int .i64 6), .lit (.int .i64 5), .lit (.int .i64 10)]]

/-- 'switchbacklaw02.ParseTrees': WHATEVER THE INPUT: true; the input reads as it did. -/
def parseTreesSpec : ChangeSpec := { name := "parseTrees", fn := fun _ => fun
  | [d] => { results := [.lit (.bool true)], args := [d] }
  | _ => none }
def parseTreesRow : OpenClaim := { program := "yteggenldmkbhiaadoor", sum := "01131edcfcabd6ea5b3fc85b12f6142a84c1c57530cd8a644aec8de4fcc69c92", func := "switchback/switchbacklaw02.ParseTrees", spec := "parseTrees", unfollowed := true, recurses := true, named := ["switchback/parse.operators"], apart := false, laid := [("switchback/parse.operators", laid_switchback_parse_operators)] }
def ParseTreesSaid : Prop := parseTreesRow.holds Tryd.pinned (OpenSpec.ofChange parseTreesSpec)

/-- ITS FALSE NEIGHBOUR: 'it returns false'. Refute it at one input. -/
def parseTreesWrong : ChangeSpec := { name := "parseTrees", fn := fun _ => fun
  | [d] => { results := [.lit (.bool false)], args := [d] }
  | _ => none }
def ParseTreesWrongFalsely : Prop := parseTreesRow.holds Tryd.pinned (OpenSpec.ofChange parseTreesWrong)

/-- 'switchbacklaw02.ParseBrackets': WHATEVER THE INPUT: true; the input reads as it did. -/
def parseBracketsSpec : ChangeSpec := { name := "parseBrackets", fn := fun _ => fun
  | [d] => { results := [.lit (.bool true)], args := [d] }
  | _ => none }
def parseBracketsRow : OpenClaim := { program := "yteggenldmkbhiaadoor", sum := "01131edcfcabd6ea5b3fc85b12f6142a84c1c57530cd8a644aec8de4fcc69c92", func := "switchback/switchbacklaw02.ParseBrackets", spec := "parseBrackets", unfollowed := true, recurses := true, named := ["switchback/parse.operators"], apart := false, laid := [("switchback/parse.operators", laid_switchback_parse_operators)] }
def ParseBracketsSaid : Prop := parseBracketsRow.holds Tryd.pinned (OpenSpec.ofChange parseBracketsSpec)

/-- ITS FALSE NEIGHBOUR: 'it returns false'. Refute it at one input. -/
def parseBracketsWrong : ChangeSpec := { name := "parseBrackets", fn := fun _ => fun
  | [d] => { results := [.lit (.bool false)], args := [d] }
  | _ => none }
def ParseBracketsWrongFalsely : Prop := parseBracketsRow.holds Tryd.pinned (OpenSpec.ofChange parseBracketsWrong)

/-- 'switchbacklaw02.ParseCuts': WHATEVER THE INPUT: true; the input reads as it did. -/
def parseCutsSpec : ChangeSpec := { name := "parseCuts", fn := fun _ => fun
  | [d1, d2] => { results := [.lit (.bool true)], args := [d1, d2] }
  | _ => none }
def parseCutsRow : OpenClaim := { program := "yteggenldmkbhiaadoor", sum := "01131edcfcabd6ea5b3fc85b12f6142a84c1c57530cd8a644aec8de4fcc69c92", func := "switchback/switchbacklaw02.ParseCuts", spec := "parseCuts", unfollowed := true, recurses := true, named := ["switchback/parse.operators"], apart := false, laid := [("switchback/parse.operators", laid_switchback_parse_operators)] }
def ParseCutsSaid : Prop := parseCutsRow.holds Tryd.pinned (OpenSpec.ofChange parseCutsSpec)

/-- ITS FALSE NEIGHBOUR: 'it returns false'. Refute it at one input. -/
def parseCutsWrong : ChangeSpec := { name := "parseCuts", fn := fun _ => fun
  | [d1, d2] => { results := [.lit (.bool false)], args := [d1, d2] }
  | _ => none }
def ParseCutsWrongFalsely : Prop := parseCutsRow.holds Tryd.pinned (OpenSpec.ofChange parseCutsWrong)

/-- 'switchbacklaw02.ParseJoined': WHATEVER THE INPUT: true; the input reads as it did. -/
def parseJoinedSpec : ChangeSpec := { name := "parseJoined", fn := fun _ => fun
  | [d1, d2] => { results := [.lit (.bool true)], args := [d1, d2] }
  | _ => none }
def parseJoinedRow : OpenClaim := { program := "yteggenldmkbhiaadoor", sum := "01131edcfcabd6ea5b3fc85b12f6142a84c1c57530cd8a644aec8de4fcc69c92", func := "switchback/switchbacklaw02.ParseJoined", spec := "parseJoined", unfollowed := true, recurses := true, named := ["switchback/parse.operators"], apart := false, laid := [("switchback/parse.operators", laid_switchback_parse_operators)] }
def ParseJoinedSaid : Prop := parseJoinedRow.holds Tryd.pinned (OpenSpec.ofChange parseJoinedSpec)

/-- ITS FALSE NEIGHBOUR: 'it returns false'. Refute it at one input. -/
def parseJoinedWrong : ChangeSpec := { name := "parseJoined", fn := fun _ => fun
  | [d1, d2] => { results := [.lit (.bool false)], args := [d1, d2] }
  | _ => none }
def ParseJoinedWrongFalsely : Prop := parseJoinedRow.holds Tryd.pinned (OpenSpec.ofChange parseJoinedWrong)

/-- 'switchbacklaw02.ParseBlocks': WHATEVER THE INPUT: true; the input reads as it did. -/
def parseBlocksSpec : ChangeSpec := { name := "parseBlocks", fn := fun _ => fun
  | [d] => { results := [.lit (.bool true)], args := [d] }
  | _ => none }
def parseBlocksRow : OpenClaim := { program := "yteggenldmkbhiaadoor", sum := "01131edcfcabd6ea5b3fc85b12f6142a84c1c57530cd8a644aec8de4fcc69c92", func := "switchback/switchbacklaw02.ParseBlocks", spec := "parseBlocks", unfollowed := true, recurses := true, named := ["switchback/parse.operators"], apart := false, laid := [("switchback/parse.operators", laid_switchback_parse_operators)] }
def ParseBlocksSaid : Prop := parseBlocksRow.holds Tryd.pinned (OpenSpec.ofChange parseBlocksSpec)

/-- ITS FALSE NEIGHBOUR: 'it returns false'. Refute it at one input. -/
def parseBlocksWrong : ChangeSpec := { name := "parseBlocks", fn := fun _ => fun
  | [d] => { results := [.lit (.bool false)], args := [d] }
  | _ => none }
def ParseBlocksWrongFalsely : Prop := parseBlocksRow.holds Tryd.pinned (OpenSpec.ofChange parseBlocksWrong)

/- THE SECOND FORM. 'bulk': how many values and letters a reading holds, each counted each time it is reached (what is shared counts as often as it is met; a slice's spare places count too). A statement '..UptoSaid' is the law's where the arguments, and the package variables that the reading takes, are together of bulk at most 1048576: NARROWER than '..Said'. Prove '..Said' where nothing that the law and all that it calls make is longer than what came in: it says more and counts as full. Else prove '..UptoSaid'. A law counts once. -/
mutual
def uptoBulk {H : Type} : DataW H → Nat
  | .lit (.string bytes) => bytes.length + 1
  | .lit _ => 1
  | .nil => 1
  | .ptr d => uptoBulk d + 1
  | .slice elems spare => uptoBulkAll elems + uptoBulkAll spare + 1
  | .agg parts => uptoBulkAll parts + 1
  | .iface _ d => uptoBulk d + 1
  | .map entries => uptoBulkEntries entries + 1
  | .held _ => 1
def uptoBulkAll {H : Type} : List (DataW H) → Nat
  | [] => 0
  | d :: r => uptoBulk d + uptoBulkAll r
def uptoBulkEntries {H : Type} : List (Lit × DataW H) → Nat
  | [] => 0
  | x :: r => uptoBulkEntry x + uptoBulkEntries r
def uptoBulkEntry {H : Type} : Lit × DataW H → Nat
  | (.string bytes, d) => bytes.length + uptoBulk d + 1
  | (_, d) => uptoBulk d + 1
 end
def uptoSmall : (H : Type) → List (DataW H) → Bool := fun _ ds => decide (uptoBulkAll ds ≤ 1048576)
def OpenSpec.upto (s : _root_.Go.ChangeSpec) : _root_.Go.OpenSpec := { _root_.Go.OpenSpec.ofChange s with cond := some uptoSmall }

/-- 'switchbacklaw02.ParseTrees', WHERE WHAT IT READS IS OF BULK AT MOST 1048576: true; the input reads as it did. -/
def parseTreesUptoRow : OpenClaim := { program := "yteggenldmkbhiaadoor", sum := "01131edcfcabd6ea5b3fc85b12f6142a84c1c57530cd8a644aec8de4fcc69c92", func := "switchback/switchbacklaw02.ParseTrees", spec := "parseTrees", unfollowed := true, recurses := true, named := ["switchback/parse.operators"], apart := false, laid := [("switchback/parse.operators", laid_switchback_parse_operators)], narrowed := true }
def ParseTreesUptoSaid : Prop := parseTreesUptoRow.holds Tryd.pinned (OpenSpec.upto parseTreesSpec)

/-- 'switchbacklaw02.ParseBrackets', WHERE WHAT IT READS IS OF BULK AT MOST 1048576: true; the input reads as it did. -/
def parseBracketsUptoRow : OpenClaim := { program := "yteggenldmkbhiaadoor", sum := "01131edcfcabd6ea5b3fc85b12f6142a84c1c57530cd8a644aec8de4fcc69c92", func := "switchback/switchbacklaw02.ParseBrackets", spec := "parseBrackets", unfollowed := true, recurses := true, named := ["switchback/parse.operators"], apart := false, laid := [("switchback/parse.operators", laid_switchback_parse_operators)], narrowed := true }
def ParseBracketsUptoSaid : Prop := parseBracketsUptoRow.holds Tryd.pinned (OpenSpec.upto parseBracketsSpec)

/-- 'switchbacklaw02.ParseCuts', WHERE WHAT IT READS IS OF BULK AT MOST 1048576: true; the input reads as it did. -/
def parseCutsUptoRow : OpenClaim := { program := "yteggenldmkbhiaadoor", sum := "01131edcfcabd6ea5b3fc85b12f6142a84c1c57530cd8a644aec8de4fcc69c92", func := "switchback/switchbacklaw02.ParseCuts", spec := "parseCuts", unfollowed := true, recurses := true, named := ["switchback/parse.operators"], apart := false, laid := [("switchback/parse.operators", laid_switchback_parse_operators)], narrowed := true }
def ParseCutsUptoSaid : Prop := parseCutsUptoRow.holds Tryd.pinned (OpenSpec.upto parseCutsSpec)

/-- 'switchbacklaw02.ParseJoined', WHERE WHAT IT READS IS OF BULK AT MOST 1048576: true; the input reads as it did. -/
def parseJoinedUptoRow : OpenClaim := { program := "yteggenldmkbhiaadoor", sum := "01131edcfcabd6ea5b3fc85b12f6142a84c1c57530cd8a644aec8de4fcc69c92", func := "switchback/switchbacklaw02.ParseJoined", spec := "parseJoined", unfollowed := true, recurses := true, named := ["switchback/parse.operators"], apart := false, laid := [("switchback/parse.operators", laid_switchback_parse_operators)], narrowed := true }
def ParseJoinedUptoSaid : Prop := parseJoinedUptoRow.holds Tryd.pinned (OpenSpec.upto parseJoinedSpec)

/-- 'switchbacklaw02.ParseBlocks', WHERE WHAT IT READS IS OF BULK AT MOST 1048576: true; the input reads as it did. -/
def parseBlocksUptoRow : OpenClaim := { program := "yteggenldmkbhiaadoor", sum := "01131edcfcabd6ea5b3fc85b12f6142a84c1c57530cd8a644aec8de4fcc69c92", func := "switchback/switchbacklaw02.ParseBlocks", spec := "parseBlocks", unfollowed := true, recurses := true, named := ["switchback/parse.operators"], apart := false, laid := [("switchback/parse.operators", laid_switchback_parse_operators)], narrowed := true }
def ParseBlocksUptoSaid : Prop := parseBlocksUptoRow.holds Tryd.pinned (OpenSpec.upto parseBlocksSpec)

end Rows
end Go.Proofs.YteggenldmkbhiaaDoor
