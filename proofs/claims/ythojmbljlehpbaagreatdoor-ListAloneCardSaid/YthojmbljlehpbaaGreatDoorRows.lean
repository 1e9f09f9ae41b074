/-
  NARROWER THAN 'FOR EVERY INPUT', by the rows' own cells (each row's printed sentence says how): ListPrints: laid · ListParses: laid · ListShows: laid · ListBack: laid · ListAgain: laid · ListBlanks: laid · ListLines: laid · ListAlone: laid · ListWords: laid.
  DERIVED. THE GIVEN ROWS OF THIS SEAT. 9 by the template 'for every input the law returns true; each argument reads behind the call as it read before'; 0 by the template 'total and deterministic' (their statements: YthojmbljlehpbaaGreatDoorTotals.lean).
  GIVEN WITH THE SEED: the statements are not yours to turn. If you find one false, say at which input.
  Laid BY PROGRAM, IN A SANDBOX (cutbox-rows.mjs): the forced cells as the released guide's own fill.sh prints them over the translation 5cf43311dfe624d1… (all of the seat's roots in one cut). By AI agents, Wed Nov 11 2026. No macro, syntax, notation, axiom, sorry.
-/
import Derived.Test.YthojmbljlehpbaaGreatDoorChecked
import GoSem.Claim
import GoSem.ClaimJoined
import GoSem.ClaimMapViews
import Derived.JoinedTies
import Derived.KernelRfl
namespace Go.Proofs.YthojmbljlehpbaaGreatDoor
/- THE CELL 'sum', in the pinned program and in every row, IS THE sha256 OF THE DUMP (.gsa) THAT YthojmbljlehpbaaGreatDoorProg.lean LOADS. Nothing in Lean hashes anything: it is a label: what it is worth is what the hold of that sum in a sandbox is worth. -/
noncomputable def Tryz.pinned : Pinned := { name := "ythojmbljlehpbaagreatdoor", sum := "5cf43311dfe624d1070efda66b206cbb18f9e7ccf09f5d9060e069f535391f8e", checked := Tryz.checked }
namespace Rows
def none {H : Type} : Left H := { results := [], args := [] }

/- WHAT THE LISTED PACKAGE-LEVEL VARIABLES READ AS WHEN THE CALL BEGINS. Each datum BY PROGRAM (the guide's laid-datum.mjs) off the statement by which the dump's own 'gosem.cut.vars' lays the variable. In a bare row this is a premise. The card (YthojmbljlehpbaaGreatDoorCards.lean) ties it to the program's text. -/
def laid_math_bits_deBruijn32tab {H : Type} : DataW H := .agg [.lit (.int .u8 0), .lit (.int .u8 1), .lit (.int .u8 28), .lit (.int .u8 2), .lit (.int .u8 29), .lit (.int .u8 14), .lit (.int .u8 24), .lit (.int .u8 3), .lit (.int .u8 30), .lit (.int .u8 22), .lit (.int .u8 20), .lit (.int .u8 15), .lit (.int .u8 25), .lit (.int .u8 17), .lit (.int .u8 4), .lit (.int .u8 8), .lit (.int .u8 31), .lit (.int .u8 27), .lit (.int .u8 13), .lit (.int .u8 23), .lit (.int .u8 21), .lit (.int .u8 19), .lit (.int .u8 16), .lit (.int .u8 7), .lit (.int .u8 26), .lit (.int .u8 12), .lit (.int .u8 18), .lit (.int .u8 6), .lit (.int .u8 11), .lit (.int .u8 5), .lit (.int .u8 10), .lit (.int .u8 9)]
def laid_math_bits_deBruijn64tab {H : Type} : DataW H := .agg [.lit (.int .u8 0), .lit (.int .u8 1), .lit (.int .u8 56), .lit (.int .u8 2), .lit (.int .u8 57), .lit (.int .u8 49), .lit (.int .u8 28), .lit (.int .u8 3), .lit (.int .u8 61), .lit (.int .u8 58), .lit (.int .u8 42), .lit (.int .u8 50), .lit (.int .u8 38), .lit (.int .u8 29), .lit (.int .u8 17), .lit (.int .u8 4), .lit (.int .u8 62), .lit (.int .u8 47), .lit (.int .u8 59), .lit (.int .u8 36), .lit (.int .u8 45), .lit (.int .u8 43), .lit (.int .u8 51), .lit (.int .u8 22), .lit (.int .u8 53), .lit (.int .u8 39), .lit (.int .u8 33), .lit (.int .u8 30), .lit (.int .u8 24), .lit (.int .u8 18), .lit (.int .u8 12), .lit (.int .u8 5), .lit (.int .u8 63), .lit (.int .u8 55), .lit (.int .u8 48), .lit (.int .u8 27), .lit (.int .u8 60), .lit (.int .u8 41), .lit (.int .u8 37), .lit (.int .u8 16), .lit (.int .u8 46), .lit (.int .u8 35), .lit (.int .u8 44), .lit (.int .u8 21), .lit (.int .u8 52), .lit (.int .u8 32), .lit (.int .u8 23), .lit (.int .u8 11), .lit (.int .u8 54), .lit (.int .u8 26), .lit (.int .u8 40), .lit (.int .u8 15), .lit (.int .u8 34), .lit (.int .u8 20), .lit (.int .u8 31), .lit (.int .u8 10), .lit (.int .u8 25), .lit (.int .u8 14), .lit (.int .u8 19), .lit (.int .u8 9), .lit (.int .u8 13), .lit (.int .u8 8), .lit (.int .u8 7), .lit (.int .u8 6)]
def laid_internal_strconv_uint64pow10 {H : Type} : DataW H := .agg [.lit (.int .u64 1), .lit (.int .u64 10), .lit (.int .u64 100), .lit (.int .u64 1000), .lit (.int .u64 10000), .lit (.int .u64 100000), .lit (.int .u64 1000000), .lit (.int .u64 10000000), .lit (.int .u64 100000000), .lit (.int .u64 1000000000), .lit (.int .u64 10000000000), .lit (.int .u64 100000000000), .lit (.int .u64 1000000000000), .lit (.int .u64 10000000000000), .lit (.int .u64 100000000000000), .lit (.int .u64 1000000000000000), .lit (.int .u64 10000000000000000), .lit (.int .u64 100000000000000000), .lit (.int .u64 1000000000000000000), .lit (.int .u64 10000000000000000000)]
def laid_switchback_enc_forms {H : Type} : DataW H := .agg [.lit (.int .i64 0), .lit (.int .i64 0), .lit (.int .i64 1), .lit (.int .i64 2), .lit (.int .i64 3), .lit (.int .i64 4), .lit (.int .i64 4), .lit (.int .i64 4), .lit (.int .i64 4), .lit (.int .i64 4), .lit (.int .i64 4), .lit (.int .i64 4), .lit (.int .i64 4), .lit (.int .i64 4), .lit (.int .i64 4), .lit (.int .i64 4), .lit (.int .i64 4), .lit (.int .i64 4), .lit (.int .i64 4), .lit (.int .i64 4), .lit (.int .i64 4), .lit (.int .i64 4), .lit (.int .i64 4), .lit (.int .i64 4), .lit (.int .i64 2), .lit (.int .i64 2), .lit (.int .i64 2), .lit (.int .i64 3), .lit (.int .i64 3), .lit (.int .i64 2), .lit (.int .i64 5), .lit (.int .i64 5), .lit (.int .i64 5), .lit (.int .i64 5), .lit (.int .i64 5), .lit (.int .i64 5), .lit (.int .i64 5), .lit (.int .i64 5), .lit (.int .i64 5), .lit (.int .i64 5), .lit (.int .i64 6), .lit (.int .i64 7), .lit (.int .i64 1), .lit (.int .i64 7), .lit (.int .i64 7), .lit (.int .i64 1), .lit (.int .i64 1), .lit (.int .i64 1), .lit (.int .i64 8)]
def laid_strconv_ErrRange {H : Type} : DataW H := .iface "*errors.errorString" (.ptr (.agg [.lit (.string [118, 97, 108, 117, 101, 32, 111, 117, 116, 32, 111, 102, 32, 114, 97, 110, 103, 101])]))
def laid_strconv_ErrSyntax {H : Type} : DataW H := .iface "*errors.errorString" (.ptr (.agg [.lit (.string [105, 110, 118, 97, 108, 105, 100, 32, 115, 121, 110, 116, 97, 120])]))
def laid_switchback_list_names {H : Type} : DataW H := .agg [.lit (.string []), .lit (.string [76, 73]), .lit (.string [76, 73, 84]), .lit (.string [77, 79, 86]), .lit (.string [65, 68, 68, 73]), .lit (.string [65, 68, 68]), .lit (.string [83, 85, 66]), .lit (.string [77, 85, 76]), .lit (.string [68, 73, 86, 83]), .lit (.string [68, 73, 86, 85]), .lit (.string [82, 69, 77, 83]), .lit (.string [82, 69, 77, 85]), .lit (.string [65, 78, 68]), .lit (.string [79, 82]), .lit (.string [88, 79, 82]), .lit (.string [83, 72, 76]), .lit (.string [83, 72, 82, 83]), .lit (.string [83, 72, 82, 85]), .lit (.string [69, 81]), .lit (.string [78, 69]), .lit (.string [76, 84, 83]), .lit (.string [76, 84, 85]), .lit (.string [76, 69, 83]), .lit (.string [76, 69, 85]), .lit (.string [78, 69, 71]), .lit (.string [78, 79, 84]), .lit (.string [76, 79, 87]), .lit (.string [76, 68]), .lit (.string [83, 84]), .lit (.string [67, 72, 75]), .lit (.string [66, 69, 81]), .lit (.string [66, 78, 69]), .lit (.string [66, 76, 84, 83]), .lit (.string [66, 71, 69, 83]), .lit (.string [66, 76, 69, 83]), .lit (.string [66, 71, 84, 83]), .lit (.string [66, 76, 84, 85]), .lit (.string [66, 71, 69, 85]), .lit (.string [66, 76, 69, 85]), .lit (.string [66, 71, 84, 85]), .lit (.string [74, 77, 80]), .lit (.string [74, 77, 76]), .lit (.string [74, 84, 65, 66]), .lit (.string [67, 65, 76, 76]), .lit (.string [82, 69, 84]), .lit (.string [71, 69, 84, 67]), .lit (.string [80, 85, 84, 67]), .lit (.string [69, 88, 73, 84]), .lit (.string [84, 82, 65, 80])]

/-- 'switchbacklaw22.ListPrints': WHATEVER THE INPUT: true; the input reads as it did. -/
def listPrintsSpec : ChangeSpec := { name := "listPrints", fn := fun _ => fun
  | [d] => { results := [.lit (.bool true)], args := [d] }
  | _ => none }
def listPrintsRow : OpenClaim := { program := "ythojmbljlehpbaagreatdoor", sum := "5cf43311dfe624d1070efda66b206cbb18f9e7ccf09f5d9060e069f535391f8e", func := "switchback/switchbacklaw22.ListPrints", spec := "listPrints", inPlace := ["internal/abi.NoEscape"], named := ["switchback/enc.forms", "switchback/list.names", "internal/strconv.uint64pow10", "math/bits.deBruijn32tab", "math/bits.deBruijn64tab", "strconv.ErrSyntax", "strconv.ErrRange"], apart := false, laid := [("math/bits.deBruijn32tab", laid_math_bits_deBruijn32tab), ("math/bits.deBruijn64tab", laid_math_bits_deBruijn64tab), ("internal/strconv.uint64pow10", laid_internal_strconv_uint64pow10), ("switchback/enc.forms", laid_switchback_enc_forms), ("strconv.ErrRange", laid_strconv_ErrRange), ("strconv.ErrSyntax", laid_strconv_ErrSyntax), ("switchback/list.names", laid_switchback_list_names)] }
def ListPrintsSaid : Prop := listPrintsRow.holds Tryz.pinned (OpenSpec.ofChange listPrintsSpec)

/-- ITS FALSE NEIGHBOUR: 'it returns false'. Refute it at one input. -/
def listPrintsWrong : ChangeSpec := { name := "listPrints", fn := fun _ => fun
  | [d] => { results := [.lit (.bool false)], args := [d] }
  | _ => none }
def ListPrintsWrongFalsely : Prop := listPrintsRow.holds Tryz.pinned (OpenSpec.ofChange listPrintsWrong)

/-- 'switchbacklaw22.ListParses': WHATEVER THE INPUT: true; the input reads as it did. -/
def listParsesSpec : ChangeSpec := { name := "listParses", fn := fun _ => fun
  | [d] => { results := [.lit (.bool true)], args := [d] }
  | _ => none }
def listParsesRow : OpenClaim := { program := "ythojmbljlehpbaagreatdoor", sum := "5cf43311dfe624d1070efda66b206cbb18f9e7ccf09f5d9060e069f535391f8e", func := "switchback/switchbacklaw22.ListParses", spec := "listParses", inPlace := ["internal/abi.NoEscape"], named := ["switchback/list.names", "strconv.ErrSyntax", "strconv.ErrRange", "internal/strconv.uint64pow10", "math/bits.deBruijn32tab", "math/bits.deBruijn64tab", "switchback/enc.forms"], apart := false, laid := [("math/bits.deBruijn32tab", laid_math_bits_deBruijn32tab), ("math/bits.deBruijn64tab", laid_math_bits_deBruijn64tab), ("internal/strconv.uint64pow10", laid_internal_strconv_uint64pow10), ("switchback/enc.forms", laid_switchback_enc_forms), ("strconv.ErrRange", laid_strconv_ErrRange), ("strconv.ErrSyntax", laid_strconv_ErrSyntax), ("switchback/list.names", laid_switchback_list_names)] }
def ListParsesSaid : Prop := listParsesRow.holds Tryz.pinned (OpenSpec.ofChange listParsesSpec)

/-- ITS FALSE NEIGHBOUR: 'it returns false'. Refute it at one input. -/
def listParsesWrong : ChangeSpec := { name := "listParses", fn := fun _ => fun
  | [d] => { results := [.lit (.bool false)], args := [d] }
  | _ => none }
def ListParsesWrongFalsely : Prop := listParsesRow.holds Tryz.pinned (OpenSpec.ofChange listParsesWrong)

/-- 'switchbacklaw22.ListShows': WHATEVER THE INPUT: true; the input reads as it did. -/
def listShowsSpec : ChangeSpec := { name := "listShows", fn := fun _ => fun
  | [d] => { results := [.lit (.bool true)], args := [d] }
  | _ => none }
def listShowsRow : OpenClaim := { program := "ythojmbljlehpbaagreatdoor", sum := "5cf43311dfe624d1070efda66b206cbb18f9e7ccf09f5d9060e069f535391f8e", func := "switchback/switchbacklaw22.ListShows", spec := "listShows", inPlace := ["internal/abi.NoEscape", "internal/bytealg.MakeNoZero"], named := ["internal/strconv.uint64pow10", "math/bits.deBruijn32tab", "math/bits.deBruijn64tab", "switchback/enc.forms", "switchback/list.names", "strconv.ErrSyntax", "strconv.ErrRange"], apart := false, laid := [("math/bits.deBruijn32tab", laid_math_bits_deBruijn32tab), ("math/bits.deBruijn64tab", laid_math_bits_deBruijn64tab), ("internal/strconv.uint64pow10", laid_internal_strconv_uint64pow10), ("switchback/enc.forms", laid_switchback_enc_forms), ("strconv.ErrRange", laid_strconv_ErrRange), ("strconv.ErrSyntax", laid_strconv_ErrSyntax), ("switchback/list.names", laid_switchback_list_names)] }
def ListShowsSaid : Prop := listShowsRow.holds Tryz.pinned (OpenSpec.ofChange listShowsSpec)

/-- ITS FALSE NEIGHBOUR: 'it returns false'. Refute it at one input. -/
def listShowsWrong : ChangeSpec := { name := "listShows", fn := fun _ => fun
  | [d] => { results := [.lit (.bool false)], args := [d] }
  | _ => none }
def ListShowsWrongFalsely : Prop := listShowsRow.holds Tryz.pinned (OpenSpec.ofChange listShowsWrong)

/-- 'switchbacklaw22.ListBack': WHATEVER THE INPUT: true; the input reads as it did. -/
def listBackSpec : ChangeSpec := { name := "listBack", fn := fun _ => fun
  | [d] => { results := [.lit (.bool true)], args := [d] }
  | _ => none }
def listBackRow : OpenClaim := { program := "ythojmbljlehpbaagreatdoor", sum := "5cf43311dfe624d1070efda66b206cbb18f9e7ccf09f5d9060e069f535391f8e", func := "switchback/switchbacklaw22.ListBack", spec := "listBack", inPlace := ["internal/abi.NoEscape"], named := ["switchback/enc.forms", "switchback/list.names", "internal/strconv.uint64pow10", "math/bits.deBruijn32tab", "math/bits.deBruijn64tab", "strconv.ErrSyntax", "strconv.ErrRange"], apart := false, laid := [("math/bits.deBruijn32tab", laid_math_bits_deBruijn32tab), ("math/bits.deBruijn64tab", laid_math_bits_deBruijn64tab), ("internal/strconv.uint64pow10", laid_internal_strconv_uint64pow10), ("switchback/enc.forms", laid_switchback_enc_forms), ("strconv.ErrRange", laid_strconv_ErrRange), ("strconv.ErrSyntax", laid_strconv_ErrSyntax), ("switchback/list.names", laid_switchback_list_names)] }
def ListBackSaid : Prop := listBackRow.holds Tryz.pinned (OpenSpec.ofChange listBackSpec)

/-- ITS FALSE NEIGHBOUR: 'it returns false'. Refute it at one input. -/
def listBackWrong : ChangeSpec := { name := "listBack", fn := fun _ => fun
  | [d] => { results := [.lit (.bool false)], args := [d] }
  | _ => none }
def ListBackWrongFalsely : Prop := listBackRow.holds Tryz.pinned (OpenSpec.ofChange listBackWrong)

/-- 'switchbacklaw22.ListAgain': WHATEVER THE INPUT: true; the input reads as it did. -/
def listAgainSpec : ChangeSpec := { name := "listAgain", fn := fun _ => fun
  | [d] => { results := [.lit (.bool true)], args := [d] }
  | _ => none }
def listAgainRow : OpenClaim := { program := "ythojmbljlehpbaagreatdoor", sum := "5cf43311dfe624d1070efda66b206cbb18f9e7ccf09f5d9060e069f535391f8e", func := "switchback/switchbacklaw22.ListAgain", spec := "listAgain", inPlace := ["internal/abi.NoEscape"], named := ["switchback/list.names", "strconv.ErrSyntax", "strconv.ErrRange", "internal/strconv.uint64pow10", "math/bits.deBruijn32tab", "math/bits.deBruijn64tab", "switchback/enc.forms"], apart := false, laid := [("math/bits.deBruijn32tab", laid_math_bits_deBruijn32tab), ("math/bits.deBruijn64tab", laid_math_bits_deBruijn64tab), ("internal/strconv.uint64pow10", laid_internal_strconv_uint64pow10), ("switchback/enc.forms", laid_switchback_enc_forms), ("strconv.ErrRange", laid_strconv_ErrRange), ("strconv.ErrSyntax", laid_strconv_ErrSyntax), ("switchback/list.names", laid_switchback_list_names)] }
def ListAgainSaid : Prop := listAgainRow.holds Tryz.pinned (OpenSpec.ofChange listAgainSpec)

/-- ITS FALSE NEIGHBOUR: 'it returns false'. Refute it at one input. -/
def listAgainWrong : ChangeSpec := { name := "listAgain", fn := fun _ => fun
  | [d] => { results := [.lit (.bool false)], args := [d] }
  | _ => none }
def ListAgainWrongFalsely : Prop := listAgainRow.holds Tryz.pinned (OpenSpec.ofChange listAgainWrong)

/-- 'switchbacklaw22.ListBlanks': WHATEVER THE INPUT: true; the input reads as it did. -/
def listBlanksSpec : ChangeSpec := { name := "listBlanks", fn := fun _ => fun
  | [d1, d2] => { results := [.lit (.bool true)], args := [d1, d2] }
  | _ => none }
def listBlanksRow : OpenClaim := { program := "ythojmbljlehpbaagreatdoor", sum := "5cf43311dfe624d1070efda66b206cbb18f9e7ccf09f5d9060e069f535391f8e", func := "switchback/switchbacklaw22.ListBlanks", spec := "listBlanks", inPlace := ["internal/abi.NoEscape"], named := ["switchback/enc.forms", "switchback/list.names", "internal/strconv.uint64pow10", "math/bits.deBruijn32tab", "math/bits.deBruijn64tab", "strconv.ErrSyntax", "strconv.ErrRange"], apart := false, laid := [("math/bits.deBruijn32tab", laid_math_bits_deBruijn32tab), ("math/bits.deBruijn64tab", laid_math_bits_deBruijn64tab), ("internal/strconv.uint64pow10", laid_internal_strconv_uint64pow10), ("switchback/enc.forms", laid_switchback_enc_forms), ("strconv.ErrRange", laid_strconv_ErrRange), ("strconv.ErrSyntax", laid_strconv_ErrSyntax), ("switchback/list.names", laid_switchback_list_names)] }
def ListBlanksSaid : Prop := listBlanksRow.holds Tryz.pinned (OpenSpec.ofChange listBlanksSpec)

/-- ITS FALSE NEIGHBOUR: 'it returns false'. Refute it at one input. -/
def listBlanksWrong : ChangeSpec := { name := "listBlanks", fn := fun _ => fun
  | [d1, d2] => { results := [.lit (.bool false)], args := [d1, d2] }
  | _ => none }
def ListBlanksWrongFalsely : Prop := listBlanksRow.holds Tryz.pinned (OpenSpec.ofChange listBlanksWrong)

/-- 'switchbacklaw22.ListLines': WHATEVER THE INPUT: true; the input reads as it did. -/
def listLinesSpec : ChangeSpec := { name := "listLines", fn := fun _ => fun
  | [d1, d2] => { results := [.lit (.bool true)], args := [d1, d2] }
  | _ => none }
def listLinesRow : OpenClaim := { program := "ythojmbljlehpbaagreatdoor", sum := "5cf43311dfe624d1070efda66b206cbb18f9e7ccf09f5d9060e069f535391f8e", func := "switchback/switchbacklaw22.ListLines", spec := "listLines", inPlace := ["internal/abi.NoEscape"], named := ["switchback/list.names", "strconv.ErrSyntax", "strconv.ErrRange", "internal/strconv.uint64pow10", "math/bits.deBruijn32tab", "math/bits.deBruijn64tab", "switchback/enc.forms"], apart := false, laid := [("math/bits.deBruijn32tab", laid_math_bits_deBruijn32tab), ("math/bits.deBruijn64tab", laid_math_bits_deBruijn64tab), ("internal/strconv.uint64pow10", laid_internal_strconv_uint64pow10), ("switchback/enc.forms", laid_switchback_enc_forms), ("strconv.ErrRange", laid_strconv_ErrRange), ("strconv.ErrSyntax", laid_strconv_ErrSyntax), ("switchback/list.names", laid_switchback_list_names)] }
def ListLinesSaid : Prop := listLinesRow.holds Tryz.pinned (OpenSpec.ofChange listLinesSpec)

/-- ITS FALSE NEIGHBOUR: 'it returns false'. Refute it at one input. -/
def listLinesWrong : ChangeSpec := { name := "listLines", fn := fun _ => fun
  | [d1, d2] => { results := [.lit (.bool false)], args := [d1, d2] }
  | _ => none }
def ListLinesWrongFalsely : Prop := listLinesRow.holds Tryz.pinned (OpenSpec.ofChange listLinesWrong)

/-- 'switchbacklaw22.ListAlone': WHATEVER THE INPUT: true; the input reads as it did. -/
def listAloneSpec : ChangeSpec := { name := "listAlone", fn := fun _ => fun
  | [d] => { results := [.lit (.bool true)], args := [d] }
  | _ => none }
def listAloneRow : OpenClaim := { program := "ythojmbljlehpbaagreatdoor", sum := "5cf43311dfe624d1070efda66b206cbb18f9e7ccf09f5d9060e069f535391f8e", func := "switchback/switchbacklaw22.ListAlone", spec := "listAlone", inPlace := ["internal/abi.NoEscape"], named := ["switchback/enc.forms", "switchback/list.names", "internal/strconv.uint64pow10", "math/bits.deBruijn32tab", "math/bits.deBruijn64tab", "strconv.ErrSyntax", "strconv.ErrRange"], apart := false, laid := [("math/bits.deBruijn32tab", laid_math_bits_deBruijn32tab), ("math/bits.deBruijn64tab", laid_math_bits_deBruijn64tab), ("internal/strconv.uint64pow10", laid_internal_strconv_uint64pow10), ("switchback/enc.forms", laid_switchback_enc_forms), ("strconv.ErrRange", laid_strconv_ErrRange), ("strconv.ErrSyntax", laid_strconv_ErrSyntax), ("switchback/list.names", laid_switchback_list_names)] }
def ListAloneSaid : Prop := listAloneRow.holds Tryz.pinned (OpenSpec.ofChange listAloneSpec)

/-- ITS FALSE NEIGHBOUR: 'it returns false'. Refute it at one input. -/
def listAloneWrong : ChangeSpec := { name := "listAlone", fn := fun _ => fun
  | [d] => { results := [.lit (.bool false)], args := [d] }
  | _ => none }
def ListAloneWrongFalsely : Prop := listAloneRow.holds Tryz.pinned (OpenSpec.ofChange listAloneWrong)

/-- 'switchbacklaw22.ListWords': WHATEVER THE INPUT: true; the input reads as it did. -/
def listWordsSpec : ChangeSpec := { name := "listWords", fn := fun _ => fun
  | [d] => { results := [.lit (.bool true)], args := [d] }
  | _ => none }
def listWordsRow : OpenClaim := { program := "ythojmbljlehpbaagreatdoor", sum := "5cf43311dfe624d1070efda66b206cbb18f9e7ccf09f5d9060e069f535391f8e", func := "switchback/switchbacklaw22.ListWords", spec := "listWords", inPlace := ["internal/abi.NoEscape"], named := ["switchback/enc.forms", "switchback/list.names", "internal/strconv.uint64pow10", "math/bits.deBruijn32tab", "math/bits.deBruijn64tab", "strconv.ErrSyntax", "strconv.ErrRange"], apart := false, laid := [("math/bits.deBruijn32tab", laid_math_bits_deBruijn32tab), ("math/bits.deBruijn64tab", laid_math_bits_deBruijn64tab), ("internal/strconv.uint64pow10", laid_internal_strconv_uint64pow10), ("switchback/enc.forms", laid_switchback_enc_forms), ("strconv.ErrRange", laid_strconv_ErrRange), ("strconv.ErrSyntax", laid_strconv_ErrSyntax), ("switchback/list.names", laid_switchback_list_names)] }
def ListWordsSaid : Prop := listWordsRow.holds Tryz.pinned (OpenSpec.ofChange listWordsSpec)

/-- ITS FALSE NEIGHBOUR: 'it returns false'. Refute it at one input. -/
def listWordsWrong : ChangeSpec := { name := "listWords", fn := fun _ => fun
  | [d] => { results := [.lit (.bool false)], args := [d] }
  | _ => none }
def ListWordsWrongFalsely : Prop := listWordsRow.holds Tryz.pinned (OpenSpec.ofChange listWordsWrong)

/- THE SECOND FORM. 'bulk': how many values and letters a reading holds, each counted each time it is reached (what is shared counts as often as it is met; a slice's spare places count too). A statement '..UptoSaid' is the law's where the arguments, and the package variables that the reading takes, are together of bulk at most 1048576: NARROWER than '..Said'. Prove '..Said' where nothing that the law and all that it calls make is longer than what came in: it says more and counts as full. Else prove '..UptoSaid'. A law counts once. -/
mutual
def uptoBulk {H : Type} : DataW H → Nat
  | .lit (.string bytes) => bytes.length + 1
  | .lit _ => 1
  | .nil => 1
  | .ptr d => uptoBulk d + 1
  | .slice elems spare => uptoBulkAll elems + uptoBulkAll spare + 1
  | .agg parts => uptoBulkAll parts + 1
  | .iface _ d => uptoBulk d + 1
  | .map entries => uptoBulkEntries entries + 1
  | .held _ => 1
def uptoBulkAll {H : Type} : List (DataW H) → Nat
  | [] => 0
  | d :: r => uptoBulk d + uptoBulkAll r
def uptoBulkEntries {H : Type} : List (Lit × DataW H) → Nat
  | [] => 0
  | x :: r => uptoBulkEntry x + uptoBulkEntries r
def uptoBulkEntry {H : Type} : Lit × DataW H → Nat
  | (.string bytes, d) => bytes.length + uptoBulk d + 1
  | (_, d) => uptoBulk d + 1
 end
def uptoSmall : (H : Type) → List (DataW H) → Bool := fun _ ds => decide (uptoBulkAll ds ≤ 1048576)
def OpenSpec.upto (s : _root_.Go.ChangeSpec) : _root_.Go.OpenSpec := { _root_.Go.OpenSpec.ofChange s with cond := some uptoSmall }

/-- 'switchbacklaw22.ListPrints', WHERE WHAT IT READS IS OF BULK AT MOST 1048576: true; the input reads as it did. -/
def listPrintsUptoRow : OpenClaim := { program := "ythojmbljlehpbaagreatdoor", sum := "5cf43311dfe624d1070efda66b206cbb18f9e7ccf09f5d9060e069f535391f8e", func := "switchback/switchbacklaw22.ListPrints", spec := "listPrints", inPlace := ["internal/abi.NoEscape"], named := ["switchback/enc.forms", "switchback/list.names", "internal/strconv.uint64pow10", "math/bits.deBruijn32tab", "math/bits.deBruijn64tab", "strconv.ErrSyntax", "strconv.ErrRange"], apart := false, laid := [("math/bits.deBruijn32tab", laid_math_bits_deBruijn32tab), ("math/bits.deBruijn64tab", laid_math_bits_deBruijn64tab), ("internal/strconv.uint64pow10", laid_internal_strconv_uint64pow10), ("switchback/enc.forms", laid_switchback_enc_forms), ("strconv.ErrRange", laid_strconv_ErrRange), ("strconv.ErrSyntax", laid_strconv_ErrSyntax), ("switchback/list.names", laid_switchback_list_names)], narrowed := true }
def ListPrintsUptoSaid : Prop := listPrintsUptoRow.holds Tryz.pinned (OpenSpec.upto listPrintsSpec)

/-- 'switchbacklaw22.ListParses', WHERE WHAT IT READS IS OF BULK AT MOST 1048576: true; the input reads as it did. -/
def listParsesUptoRow : OpenClaim := { program := "ythojmbljlehpbaagreatdoor", sum := "5cf43311dfe624d1070efda66b206cbb18f9e7ccf09f5d9060e069f535391f8e", func := "switchback/switchbacklaw22.ListParses", spec := "listParses", inPlace := ["internal/abi.NoEscape"], named := ["switchback/list.names", "strconv.ErrSyntax", "strconv.ErrRange", "internal/strconv.uint64pow10", "math/bits.deBruijn32tab", "math/bits.deBruijn64tab", "switchback/enc.forms"], apart := false, laid := [("math/bits.deBruijn32tab", laid_math_bits_deBruijn32tab), ("math/bits.deBruijn64tab", laid_math_bits_deBruijn64tab), ("internal/strconv.uint64pow10", laid_internal_strconv_uint64pow10), ("switchback/enc.forms", laid_switchback_enc_forms), ("strconv.ErrRange", laid_strconv_ErrRange), ("strconv.ErrSyntax", laid_strconv_ErrSyntax), ("switchback/list.names", laid_switchback_list_names)], narrowed := true }
def ListParsesUptoSaid : Prop := listParsesUptoRow.holds Tryz.pinned (OpenSpec.upto listParsesSpec)

/-- 'switchbacklaw22.ListShows', WHERE WHAT IT READS IS OF BULK AT MOST 1048576: true; the input reads as it did. -/
def listShowsUptoRow : OpenClaim := { program := "ythojmbljlehpbaagreatdoor", sum := "5cf43311dfe624d1070efda66b206cbb18f9e7ccf09f5d9060e069f535391f8e", func := "switchback/switchbacklaw22.ListShows", spec := "listShows", inPlace := ["internal/abi.NoEscape", "internal/bytealg.MakeNoZero"], named := ["internal/strconv.uint64pow10", "math/bits.deBruijn32tab", "math/bits.deBruijn64tab", "switchback/enc.forms", "switchback/list.names", "strconv.ErrSyntax", "strconv.ErrRange"], apart := false, laid := [("math/bits.deBruijn32tab", laid_math_bits_deBruijn32tab), ("math/bits.deBruijn64tab", laid_math_bits_deBruijn64tab), ("internal/strconv.uint64pow10", laid_internal_strconv_uint64pow10), ("switchback/enc.forms", laid_switchback_enc_forms), ("strconv.ErrRange", laid_strconv_ErrRange), ("strconv.ErrSyntax", laid_strconv_ErrSyntax), ("switchback/list.names", laid_switchback_list_names)], narrowed := true }
def ListShowsUptoSaid : Prop := listShowsUptoRow.holds Tryz.pinned (OpenSpec.upto listShowsSpec)

/-- 'switchbacklaw22.ListBack', WHERE WHAT IT READS IS OF BULK AT MOST 1048576: true; the input reads as it did. -/
def listBackUptoRow : OpenClaim := { program := "ythojmbljlehpbaagreatdoor", sum := "5cf43311dfe624d1070efda66b206cbb18f9e7ccf09f5d9060e069f535391f8e", func := "switchback/switchbacklaw22.ListBack", spec := "listBack", inPlace := ["internal/abi.NoEscape"], named := ["switchback/enc.forms", "switchback/list.names", "internal/strconv.uint64pow10", "math/bits.deBruijn32tab", "math/bits.deBruijn64tab", "strconv.ErrSyntax", "strconv.ErrRange"], apart := false, laid := [("math/bits.deBruijn32tab", laid_math_bits_deBruijn32tab), ("math/bits.deBruijn64tab", laid_math_bits_deBruijn64tab), ("internal/strconv.uint64pow10", laid_internal_strconv_uint64pow10), ("switchback/enc.forms", laid_switchback_enc_forms), ("strconv.ErrRange", laid_strconv_ErrRange), ("strconv.ErrSyntax", laid_strconv_ErrSyntax), ("switchback/list.names", laid_switchback_list_names)], narrowed := true }
def ListBackUptoSaid : Prop := listBackUptoRow.holds Tryz.pinned (OpenSpec.upto listBackSpec)

/-- 'switchbacklaw22.ListAgain', WHERE WHAT IT READS IS OF BULK AT MOST 1048576: true; the input reads as it did. -/
def listAgainUptoRow : OpenClaim := { program := "ythojmbljlehpbaagreatdoor", sum := "5cf43311dfe624d1070efda66b206cbb18f9e7ccf09f5d9060e069f535391f8e", func := "switchback/switchbacklaw22.ListAgain", spec := "listAgain", inPlace := ["internal/abi.NoEscape"], named := ["switchback/list.names", "strconv.ErrSyntax", "strconv.ErrRange", "internal/strconv.uint64pow10", "math/bits.deBruijn32tab", "math/bits.deBruijn64tab", "switchback/enc.forms"], apart := false, laid := [("math/bits.deBruijn32tab", laid_math_bits_deBruijn32tab), ("math/bits.deBruijn64tab", laid_math_bits_deBruijn64tab), ("internal/strconv.uint64pow10", laid_internal_strconv_uint64pow10), ("switchback/enc.forms", laid_switchback_enc_forms), ("strconv.ErrRange", laid_strconv_ErrRange), ("strconv.ErrSyntax", laid_strconv_ErrSyntax), ("switchback/list.names", laid_switchback_list_names)], narrowed := true }
def ListAgainUptoSaid : Prop := listAgainUptoRow.holds Tryz.pinned (OpenSpec.upto listAgainSpec)

/-- 'switchbacklaw22.ListBlanks', WHERE WHAT IT READS IS OF BULK AT MOST 1048576: true; the input reads as it did. -/
def listBlanksUptoRow : OpenClaim := { program := "ythojmbljlehpbaagreatdoor", sum := "5cf43311dfe624d1070efda66b206cbb18f9e7ccf09f5d9060e069f535391f8e", func := "switchback/switchbacklaw22.ListBlanks", spec := "listBlanks", inPlace := ["internal/abi.NoEscape"], named := ["switchback/enc.forms", "switchback/list.names", "internal/strconv.uint64pow10", "math/bits.deBruijn32tab", "math/bits.deBruijn64tab", "strconv.ErrSyntax", "strconv.ErrRange"], apart := false, laid := [("math/bits.deBruijn32tab", laid_math_bits_deBruijn32tab), ("math/bits.deBruijn64tab", laid_math_bits_deBruijn64tab), ("internal/strconv.uint64pow10", laid_internal_strconv_uint64pow10), ("switchback/enc.forms", laid_switchback_enc_forms), ("strconv.ErrRange", laid_strconv_ErrRange), ("strconv.ErrSyntax", laid_strconv_ErrSyntax), ("switchback/list.names", laid_switchback_list_names)], narrowed := true }
def ListBlanksUptoSaid : Prop := listBlanksUptoRow.holds Tryz.pinned (OpenSpec.upto listBlanksSpec)

/-- 'switchbacklaw22.ListLines', WHERE WHAT IT READS IS OF BULK AT MOST 1048576: true; the input reads as it did. -/
def listLinesUptoRow : OpenClaim := { program := "ythojmbljlehpbaagreatdoor", sum := "5cf43311dfe624d1070efda66b206cbb18f9e7ccf09f5d9060e069f535391f8e", func := "switchback/switchbacklaw22.ListLines", spec := "listLines", inPlace := ["internal/abi.NoEscape"], named := ["switchback/list.names", "strconv.ErrSyntax", "strconv.ErrRange", "internal/strconv.uint64pow10", "math/bits.deBruijn32tab", "math/bits.deBruijn64tab", "switchback/enc.forms"], apart := false, laid := [("math/bits.deBruijn32tab", laid_math_bits_deBruijn32tab), ("math/bits.deBruijn64tab", laid_math_bits_deBruijn64tab), ("internal/strconv.uint64pow10", laid_internal_strconv_uint64pow10), ("switchback/enc.forms", laid_switchback_enc_forms), ("strconv.ErrRange", laid_strconv_ErrRange), ("strconv.ErrSyntax", laid_strconv_ErrSyntax), ("switchback/list.names", laid_switchback_list_names)], narrowed := true }
def ListLinesUptoSaid : Prop := listLinesUptoRow.holds Tryz.pinned (OpenSpec.upto listLinesSpec)

/-- 'switchbacklaw22.ListAlone', WHERE WHAT IT READS IS OF BULK AT MOST 1048576: true; the input reads as it did. -/
def listAloneUptoRow : OpenClaim := { program := "ythojmbljlehpbaagreatdoor", sum := "5cf43311dfe624d1070efda66b206cbb18f9e7ccf09f5d9060e069f535391f8e", func := "switchback/switchbacklaw22.ListAlone", spec := "listAlone", inPlace := ["internal/abi.NoEscape"], named := ["switchback/enc.forms", "switchback/list.names", "internal/strconv.uint64pow10", "math/bits.deBruijn32tab", "math/bits.deBruijn64tab", "strconv.ErrSyntax", "strconv.ErrRange"], apart := false, laid := [("math/bits.deBruijn32tab", laid_math_bits_deBruijn32tab), ("math/bits.deBruijn64tab", laid_math_bits_deBruijn64tab), ("internal/strconv.uint64pow10", laid_internal_strconv_uint64pow10), ("switchback/enc.forms", laid_switchback_enc_forms), ("strconv.ErrRange", laid_strconv_ErrRange), ("strconv.ErrSyntax", laid_strconv_ErrSyntax), ("switchback/list.names", laid_switchback_list_names)], narrowed := true }
def ListAloneUptoSaid : Prop := listAloneUptoRow.holds Tryz.pinned (OpenSpec.upto listAloneSpec)

/-- 'switchbacklaw22.ListWords', WHERE WHAT IT READS IS OF BULK AT MOST 1048576: true; the input reads as it did. -/
def listWordsUptoRow : OpenClaim := { program := "ythojmbljlehpbaagreatdoor", sum := "5cf43311dfe624d1070efda66b206cbb18f9e7ccf09f5d9060e069f535391f8e", func := "switchback/switchbacklaw22.ListWords", spec := "listWords", inPlace := ["internal/abi.NoEscape"], named := ["switchback/enc.forms", "switchback/list.names", "internal/strconv.uint64pow10", "math/bits.deBruijn32tab", "math/bits.deBruijn64tab", "strconv.ErrSyntax", "strconv.ErrRange"], apart := false, laid := [("math/bits.deBruijn32tab", laid_math_bits_deBruijn32tab), ("math/bits.deBruijn64tab", laid_math_bits_deBruijn64tab), ("internal/strconv.uint64pow10", laid_internal_strconv_uint64pow10), ("switchback/enc.forms", laid_switchback_enc_forms), ("strconv.ErrRange", laid_strconv_ErrRange), ("strconv.ErrSyntax", laid_strconv_ErrSyntax), ("switchback/list.names", laid_switchback_list_names)], narrowed := true }
def ListWordsUptoSaid : Prop := listWordsUptoRow.holds Tryz.pinned (OpenSpec.upto listWordsSpec)

end Rows
end Go.Proofs.YthojmbljlehpbaaGreatDoor
