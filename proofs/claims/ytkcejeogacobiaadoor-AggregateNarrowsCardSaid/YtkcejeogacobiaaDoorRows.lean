/-
  NARROWER THAN 'FOR EVERY INPUT', by the rows' own cells (each row's printed sentence says how): BasicReads: laid · BasicLengths: laid · BasicPlain: laid · BasicApart: laid · BasicForms: laid · AggregateReads: laid · AggregateWidths: laid · AggregateForms: laid · AggregateNarrows: laid · AggregateMerges: laid · FindingLogs: laid · FindingKeeps: laid.
  DERIVED. THE GIVEN ROWS OF THIS SEAT. 12 by the template 'for every input the law returns true; each argument reads behind the call as it read before'; 0 by the template 'total and deterministic' (their statements: YtkcejeogacobiaaDoorTotals.lean).
  GIVEN WITH THE SEED: the statements are not yours to turn. If you find one false, say at which input.
  Laid BY PROGRAM, IN A SANDBOX (cutbox-rows.mjs): the forced cells as the released guide's own fill.sh prints them over the translation dd7c66772c2e603b… (all of the seat's roots in one cut). By AI agents, Wed Nov 11 2026. No macro, syntax, notation, axiom, sorry.
-/
import Derived.Test.YtkcejeogacobiaaDoorChecked
import GoSem.Claim
import GoSem.ClaimJoined
import GoSem.ClaimMapViews
import Derived.JoinedTies
import Derived.KernelRfl
namespace Go.Proofs.YtkcejeogacobiaaDoor
/- THE CELL 'sum', in the pinned program and in every row, IS THE sha256 OF THE DUMP (.gsa) THAT YtkcejeogacobiaaDoorProg.lean LOADS. Nothing in Lean hashes anything: it is a label: what it is worth is what the hold of that sum in a sandbox is worth. -/
noncomputable def Tryd.pinned : Pinned := { name := "ytkcejeogacobiaadoor", sum := "dd7c66772c2e603bf7e28b5fb368837554b264a875de284e9d8ef0b3024950b2", checked := Tryd.checked }
namespace Rows
def none {H : Type} : Left H := { results := [], args := [] }

/- WHAT THE LISTED PACKAGE-LEVEL VARIABLES READ AS WHEN THE CALL BEGINS. Each datum BY PROGRAM (the guide's laid-datum.mjs) off the statement by which the dump's own 'gosem.cut.vars' lays the variable. In a bare row this is a premise. The card (YtkcejeogacobiaaDoorCards.lean) ties it to the program's text. -/
def laid_math_bits_deBruijn32tab {H : Type} : DataW H := .agg [.lit (.int .u8 0), .lit (.int .u8 1), .lit (.int .u8 28), .lit (.int .u8 2), .lit (.int .u8 29), .lit (.int .u8 14), .lit (.int .u8 24), .lit (.int .u8 3), .lit (.int .u8 30), .lit (.int .u8 22), .lit (.int .u8 20), .lit (.int .u8 15), .lit (.int .u8 25), .lit (.int .u8 17), .lit (.int .u8 4), .lit (.int .u8 8), .lit (.int .u8 31), .lit (.int .u8 27), .lit (.int .u8 13), .lit (.int .u8 23), .lit (.int .u8 21), .lit (.int .u8 19), .lit (.int .u8 16), .lit (.int .u8 7), .lit (.int .u8 26), .lit (.int .u8 12), .lit (.int .u8 18), .lit (.int .u8 6), .lit (.int .u8 11), .lit (.int .u8 5), .lit (.int .u8 10), .lit (.int .u8 9)]
def laid_math_bits_deBruijn64tab {H : Type} : DataW H := .agg [.lit (.int .u8 0), .lit (.int .u8 1), .lit (.int .u8 56), .lit (.int .u8 2), .lit (.int .u8 57), .lit (.int .u8 49), .lit (.int .u8 28), .lit (.int .u8 3), .lit (.int .u8 61), .lit (.int .u8 58), .lit (.int .u8 42), .lit (.int .u8 50), .lit (.int .u8 38), .lit (.int .u8 29), .lit (.int .u8 17), .lit (.int .u8 4), .lit (.int .u8 62), .lit (.int .u8 47), .lit (.int .u8 59), .lit (.int .u8 36), .lit (.int .u8 45), .lit (.int .u8 43), .lit (.int .u8 51), .lit (.int .u8 22), .lit (.int .u8 53), .lit (.int .u8 39), .lit (.int .u8 33), .lit (.int .u8 30), .lit (.int .u8 24), .lit (.int .u8 18), .lit (.int .u8 12), .lit (.int .u8 5), .lit (.int .u8 63), .lit (.int .u8 55), .lit (.int .u8 48), .lit (.int .u8 27), .lit (.int .u8 60), .lit (.int .u8 41), .lit (.int .u8 37), .lit (.int .u8 16), .lit (.int .u8 46), .lit (.int .u8 35), .lit (.int .u8 44), .lit (.int .u8 21), .lit (.int .u8 52), .lit (.int .u8 32), .lit (.int .u8 23), .lit (.int .u8 11), .lit (.int .u8 54), .lit (.int .u8 26), .lit (.int .u8 40), .lit (.int .u8 15), .lit (.int .u8 34), .lit (.int .u8 20), .lit (.int .u8 31), .lit (.int .u8 10), .lit (.int .u8 25), .lit (.int .u8 14), .lit (.int .u8 19), .lit (.int .u8 9), .lit (.int .u8 13), .lit (.int .u8 8), .lit (.int .u8 7), .lit (.int .u8 6)]
def laid_internal_strconv_uint64pow10 {H : Type} : DataW H := .agg [.lit (.int .u64 1), .lit (.int .u64 10), .lit (.int .u64 100), .lit (.int .u64 1000), .lit (.int .u64 10000), .lit (.int .u64 100000), .lit (.int .u64 1000000), .lit (.int .u64 10000000), .lit (.int .u64 100000000), .lit (.int .u64 1000000000), .lit (.int .u64 10000000000), .lit (.int .u64 100000000000), .lit (.int .u64 1000000000000), .lit (.int .u64 10000000000000), .lit (.int .u64 100000000000000), .lit (.int .u64 1000000000000000), .lit (.int .u64 10000000000000000), .lit (.int .u64 100000000000000000), .lit (.int .u64 1000000000000000000), .lit (.int .u64 10000000000000000000)]

/-- 'peeragelaw07.BasicReads': WHATEVER THE INPUT: true; the input reads as it did. -/
def basicReadsSpec : ChangeSpec := { name := "basicReads", fn := fun _ => fun
  | [d1, d2] => { results := [.lit (.bool true)], args := [d1, d2] }
  | _ => none }
def basicReadsRow : OpenClaim := { program := "ytkcejeogacobiaadoor", sum := "dd7c66772c2e603bf7e28b5fb368837554b264a875de284e9d8ef0b3024950b2", func := "peerage/peeragelaw07.BasicReads", spec := "basicReads", inPlace := ["internal/abi.NoEscape", "internal/bytealg.MakeNoZero"], unfollowed := true, recurses := true, named := ["internal/strconv.uint64pow10", "math/bits.deBruijn32tab", "math/bits.deBruijn64tab"], apart := false, laid := [("math/bits.deBruijn32tab", laid_math_bits_deBruijn32tab), ("math/bits.deBruijn64tab", laid_math_bits_deBruijn64tab), ("internal/strconv.uint64pow10", laid_internal_strconv_uint64pow10)] }
def BasicReadsSaid : Prop := basicReadsRow.holds Tryd.pinned (OpenSpec.ofChange basicReadsSpec)

/-- ITS FALSE NEIGHBOUR: 'it returns false'. Refute it at one input. -/
def basicReadsWrong : ChangeSpec := { name := "basicReads", fn := fun _ => fun
  | [d1, d2] => { results := [.lit (.bool false)], args := [d1, d2] }
  | _ => none }
def BasicReadsWrongFalsely : Prop := basicReadsRow.holds Tryd.pinned (OpenSpec.ofChange basicReadsWrong)

/-- 'peeragelaw07.BasicLengths': WHATEVER THE INPUT: true; the input reads as it did. -/
def basicLengthsSpec : ChangeSpec := { name := "basicLengths", fn := fun _ => fun
  | [d1, d2, d3] => { results := [.lit (.bool true)], args := [d1, d2, d3] }
  | _ => none }
def basicLengthsRow : OpenClaim := { program := "ytkcejeogacobiaadoor", sum := "dd7c66772c2e603bf7e28b5fb368837554b264a875de284e9d8ef0b3024950b2", func := "peerage/peeragelaw07.BasicLengths", spec := "basicLengths", inPlace := ["internal/abi.NoEscape", "internal/bytealg.MakeNoZero"], unfollowed := true, recurses := true, named := ["internal/strconv.uint64pow10", "math/bits.deBruijn32tab", "math/bits.deBruijn64tab"], apart := false, laid := [("math/bits.deBruijn32tab", laid_math_bits_deBruijn32tab), ("math/bits.deBruijn64tab", laid_math_bits_deBruijn64tab), ("internal/strconv.uint64pow10", laid_internal_strconv_uint64pow10)] }
def BasicLengthsSaid : Prop := basicLengthsRow.holds Tryd.pinned (OpenSpec.ofChange basicLengthsSpec)

/-- ITS FALSE NEIGHBOUR: 'it returns false'. Refute it at one input. -/
def basicLengthsWrong : ChangeSpec := { name := "basicLengths", fn := fun _ => fun
  | [d1, d2, d3] => { results := [.lit (.bool false)], args := [d1, d2, d3] }
  | _ => none }
def BasicLengthsWrongFalsely : Prop := basicLengthsRow.holds Tryd.pinned (OpenSpec.ofChange basicLengthsWrong)

/-- 'peeragelaw07.BasicPlain': WHATEVER THE INPUT: true; the input reads as it did. -/
def basicPlainSpec : ChangeSpec := { name := "basicPlain", fn := fun _ => fun
  | [d1, d2] => { results := [.lit (.bool true)], args := [d1, d2] }
  | _ => none }
def basicPlainRow : OpenClaim := { program := "ytkcejeogacobiaadoor", sum := "dd7c66772c2e603bf7e28b5fb368837554b264a875de284e9d8ef0b3024950b2", func := "peerage/peeragelaw07.BasicPlain", spec := "basicPlain", inPlace := ["internal/abi.NoEscape", "internal/bytealg.MakeNoZero"], unfollowed := true, recurses := true, named := ["internal/strconv.uint64pow10", "math/bits.deBruijn32tab", "math/bits.deBruijn64tab"], apart := false, laid := [("math/bits.deBruijn32tab", laid_math_bits_deBruijn32tab), ("math/bits.deBruijn64tab", laid_math_bits_deBruijn64tab), ("internal/strconv.uint64pow10", laid_internal_strconv_uint64pow10)] }
def BasicPlainSaid : Prop := basicPlainRow.holds Tryd.pinned (OpenSpec.ofChange basicPlainSpec)

/-- ITS FALSE NEIGHBOUR: 'it returns false'. Refute it at one input. -/
def basicPlainWrong : ChangeSpec := { name := "basicPlain", fn := fun _ => fun
  | [d1, d2] => { results := [.lit (.bool false)], args := [d1, d2] }
  | _ => none }
def BasicPlainWrongFalsely : Prop := basicPlainRow.holds Tryd.pinned (OpenSpec.ofChange basicPlainWrong)

/-- 'peeragelaw07.BasicApart': WHATEVER THE INPUT: true; the input reads as it did. -/
def basicApartSpec : ChangeSpec := { name := "basicApart", fn := fun _ => fun
  | [d1, d2] => { results := [.lit (.bool true)], args := [d1, d2] }
  | _ => none }
def basicApartRow : OpenClaim := { program := "ytkcejeogacobiaadoor", sum := "dd7c66772c2e603bf7e28b5fb368837554b264a875de284e9d8ef0b3024950b2", func := "peerage/peeragelaw07.BasicApart", spec := "basicApart", inPlace := ["internal/abi.NoEscape", "internal/bytealg.MakeNoZero"], unfollowed := true, recurses := true, named := ["internal/strconv.uint64pow10", "math/bits.deBruijn32tab", "math/bits.deBruijn64tab"], apart := false, laid := [("math/bits.deBruijn32tab", laid_math_bits_deBruijn32tab), ("math/bits.deBruijn64tab", laid_math_bits_deBruijn64tab), ("internal/strconv.uint64pow10", laid_internal_strconv_uint64pow10)] }
def BasicApartSaid : Prop := basicApartRow.holds Tryd.pinned (OpenSpec.ofChange basicApartSpec)

/-- ITS FALSE NEIGHBOUR: 'it returns false'. Refute it at one input. -/
def basicApartWrong : ChangeSpec := { name := "basicApart", fn := fun _ => fun
  | [d1, d2] => { results := [.lit (.bool false)], args := [d1, d2] }
  | _ => none }
def BasicApartWrongFalsely : Prop := basicApartRow.holds Tryd.pinned (OpenSpec.ofChange basicApartWrong)

/-- 'peeragelaw07.BasicForms': WHATEVER THE INPUT: true; the input reads as it did. -/
def basicFormsSpec : ChangeSpec := { name := "basicForms", fn := fun _ => fun
  | [d] => { results := [.lit (.bool true)], args := [d] }
  | _ => none }
def basicFormsRow : OpenClaim := { program := "ytkcejeogacobiaadoor", sum := "dd7c66772c2e603bf7e28b5fb368837554b264a875de284e9d8ef0b3024950b2", func := "peerage/peeragelaw07.BasicForms", spec := "basicForms", inPlace := ["internal/abi.NoEscape", "internal/bytealg.MakeNoZero"], unfollowed := true, recurses := true, named := ["internal/strconv.uint64pow10", "math/bits.deBruijn32tab", "math/bits.deBruijn64tab"], apart := false, laid := [("math/bits.deBruijn32tab", laid_math_bits_deBruijn32tab), ("math/bits.deBruijn64tab", laid_math_bits_deBruijn64tab), ("internal/strconv.uint64pow10", laid_internal_strconv_uint64pow10)] }
def BasicFormsSaid : Prop := basicFormsRow.holds Tryd.pinned (OpenSpec.ofChange basicFormsSpec)

/-- ITS FALSE NEIGHBOUR: 'it returns false'. Refute it at one input. -/
def basicFormsWrong : ChangeSpec := { name := "basicForms", fn := fun _ => fun
  | [d] => { results := [.lit (.bool false)], args := [d] }
  | _ => none }
def BasicFormsWrongFalsely : Prop := basicFormsRow.holds Tryd.pinned (OpenSpec.ofChange basicFormsWrong)

/-- 'peeragelaw08.AggregateReads': WHATEVER THE INPUT: true; the input reads as it did. -/
def aggregateReadsSpec : ChangeSpec := { name := "aggregateReads", fn := fun _ => fun
  | [d1, d2, d3] => { results := [.lit (.bool true)], args := [d1, d2, d3] }
  | _ => none }
def aggregateReadsRow : OpenClaim := { program := "ytkcejeogacobiaadoor", sum := "dd7c66772c2e603bf7e28b5fb368837554b264a875de284e9d8ef0b3024950b2", func := "peerage/peeragelaw08.AggregateReads", spec := "aggregateReads", inPlace := ["internal/abi.NoEscape", "internal/bytealg.MakeNoZero"], named := ["internal/strconv.uint64pow10", "math/bits.deBruijn32tab", "math/bits.deBruijn64tab"], apart := false, laid := [("math/bits.deBruijn32tab", laid_math_bits_deBruijn32tab), ("math/bits.deBruijn64tab", laid_math_bits_deBruijn64tab), ("internal/strconv.uint64pow10", laid_internal_strconv_uint64pow10)] }
def AggregateReadsSaid : Prop := aggregateReadsRow.holds Tryd.pinned (OpenSpec.ofChange aggregateReadsSpec)

/-- ITS FALSE NEIGHBOUR: 'it returns false'. Refute it at one input. -/
def aggregateReadsWrong : ChangeSpec := { name := "aggregateReads", fn := fun _ => fun
  | [d1, d2, d3] => { results := [.lit (.bool false)], args := [d1, d2, d3] }
  | _ => none }
def AggregateReadsWrongFalsely : Prop := aggregateReadsRow.holds Tryd.pinned (OpenSpec.ofChange aggregateReadsWrong)

/-- 'peeragelaw08.AggregateWidths': WHATEVER THE INPUT: true; the input reads as it did. -/
def aggregateWidthsSpec : ChangeSpec := { name := "aggregateWidths", fn := fun _ => fun
  | [d] => { results := [.lit (.bool true)], args := [d] }
  | _ => none }
def aggregateWidthsRow : OpenClaim := { program := "ytkcejeogacobiaadoor", sum := "dd7c66772c2e603bf7e28b5fb368837554b264a875de284e9d8ef0b3024950b2", func := "peerage/peeragelaw08.AggregateWidths", spec := "aggregateWidths", inPlace := ["internal/abi.NoEscape", "internal/bytealg.MakeNoZero"], named := ["internal/strconv.uint64pow10", "math/bits.deBruijn32tab", "math/bits.deBruijn64tab"], apart := false, laid := [("math/bits.deBruijn32tab", laid_math_bits_deBruijn32tab), ("math/bits.deBruijn64tab", laid_math_bits_deBruijn64tab), ("internal/strconv.uint64pow10", laid_internal_strconv_uint64pow10)] }
def AggregateWidthsSaid : Prop := aggregateWidthsRow.holds Tryd.pinned (OpenSpec.ofChange aggregateWidthsSpec)

/-- ITS FALSE NEIGHBOUR: 'it returns false'. Refute it at one input. -/
def aggregateWidthsWrong : ChangeSpec := { name := "aggregateWidths", fn := fun _ => fun
  | [d] => { results := [.lit (.bool false)], args := [d] }
  | _ => none }
def AggregateWidthsWrongFalsely : Prop := aggregateWidthsRow.holds Tryd.pinned (OpenSpec.ofChange aggregateWidthsWrong)

/-- 'peeragelaw08.AggregateForms': WHATEVER THE INPUT: true; the input reads as it did. -/
def aggregateFormsSpec : ChangeSpec := { name := "aggregateForms", fn := fun _ => fun
  | [d1, d2] => { results := [.lit (.bool true)], args := [d1, d2] }
  | _ => none }
def aggregateFormsRow : OpenClaim := { program := "ytkcejeogacobiaadoor", sum := "dd7c66772c2e603bf7e28b5fb368837554b264a875de284e9d8ef0b3024950b2", func := "peerage/peeragelaw08.AggregateForms", spec := "aggregateForms", inPlace := ["internal/abi.NoEscape", "internal/bytealg.MakeNoZero"], named := ["internal/strconv.uint64pow10", "math/bits.deBruijn32tab", "math/bits.deBruijn64tab"], apart := false, laid := [("math/bits.deBruijn32tab", laid_math_bits_deBruijn32tab), ("math/bits.deBruijn64tab", laid_math_bits_deBruijn64tab), ("internal/strconv.uint64pow10", laid_internal_strconv_uint64pow10)] }
def AggregateFormsSaid : Prop := aggregateFormsRow.holds Tryd.pinned (OpenSpec.ofChange aggregateFormsSpec)

/-- ITS FALSE NEIGHBOUR: 'it returns false'. Refute it at one input. -/
def aggregateFormsWrong : ChangeSpec := { name := "aggregateForms", fn := fun _ => fun
  | [d1, d2] => { results := [.lit (.bool false)], args := [d1, d2] }
  | _ => none }
def AggregateFormsWrongFalsely : Prop := aggregateFormsRow.holds Tryd.pinned (OpenSpec.ofChange aggregateFormsWrong)

/-- 'peeragelaw08.AggregateNarrows': WHATEVER THE INPUT: true; the input reads as it did. -/
def aggregateNarrowsSpec : ChangeSpec := { name := "aggregateNarrows", fn := fun _ => fun
  | [d] => { results := [.lit (.bool true)], args := [d] }
  | _ => none }
def aggregateNarrowsRow : OpenClaim := { program := "ytkcejeogacobiaadoor", sum := "dd7c66772c2e603bf7e28b5fb368837554b264a875de284e9d8ef0b3024950b2", func := "peerage/peeragelaw08.AggregateNarrows", spec := "aggregateNarrows", inPlace := ["internal/abi.NoEscape", "internal/bytealg.MakeNoZero"], unfollowed := true, recurses := true, named := ["internal/strconv.uint64pow10", "math/bits.deBruijn32tab", "math/bits.deBruijn64tab"], apart := false, laid := [("math/bits.deBruijn32tab", laid_math_bits_deBruijn32tab), ("math/bits.deBruijn64tab", laid_math_bits_deBruijn64tab), ("internal/strconv.uint64pow10", laid_internal_strconv_uint64pow10)] }
def AggregateNarrowsSaid : Prop := aggregateNarrowsRow.holds Tryd.pinned (OpenSpec.ofChange aggregateNarrowsSpec)

/-- ITS FALSE NEIGHBOUR: 'it returns false'. Refute it at one input. -/
def aggregateNarrowsWrong : ChangeSpec := { name := "aggregateNarrows", fn := fun _ => fun
  | [d] => { results := [.lit (.bool false)], args := [d] }
  | _ => none }
def AggregateNarrowsWrongFalsely : Prop := aggregateNarrowsRow.holds Tryd.pinned (OpenSpec.ofChange aggregateNarrowsWrong)

/-- 'peeragelaw08.AggregateMerges': WHATEVER THE INPUT: true; the input reads as it did. -/
def aggregateMergesSpec : ChangeSpec := { name := "aggregateMerges", fn := fun _ => fun
  | [d] => { results := [.lit (.bool true)], args := [d] }
  | _ => none }
def aggregateMergesRow : OpenClaim := { program := "ytkcejeogacobiaadoor", sum := "dd7c66772c2e603bf7e28b5fb368837554b264a875de284e9d8ef0b3024950b2", func := "peerage/peeragelaw08.AggregateMerges", spec := "aggregateMerges", inPlace := ["internal/abi.NoEscape", "internal/bytealg.MakeNoZero"], unfollowed := true, recurses := true, named := ["internal/strconv.uint64pow10", "math/bits.deBruijn32tab", "math/bits.deBruijn64tab"], apart := false, laid := [("math/bits.deBruijn32tab", laid_math_bits_deBruijn32tab), ("math/bits.deBruijn64tab", laid_math_bits_deBruijn64tab), ("internal/strconv.uint64pow10", laid_internal_strconv_uint64pow10)] }
def AggregateMergesSaid : Prop := aggregateMergesRow.holds Tryd.pinned (OpenSpec.ofChange aggregateMergesSpec)

/-- ITS FALSE NEIGHBOUR: 'it returns false'. Refute it at one input. -/
def aggregateMergesWrong : ChangeSpec := { name := "aggregateMerges", fn := fun _ => fun
  | [d] => { results := [.lit (.bool false)], args := [d] }
  | _ => none }
def AggregateMergesWrongFalsely : Prop := aggregateMergesRow.holds Tryd.pinned (OpenSpec.ofChange aggregateMergesWrong)

/-- 'peeragelaw11.FindingLogs': WHATEVER THE INPUT: true; the input reads as it did. -/
def findingLogsSpec : ChangeSpec := { name := "findingLogs", fn := fun _ => fun
  | [d1, d2] => { results := [.lit (.bool true)], args := [d1, d2] }
  | _ => none }
def findingLogsRow : OpenClaim := { program := "ytkcejeogacobiaadoor", sum := "dd7c66772c2e603bf7e28b5fb368837554b264a875de284e9d8ef0b3024950b2", func := "peerage/peeragelaw11.FindingLogs", spec := "findingLogs", unfollowed := true, recurses := true, named := ["internal/strconv.uint64pow10", "math/bits.deBruijn32tab", "math/bits.deBruijn64tab"], apart := false, laid := [("math/bits.deBruijn32tab", laid_math_bits_deBruijn32tab), ("math/bits.deBruijn64tab", laid_math_bits_deBruijn64tab), ("internal/strconv.uint64pow10", laid_internal_strconv_uint64pow10)] }
def FindingLogsSaid : Prop := findingLogsRow.holds Tryd.pinned (OpenSpec.ofChange findingLogsSpec)

/-- ITS FALSE NEIGHBOUR: 'it returns false'. Refute it at one input. -/
def findingLogsWrong : ChangeSpec := { name := "findingLogs", fn := fun _ => fun
  | [d1, d2] => { results := [.lit (.bool false)], args := [d1, d2] }
  | _ => none }
def FindingLogsWrongFalsely : Prop := findingLogsRow.holds Tryd.pinned (OpenSpec.ofChange findingLogsWrong)

/-- 'peeragelaw11.FindingKeeps': WHATEVER THE INPUT: true; the input reads as it did. -/
def findingKeepsSpec : ChangeSpec := { name := "findingKeeps", fn := fun _ => fun
  | [d] => { results := [.lit (.bool true)], args := [d] }
  | _ => none }
def findingKeepsRow : OpenClaim := { program := "ytkcejeogacobiaadoor", sum := "dd7c66772c2e603bf7e28b5fb368837554b264a875de284e9d8ef0b3024950b2", func := "peerage/peeragelaw11.FindingKeeps", spec := "findingKeeps", unfollowed := true, recurses := true, named := ["internal/strconv.uint64pow10", "math/bits.deBruijn32tab", "math/bits.deBruijn64tab"], apart := false, laid := [("math/bits.deBruijn32tab", laid_math_bits_deBruijn32tab), ("math/bits.deBruijn64tab", laid_math_bits_deBruijn64tab), ("internal/strconv.uint64pow10", laid_internal_strconv_uint64pow10)] }
def FindingKeepsSaid : Prop := findingKeepsRow.holds Tryd.pinned (OpenSpec.ofChange findingKeepsSpec)

/-- ITS FALSE NEIGHBOUR: 'it returns false'. Refute it at one input. -/
def findingKeepsWrong : ChangeSpec := { name := "findingKeeps", fn := fun _ => fun
  | [d] => { results := [.lit (.bool false)], args := [d] }
  | _ => none }
def FindingKeepsWrongFalsely : Prop := findingKeepsRow.holds Tryd.pinned (OpenSpec.ofChange findingKeepsWrong)

/- THE SECOND FORM. 'bulk': how many values and letters a reading holds, each counted each time it is reached (what is shared counts as often as it is met; a slice's spare places count too). A statement '..UptoSaid' is the law's where the arguments, and the package variables that the reading takes, are together of bulk at most 1048576: NARROWER than '..Said'. Prove '..Said' where nothing that the law and all that it calls make is longer than what came in: it says more and counts as full. Else prove '..UptoSaid'. A law counts once. -/
mutual
def uptoBulk {H : Type} : DataW H → Nat
  | .lit (.string bytes) => bytes.length + 1
  | .lit _ => 1
  | .nil => 1
  | .ptr d => uptoBulk d + 1
  | .slice elems spare => uptoBulkAll elems + uptoBulkAll spare + 1
  | .agg parts => uptoBulkAll parts + 1
  | .iface _ d => uptoBulk d + 1
  | .map entries => uptoBulkEntries entries + 1
  | .held _ => 1
def uptoBulkAll {H : Type} : List (DataW H) → Nat
  | [] => 0
  | d :: r => uptoBulk d + uptoBulkAll r
def uptoBulkEntries {H : Type} : List (Lit × DataW H) → Nat
  | [] => 0
  | x :: r => uptoBulkEntry x + uptoBulkEntries r
def uptoBulkEntry {H : Type} : Lit × DataW H → Nat
  | (.string bytes, d) => bytes.length + uptoBulk d + 1
  | (_, d) => uptoBulk d + 1
 end
def uptoSmall : (H : Type) → List (DataW H) → Bool := fun _ ds => decide (uptoBulkAll ds ≤ 1048576)
def OpenSpec.upto (s : _root_.Go.ChangeSpec) : _root_.Go.OpenSpec := { _root_.Go.OpenSpec.ofChange s with cond := some uptoSmall }

/-- 'peeragelaw07.BasicReads', WHERE WHAT IT READS IS OF BULK AT MOST 1048576: true; the input reads as it did. -/
def basicReadsUptoRow : OpenClaim := { program := "ytkcejeogacobiaadoor", sum := "dd7c66772c2e603bf7e28b5fb368837554b264a875de284e9d8ef0b3024950b2", func := "peerage/peeragelaw07.BasicReads", spec := "basicReads", inPlace := ["internal/abi.NoEscape", "internal/bytealg.MakeNoZero"], unfollowed := true, recurses := true, named := ["internal/strconv.uint64pow10", "math/bits.deBruijn32tab", "math/bits.deBruijn64tab"], apart := false, laid := [("math/bits.deBruijn32tab", laid_math_bits_deBruijn32tab), ("math/bits.deBruijn64tab", laid_math_bits_deBruijn64tab), ("internal/strconv.uint64pow10", laid_internal_strconv_uint64pow10)], narrowed := true }
def BasicReadsUptoSaid : Prop := basicReadsUptoRow.holds Tryd.pinned (OpenSpec.upto basicReadsSpec)

/-- 'peeragelaw07.BasicLengths', WHERE WHAT IT READS IS OF BULK AT MOST 1048576: true; the input reads as it did. -/
def basicLengthsUptoRow : OpenClaim := { program := "ytkcejeogacobiaadoor", sum := "dd7c66772c2e603bf7e28b5fb368837554b264a875de284e9d8ef0b3024950b2", func := "peerage/peeragelaw07.BasicLengths", spec := "basicLengths", inPlace := ["internal/abi.NoEscape", "internal/bytealg.MakeNoZero"], unfollowed := true, recurses := true, named := ["internal/strconv.uint64pow10", "math/bits.deBruijn32tab", "math/bits.deBruijn64tab"], apart := false, laid := [("math/bits.deBruijn32tab", laid_math_bits_deBruijn32tab), ("math/bits.deBruijn64tab", laid_math_bits_deBruijn64tab), ("internal/strconv.uint64pow10", laid_internal_strconv_uint64pow10)], narrowed := true }
def BasicLengthsUptoSaid : Prop := basicLengthsUptoRow.holds Tryd.pinned (OpenSpec.upto basicLengthsSpec)

/-- 'peeragelaw07.BasicPlain', WHERE WHAT IT READS IS OF BULK AT MOST 1048576: true; the input reads as it did. -/
def basicPlainUptoRow : OpenClaim := { program := "ytkcejeogacobiaadoor", sum := "dd7c66772c2e603bf7e28b5fb368837554b264a875de284e9d8ef0b3024950b2", func := "peerage/peeragelaw07.BasicPlain", spec := "basicPlain", inPlace := ["internal/abi.NoEscape", "internal/bytealg.MakeNoZero"], unfollowed := true, recurses := true, named := ["internal/strconv.uint64pow10", "math/bits.deBruijn32tab", "math/bits.deBruijn64tab"], apart := false, laid := [("math/bits.deBruijn32tab", laid_math_bits_deBruijn32tab), ("math/bits.deBruijn64tab", laid_math_bits_deBruijn64tab), ("internal/strconv.uint64pow10", laid_internal_strconv_uint64pow10)], narrowed := true }
def BasicPlainUptoSaid : Prop := basicPlainUptoRow.holds Tryd.pinned (OpenSpec.upto basicPlainSpec)

/-- 'peeragelaw07.BasicApart', WHERE WHAT IT READS IS OF BULK AT MOST 1048576: true; the input reads as it did. -/
def basicApartUptoRow : OpenClaim := { program := "ytkcejeogacobiaadoor", sum := "dd7c66772c2e603bf7e28b5fb368837554b264a875de284e9d8ef0b3024950b2", func := "peerage/peeragelaw07.BasicApart", spec := "basicApart", inPlace := ["internal/abi.NoEscape", "internal/bytealg.MakeNoZero"], unfollowed := true, recurses := true, named := ["internal/strconv.uint64pow10", "math/bits.deBruijn32tab", "math/bits.deBruijn64tab"], apart := false, laid := [("math/bits.deBruijn32tab", laid_math_bits_deBruijn32tab), ("math/bits.deBruijn64tab", laid_math_bits_deBruijn64tab), ("internal/strconv.uint64pow10", laid_internal_strconv_uint64pow10)], narrowed := true }
def BasicApartUptoSaid : Prop := basicApartUptoRow.holds Tryd.pinned (OpenSpec.upto basicApartSpec)

/-- 'peeragelaw07.BasicForms', WHERE WHAT IT READS IS OF BULK AT MOST 1048576: true; the input reads as it did. -/
def basicFormsUptoRow : OpenClaim := { program := "ytkcejeogacobiaadoor", sum := "dd7c66772c2e603bf7e28b5fb368837554b264a875de284e9d8ef0b3024950b2", func := "peerage/peeragelaw07.BasicForms", spec := "basicForms", inPlace := ["internal/abi.NoEscape", "internal/bytealg.MakeNoZero"], unfollowed := true, recurses := true, named := ["internal/strconv.uint64pow10", "math/bits.deBruijn32tab", "math/bits.deBruijn64tab"], apart := false, laid := [("math/bits.deBruijn32tab", laid_math_bits_deBruijn32tab), ("math/bits.deBruijn64tab", laid_math_bits_deBruijn64tab), ("internal/strconv.uint64pow10", laid_internal_strconv_uint64pow10)], narrowed := true }
def BasicFormsUptoSaid : Prop := basicFormsUptoRow.holds Tryd.pinned (OpenSpec.upto basicFormsSpec)

/-- 'peeragelaw08.AggregateReads', WHERE WHAT IT READS IS OF BULK AT MOST 1048576: true; the input reads as it did. -/
def aggregateReadsUptoRow : OpenClaim := { program := "ytkcejeogacobiaadoor", sum := "dd7c66772c2e603bf7e28b5fb368837554b264a875de284e9d8ef0b3024950b2", func := "peerage/peeragelaw08.AggregateReads", spec := "aggregateReads", inPlace := ["internal/abi.NoEscape", "internal/bytealg.MakeNoZero"], named := ["internal/strconv.uint64pow10", "math/bits.deBruijn32tab", "math/bits.deBruijn64tab"], apart := false, laid := [("math/bits.deBruijn32tab", laid_math_bits_deBruijn32tab), ("math/bits.deBruijn64tab", laid_math_bits_deBruijn64tab), ("internal/strconv.uint64pow10", laid_internal_strconv_uint64pow10)], narrowed := true }
def AggregateReadsUptoSaid : Prop := aggregateReadsUptoRow.holds Tryd.pinned (OpenSpec.upto aggregateReadsSpec)

/-- 'peeragelaw08.AggregateWidths', WHERE WHAT IT READS IS OF BULK AT MOST 1048576: true; the input reads as it did. -/
def aggregateWidthsUptoRow : OpenClaim := { program := "ytkcejeogacobiaadoor", sum := "dd7c66772c2e603bf7e28b5fb368837554b264a875de284e9d8ef0b3024950b2", func := "peerage/peeragelaw08.AggregateWidths", spec := "aggregateWidths", inPlace := ["internal/abi.NoEscape", "internal/bytealg.MakeNoZero"], named := ["internal/strconv.uint64pow10", "math/bits.deBruijn32tab", "math/bits.deBruijn64tab"], apart := false, laid := [("math/bits.deBruijn32tab", laid_math_bits_deBruijn32tab), ("math/bits.deBruijn64tab", laid_math_bits_deBruijn64tab), ("internal/strconv.uint64pow10", laid_internal_strconv_uint64pow10)], narrowed := true }
def AggregateWidthsUptoSaid : Prop := aggregateWidthsUptoRow.holds Tryd.pinned (OpenSpec.upto aggregateWidthsSpec)

/-- 'peeragelaw08.AggregateForms', WHERE WHAT IT READS IS OF BULK AT MOST 1048576: true; the input reads as it did. -/
def aggregateFormsUptoRow : OpenClaim := { program := "ytkcejeogacobiaadoor", sum := "dd7c66772c2e603bf7e28b5fb368837554b264a875de284e9d8ef0b3024950b2", func := "peerage/peeragelaw08.AggregateForms", spec := "aggregateForms", inPlace := ["internal/abi.NoEscape", "internal/bytealg.MakeNoZero"], named := ["internal/strconv.uint64pow10", "math/bits.deBruijn32tab", "math/bits.deBruijn64tab"], apart := false, laid := [("math/bits.deBruijn32tab", laid_math_bits_deBruijn32tab), ("math/bits.deBruijn64tab", laid_math_bits_deBruijn64tab), ("internal/strconv.uint64pow10", laid_internal_strconv_uint64pow10)], narrowed := true }
def AggregateFormsUptoSaid : Prop := aggregateFormsUptoRow.holds Tryd.pinned (OpenSpec.upto aggregateFormsSpec)

/-- 'peeragelaw08.AggregateNarrows', WHERE WHAT IT READS IS OF BULK AT MOST 1048576: true; the input reads as it did. -/
def aggregateNarrowsUptoRow : OpenClaim := { program := "ytkcejeogacobiaadoor", sum := "dd7c66772c2e603bf7e28b5fb368837554b264a875de284e9d8ef0b3024950b2", func := "peerage/peeragelaw08.AggregateNarrows", spec := "aggregateNarrows", inPlace := ["internal/abi.NoEscape", "internal/bytealg.MakeNoZero"], unfollowed := true, recurses := true, named := ["internal/strconv.uint64pow10", "math/bits.deBruijn32tab", "math/bits.deBruijn64tab"], apart := false, laid := [("math/bits.deBruijn32tab", laid_math_bits_deBruijn32tab), ("math/bits.deBruijn64tab", laid_math_bits_deBruijn64tab), ("internal/strconv.uint64pow10", laid_internal_strconv_uint64pow10)], narrowed := true }
def AggregateNarrowsUptoSaid : Prop := aggregateNarrowsUptoRow.holds Tryd.pinned (OpenSpec.upto aggregateNarrowsSpec)

/-- 'peeragelaw08.AggregateMerges', WHERE WHAT IT READS IS OF BULK AT MOST 1048576: true; the input reads as it did. -/
def aggregateMergesUptoRow : OpenClaim := { program := "ytkcejeogacobiaadoor", sum := "dd7c66772c2e603bf7e28b5fb368837554b264a875de284e9d8ef0b3024950b2", func := "peerage/peeragelaw08.AggregateMerges", spec := "aggregateMerges", inPlace := ["internal/abi.NoEscape", "internal/bytealg.MakeNoZero"], unfollowed := true, recurses := true, named := ["internal/strconv.uint64pow10", "math/bits.deBruijn32tab", "math/bits.deBruijn64tab"], apart := false, laid := [("math/bits.deBruijn32tab", laid_math_bits_deBruijn32tab), ("math/bits.deBruijn64tab", laid_math_bits_deBruijn64tab), ("internal/strconv.uint64pow10", laid_internal_strconv_uint64pow10)], narrowed := true }
def AggregateMergesUptoSaid : Prop := aggregateMergesUptoRow.holds Tryd.pinned (OpenSpec.upto aggregateMergesSpec)

/-- 'peeragelaw11.FindingLogs', WHERE WHAT IT READS IS OF BULK AT MOST 1048576: true; the input reads as it did. -/
def findingLogsUptoRow : OpenClaim := { program := "ytkcejeogacobiaadoor", sum := "dd7c66772c2e603bf7e28b5fb368837554b264a875de284e9d8ef0b3024950b2", func := "peerage/peeragelaw11.FindingLogs", spec := "findingLogs", unfollowed := true, recurses := true, named := ["internal/strconv.uint64pow10", "math/bits.deBruijn32tab", "math/bits.deBruijn64tab"], apart := false, laid := [("math/bits.deBruijn32tab", laid_math_bits_deBruijn32tab), ("math/bits.deBruijn64tab", laid_math_bits_deBruijn64tab), ("internal/strconv.uint64pow10", laid_internal_strconv_uint64pow10)], narrowed := true }
def FindingLogsUptoSaid : Prop := findingLogsUptoRow.holds Tryd.pinned (OpenSpec.upto findingLogsSpec)

/-- 'peeragelaw11.FindingKeeps', WHERE WHAT IT READS IS OF BULK AT MOST 1048576: true; the input reads as it did. -/
def findingKeepsUptoRow : OpenClaim := { program := "ytkcejeogacobiaadoor", sum := "dd7c66772c2e603bf7e28b5fb368837554b264a875de284e9d8ef0b3024950b2", func := "peerage/peeragelaw11.FindingKeeps", spec := "findingKeeps", unfollowed := true, recurses := true, named := ["internal/strconv.uint64pow10", "math/bits.deBruijn32tab", "math/bits.deBruijn64tab"], apart := false, laid := [("math/bits.deBruijn32tab", laid_math_bits_deBruijn32tab), ("math/bits.deBruijn64tab", laid_math_bits_deBruijn64tab), ("internal/strconv.uint64pow10", laid_internal_strconv_uint64pow10)], narrowed := true }
def FindingKeepsUptoSaid : Prop := findingKeepsUptoRow.holds Tryd.pinned (OpenSpec.upto findingKeepsSpec)

end Rows
end Go.Proofs.YtkcejeogacobiaaDoor
