/-
  NARROWER THAN 'FOR EVERY INPUT', by the rows' own cells (each row's printed sentence says how): PrefixReads: laid · PrefixMakes: laid · PrefixCovers: laid · PrefixOrders: laid · PrefixForms: laid · PrefixParses: laid · FindingOrders: laid · FindingTexts: laid · FindingFolds: laid · MpFamilies: laid · RefreshForms: laid · RefreshApart: laid.
  DERIVED. THE GIVEN ROWS OF THIS SEAT. 12 by the template 'for every input the law returns true; each argument reads behind the call as it read before'; 0 by the template 'total and deterministic' (their statements: YtiehbmhekncbhaaDoorTotals.lean).
  GIVEN WITH THE SEED: the statements are not yours to turn. If you find one false, say at which input.
  Laid BY PROGRAM, IN A SANDBOX (cutbox-rows.mjs): the forced cells as the released guide's own fill.sh prints them over the translation 128e0b659fbee5ad… (all of the seat's roots in one cut). By AI agents, Wed Nov 11 2026. No macro, syntax, notation, axiom, sorry.
-/
import Derived.Test.YtiehbmhekncbhaaDoorChecked
import GoSem.PinnedTables
import GoSem.Claim
import GoSem.ClaimJoined
import GoSem.ClaimMapViews
import Derived.JoinedTies
import Derived.KernelRfl
namespace Go.Proofs.YtiehbmhekncbhaaDoor
/- THE CELL 'sum', in the pinned program and in every row, IS THE sha256 OF THE DUMP (.gsa) THAT YtiehbmhekncbhaaDoorProg.lean LOADS. Nothing in Lean hashes anything: it is a label: what it is worth is what the hold of that sum in a sandbox is worth. -/
noncomputable def Tryd.pinned : Pinned := { name := "ytiehbmhekncbhaadoor", sum := "128e0b659fbee5adbe8c0a4052417d2af2f66be67064a44880578f7b963deac9", checked := Tryd.checked }
namespace Rows
def none {H : Type} : Left H := { results := [], args := [] }

/- WHAT THE LISTED PACKAGE-LEVEL VARIABLES READ AS WHEN THE CALL BEGINS. Each datum BY PROGRAM (the guide's laid-datum.mjs) off the statement by which the dump's own 'gosem.cut.vars' lays the variable. In a bare row this is a premise. The card (YtiehbmhekncbhaaDoorCards.lean) ties it to the program's text. -/
def laid_math_bits_deBruijn32tab {H : Type} : DataW H := .agg [.lit (.int .u8 0), .lit (.int .u8 1), .lit (.int .u8 28), .lit (.int .u8 2), .lit (.int .u8 29), .lit (.int .u8 14), .lit (.int .u8 24), .lit (.int .u8 3), .lit (.int .u8 30), .lit (.int .u8 22), .lit (.int .u8 20), .lit (.int .u8 15), .lit (.int .u8 25), .lit (.int .u8 17), .lit (.int .u8 4), .lit (.int .u8 8), .lit (.int .u8 31), .lit (.int .u8 27), .lit (.int .u8 13), .lit (.int .u8 23), .lit (.int .u8 21), .lit (.int .u8 19), .lit (.int .u8 16), .lit (.int .u8 7), .lit (.int .u8 26), .lit (.int .u8 12), .lit (.int .u8 18), .lit (.int .u8 6), .lit (.int .u8 11), .lit (.int .u8 5), .lit (.int .u8 10), .lit (.int .u8 9)]
def laid_math_bits_deBruijn64tab {H : Type} : DataW H := .agg [.lit (.int .u8 0), .lit (.int .u8 1), .lit (.int .u8 56), .lit (.int .u8 2), .lit (.int .u8 57), .lit (.int .u8 49), .lit (.int .u8 28), .lit (.int .u8 3), .lit (.int .u8 61), .lit (.int .u8 58), .lit (.int .u8 42), .lit (.int .u8 50), .lit (.int .u8 38), .lit (.int .u8 29), .lit (.int .u8 17), .lit (.int .u8 4), .lit (.int .u8 62), .lit (.int .u8 47), .lit (.int .u8 59), .lit (.int .u8 36), .lit (.int .u8 45), .lit (.int .u8 43), .lit (.int .u8 51), .lit (.int .u8 22), .lit (.int .u8 53), .lit (.int .u8 39), .lit (.int .u8 33), .lit (.int .u8 30), .lit (.int .u8 24), .lit (.int .u8 18), .lit (.int .u8 12), .lit (.int .u8 5), .lit (.int .u8 63), .lit (.int .u8 55), .lit (.int .u8 48), .lit (.int .u8 27), .lit (.int .u8 60), .lit (.int .u8 41), .lit (.int .u8 37), .lit (.int .u8 16), .lit (.int .u8 46), .lit (.int .u8 35), .lit (.int .u8 44), .lit (.int .u8 21), .lit (.int .u8 52), .lit (.int .u8 32), .lit (.int .u8 23), .lit (.int .u8 11), .lit (.int .u8 54), .lit (.int .u8 26), .lit (.int .u8 40), .lit (.int .u8 15), .lit (.int .u8 34), .lit (.int .u8 20), .lit (.int .u8 31), .lit (.int .u8 10), .lit (.int .u8 25), .lit (.int .u8 14), .lit (.int .u8 19), .lit (.int .u8 9), .lit (.int .u8 13), .lit (.int .u8 8), .lit (.int .u8 7), .lit (.int .u8 6)]
def laid_internal_strconv_uint64pow10 {H : Type} : DataW H := .agg [.lit (.int .u64 1), .lit (.int .u64 10), .lit (.int .u64 100), .lit (.int .u64 1000), .lit (.int .u64 10000), .lit (.int .u64 100000), .lit (.int .u64 1000000), .lit (.int .u64 10000000), .lit (.int .u64 100000000), .lit (.int .u64 1000000000), .lit (.int .u64 10000000000), .lit (.int .u64 100000000000), .lit (.int .u64 1000000000000), .lit (.int .u64 10000000000000), .lit (.int .u64 100000000000000), .lit (.int .u64 1000000000000000), .lit (.int .u64 10000000000000000), .lit (.int .u64 100000000000000000), .lit (.int .u64 1000000000000000000), .lit (.int .u64 10000000000000000000)]
def laid_unicode_utf8_acceptRanges {H : Type} : DataW H := .agg [.agg [.lit (.int .u8 128), .lit (.int .u8 191)], .agg [.lit (.int .u8 160), .lit (.int .u8 191)], .agg [.lit (.int .u8 128), .lit (.int .u8 159)], .agg [.lit (.int .u8 144), .lit (.int .u8 191)], .agg [.lit (.int .u8 128), .lit (.int .u8 143)], .agg [.lit (.int .u8 0), .lit (.int .u8 0)], .agg [.lit (.int .u8 0), .lit (.int .u8 0)], .agg [.lit (.int .u8 0), .lit (.int .u8 0)], .agg [.lit (.int .u8 0), .lit (.int .u8 0)], .agg [.lit (.int .u8 0), .lit (.int .u8 0)], .agg [.lit (.int .u8 0), .lit (.int .u8 0)], .agg [.lit (.int .u8 0), .lit (.int .u8 0)], .agg [.lit (.int .u8 0), .lit (.int .u8 0)], .agg [.lit (.int .u8 0), .lit (.int .u8 0)], .agg [.lit (.int .u8 0), .lit (.int .u8 0)], .agg [.lit (.int .u8 0), .lit (.int .u8 0)]]
def laid_strconv_ErrRange {H : Type} : DataW H := .iface "*errors.errorString" (.ptr (.agg [.lit (.string [118, 97, 108, 117, 101, 32, 111, 117, 116, 32, 111, 102, 32, 114, 97, 110, 103, 101])]))
def laid_strconv_ErrSyntax {H : Type} : DataW H := .iface "*errors.errorString" (.ptr (.agg [.lit (.string [105, 110, 118, 97, 108, 105, 100, 32, 115, 121, 110, 116, 97, 120])]))
/-- One of Go's own tables, pinned by name: the form's constant. -/
def laid_unicode_utf8_first : DataW Unit := Go.Pinned.utf8First
def laid_peerage_mp_families {H : Type} : DataW H := .agg [.agg [.lit (.string []), .lit (.int .u32 0)], .agg [.lit (.string [105, 112, 118, 52]), .lit (.int .u32 1)], .agg [.lit (.string [105, 112, 118, 54]), .lit (.int .u32 2)]]

/-- 'peeragelaw02.PrefixReads': WHATEVER THE INPUT: true; the input reads as it did. -/
def prefixReadsSpec : ChangeSpec := { name := "prefixReads", fn := fun _ => fun
  | [d1, d2] => { results := [.lit (.bool true)], args := [d1, d2] }
  | _ => none }
def prefixReadsRow : OpenClaim := { program := "ytiehbmhekncbhaadoor", sum := "128e0b659fbee5adbe8c0a4052417d2af2f66be67064a44880578f7b963deac9", func := "peerage/peeragelaw02.PrefixReads", spec := "prefixReads", inPlace := ["internal/abi.NoEscape", "internal/bytealg.MakeNoZero"], named := ["internal/strconv.uint64pow10", "math/bits.deBruijn32tab", "math/bits.deBruijn64tab"], apart := false, laid := [("math/bits.deBruijn32tab", laid_math_bits_deBruijn32tab), ("math/bits.deBruijn64tab", laid_math_bits_deBruijn64tab), ("internal/strconv.uint64pow10", laid_internal_strconv_uint64pow10)] }
def PrefixReadsSaid : Prop := prefixReadsRow.holds Tryd.pinned (OpenSpec.ofChange prefixReadsSpec)

/-- ITS FALSE NEIGHBOUR: 'it returns false'. Refute it at one input. -/
def prefixReadsWrong : ChangeSpec := { name := "prefixReads", fn := fun _ => fun
  | [d1, d2] => { results := [.lit (.bool false)], args := [d1, d2] }
  | _ => none }
def PrefixReadsWrongFalsely : Prop := prefixReadsRow.holds Tryd.pinned (OpenSpec.ofChange prefixReadsWrong)

/-- 'peeragelaw02.PrefixMakes': WHATEVER THE INPUT: true; the input reads as it did. -/
def prefixMakesSpec : ChangeSpec := { name := "prefixMakes", fn := fun _ => fun
  | [d1, d2, d3] => { results := [.lit (.bool true)], args := [d1, d2, d3] }
  | _ => none }
def prefixMakesRow : OpenClaim := { program := "ytiehbmhekncbhaadoor", sum := "128e0b659fbee5adbe8c0a4052417d2af2f66be67064a44880578f7b963deac9", func := "peerage/peeragelaw02.PrefixMakes", spec := "prefixMakes", inPlace := ["internal/abi.NoEscape", "internal/bytealg.MakeNoZero"], named := ["internal/strconv.uint64pow10", "math/bits.deBruijn32tab", "math/bits.deBruijn64tab"], apart := false, laid := [("math/bits.deBruijn32tab", laid_math_bits_deBruijn32tab), ("math/bits.deBruijn64tab", laid_math_bits_deBruijn64tab), ("internal/strconv.uint64pow10", laid_internal_strconv_uint64pow10)] }
def PrefixMakesSaid : Prop := prefixMakesRow.holds Tryd.pinned (OpenSpec.ofChange prefixMakesSpec)

/-- ITS FALSE NEIGHBOUR: 'it returns false'. Refute it at one input. -/
def prefixMakesWrong : ChangeSpec := { name := "prefixMakes", fn := fun _ => fun
  | [d1, d2, d3] => { results := [.lit (.bool false)], args := [d1, d2, d3] }
  | _ => none }
def PrefixMakesWrongFalsely : Prop := prefixMakesRow.holds Tryd.pinned (OpenSpec.ofChange prefixMakesWrong)

/-- 'peeragelaw02.PrefixCovers': WHATEVER THE INPUT: true; the input reads as it did. -/
def prefixCoversSpec : ChangeSpec := { name := "prefixCovers", fn := fun _ => fun
  | [d1, d2, d3] => { results := [.lit (.bool true)], args := [d1, d2, d3] }
  | _ => none }
def prefixCoversRow : OpenClaim := { program := "ytiehbmhekncbhaadoor", sum := "128e0b659fbee5adbe8c0a4052417d2af2f66be67064a44880578f7b963deac9", func := "peerage/peeragelaw02.PrefixCovers", spec := "prefixCovers", inPlace := ["internal/abi.NoEscape", "internal/bytealg.MakeNoZero"], named := ["internal/strconv.uint64pow10", "math/bits.deBruijn32tab", "math/bits.deBruijn64tab"], apart := false, laid := [("math/bits.deBruijn32tab", laid_math_bits_deBruijn32tab), ("math/bits.deBruijn64tab", laid_math_bits_deBruijn64tab), ("internal/strconv.uint64pow10", laid_internal_strconv_uint64pow10)] }
def PrefixCoversSaid : Prop := prefixCoversRow.holds Tryd.pinned (OpenSpec.ofChange prefixCoversSpec)

/-- ITS FALSE NEIGHBOUR: 'it returns false'. Refute it at one input. -/
def prefixCoversWrong : ChangeSpec := { name := "prefixCovers", fn := fun _ => fun
  | [d1, d2, d3] => { results := [.lit (.bool false)], args := [d1, d2, d3] }
  | _ => none }
def PrefixCoversWrongFalsely : Prop := prefixCoversRow.holds Tryd.pinned (OpenSpec.ofChange prefixCoversWrong)

/-- 'peeragelaw02.PrefixOrders': WHATEVER THE INPUT: true; the input reads as it did. -/
def prefixOrdersSpec : ChangeSpec := { name := "prefixOrders", fn := fun _ => fun
  | [d1, d2, d3] => { results := [.lit (.bool true)], args := [d1, d2, d3] }
  | _ => none }
def prefixOrdersRow : OpenClaim := { program := "ytiehbmhekncbhaadoor", sum := "128e0b659fbee5adbe8c0a4052417d2af2f66be67064a44880578f7b963deac9", func := "peerage/peeragelaw02.PrefixOrders", spec := "prefixOrders", inPlace := ["internal/bytealg.Compare", "internal/abi.NoEscape", "internal/bytealg.MakeNoZero"], named := ["internal/strconv.uint64pow10", "math/bits.deBruijn32tab", "math/bits.deBruijn64tab"], apart := false, laid := [("math/bits.deBruijn32tab", laid_math_bits_deBruijn32tab), ("math/bits.deBruijn64tab", laid_math_bits_deBruijn64tab), ("internal/strconv.uint64pow10", laid_internal_strconv_uint64pow10)] }
def PrefixOrdersSaid : Prop := prefixOrdersRow.holds Tryd.pinned (OpenSpec.ofChange prefixOrdersSpec)

/-- ITS FALSE NEIGHBOUR: 'it returns false'. Refute it at one input. -/
def prefixOrdersWrong : ChangeSpec := { name := "prefixOrders", fn := fun _ => fun
  | [d1, d2, d3] => { results := [.lit (.bool false)], args := [d1, d2, d3] }
  | _ => none }
def PrefixOrdersWrongFalsely : Prop := prefixOrdersRow.holds Tryd.pinned (OpenSpec.ofChange prefixOrdersWrong)

/-- 'peeragelaw02.PrefixForms': WHATEVER THE INPUT: true; the input reads as it did. -/
def prefixFormsSpec : ChangeSpec := { name := "prefixForms", fn := fun _ => fun
  | [d] => { results := [.lit (.bool true)], args := [d] }
  | _ => none }
def prefixFormsRow : OpenClaim := { program := "ytiehbmhekncbhaadoor", sum := "128e0b659fbee5adbe8c0a4052417d2af2f66be67064a44880578f7b963deac9", func := "peerage/peeragelaw02.PrefixForms", spec := "prefixForms", inPlace := ["internal/abi.NoEscape", "internal/bytealg.MakeNoZero", "internal/bytealg.IndexByteString", "internal/bytealg.IndexString", "internal/bytealg.CountString"], named := ["internal/strconv.uint64pow10", "math/bits.deBruijn32tab", "math/bits.deBruijn64tab", "internal/bytealg.MaxLen", "strconv.ErrSyntax", "strconv.ErrRange", "unicode/utf8.first", "unicode/utf8.acceptRanges"], apart := false, laid := [("math/bits.deBruijn32tab", laid_math_bits_deBruijn32tab), ("math/bits.deBruijn64tab", laid_math_bits_deBruijn64tab), ("internal/strconv.uint64pow10", laid_internal_strconv_uint64pow10), ("unicode/utf8.acceptRanges", laid_unicode_utf8_acceptRanges), ("strconv.ErrRange", laid_strconv_ErrRange), ("strconv.ErrSyntax", laid_strconv_ErrSyntax), ("unicode/utf8.first", laid_unicode_utf8_first)] }
def PrefixFormsSaid : Prop := prefixFormsRow.holds Tryd.pinned (OpenSpec.ofChange prefixFormsSpec)

/-- ITS FALSE NEIGHBOUR: 'it returns false'. Refute it at one input. -/
def prefixFormsWrong : ChangeSpec := { name := "prefixForms", fn := fun _ => fun
  | [d] => { results := [.lit (.bool false)], args := [d] }
  | _ => none }
def PrefixFormsWrongFalsely : Prop := prefixFormsRow.holds Tryd.pinned (OpenSpec.ofChange prefixFormsWrong)

/-- 'peeragelaw02.PrefixParses': WHATEVER THE INPUT: true; the input reads as it did. -/
def prefixParsesSpec : ChangeSpec := { name := "prefixParses", fn := fun _ => fun
  | [d] => { results := [.lit (.bool true)], args := [d] }
  | _ => none }
def prefixParsesRow : OpenClaim := { program := "ytiehbmhekncbhaadoor", sum := "128e0b659fbee5adbe8c0a4052417d2af2f66be67064a44880578f7b963deac9", func := "peerage/peeragelaw02.PrefixParses", spec := "prefixParses", inPlace := ["internal/abi.NoEscape", "internal/bytealg.MakeNoZero", "internal/bytealg.IndexByteString", "internal/bytealg.IndexString", "internal/bytealg.CountString"], named := ["internal/strconv.uint64pow10", "math/bits.deBruijn32tab", "math/bits.deBruijn64tab", "internal/bytealg.MaxLen", "strconv.ErrSyntax", "strconv.ErrRange", "unicode/utf8.first", "unicode/utf8.acceptRanges"], apart := false, laid := [("math/bits.deBruijn32tab", laid_math_bits_deBruijn32tab), ("math/bits.deBruijn64tab", laid_math_bits_deBruijn64tab), ("internal/strconv.uint64pow10", laid_internal_strconv_uint64pow10), ("unicode/utf8.acceptRanges", laid_unicode_utf8_acceptRanges), ("strconv.ErrRange", laid_strconv_ErrRange), ("strconv.ErrSyntax", laid_strconv_ErrSyntax), ("unicode/utf8.first", laid_unicode_utf8_first)] }
def PrefixParsesSaid : Prop := prefixParsesRow.holds Tryd.pinned (OpenSpec.ofChange prefixParsesSpec)

/-- ITS FALSE NEIGHBOUR: 'it returns false'. Refute it at one input. -/
def prefixParsesWrong : ChangeSpec := { name := "prefixParses", fn := fun _ => fun
  | [d] => { results := [.lit (.bool false)], args := [d] }
  | _ => none }
def PrefixParsesWrongFalsely : Prop := prefixParsesRow.holds Tryd.pinned (OpenSpec.ofChange prefixParsesWrong)

/-- 'peeragelaw11.FindingOrders': WHATEVER THE INPUT: true; the input reads as it did. -/
def findingOrdersSpec : ChangeSpec := { name := "findingOrders", fn := fun _ => fun
  | [d1, d2, d3] => { results := [.lit (.bool true)], args := [d1, d2, d3] }
  | _ => none }
def findingOrdersRow : OpenClaim := { program := "ytiehbmhekncbhaadoor", sum := "128e0b659fbee5adbe8c0a4052417d2af2f66be67064a44880578f7b963deac9", func := "peerage/peeragelaw11.FindingOrders", spec := "findingOrders", named := ["internal/strconv.uint64pow10", "math/bits.deBruijn32tab", "math/bits.deBruijn64tab"], apart := false, laid := [("math/bits.deBruijn32tab", laid_math_bits_deBruijn32tab), ("math/bits.deBruijn64tab", laid_math_bits_deBruijn64tab), ("internal/strconv.uint64pow10", laid_internal_strconv_uint64pow10)] }
def FindingOrdersSaid : Prop := findingOrdersRow.holds Tryd.pinned (OpenSpec.ofChange findingOrdersSpec)

/-- ITS FALSE NEIGHBOUR: 'it returns false'. Refute it at one input. -/
def findingOrdersWrong : ChangeSpec := { name := "findingOrders", fn := fun _ => fun
  | [d1, d2, d3] => { results := [.lit (.bool false)], args := [d1, d2, d3] }
  | _ => none }
def FindingOrdersWrongFalsely : Prop := findingOrdersRow.holds Tryd.pinned (OpenSpec.ofChange findingOrdersWrong)

/-- 'peeragelaw11.FindingTexts': WHATEVER THE INPUT: true; the input reads as it did. -/
def findingTextsSpec : ChangeSpec := { name := "findingTexts", fn := fun _ => fun
  | [d] => { results := [.lit (.bool true)], args := [d] }
  | _ => none }
def findingTextsRow : OpenClaim := { program := "ytiehbmhekncbhaadoor", sum := "128e0b659fbee5adbe8c0a4052417d2af2f66be67064a44880578f7b963deac9", func := "peerage/peeragelaw11.FindingTexts", spec := "findingTexts", named := ["internal/strconv.uint64pow10", "math/bits.deBruijn32tab", "math/bits.deBruijn64tab"], apart := false, laid := [("math/bits.deBruijn32tab", laid_math_bits_deBruijn32tab), ("math/bits.deBruijn64tab", laid_math_bits_deBruijn64tab), ("internal/strconv.uint64pow10", laid_internal_strconv_uint64pow10)] }
def FindingTextsSaid : Prop := findingTextsRow.holds Tryd.pinned (OpenSpec.ofChange findingTextsSpec)

/-- ITS FALSE NEIGHBOUR: 'it returns false'. Refute it at one input. -/
def findingTextsWrong : ChangeSpec := { name := "findingTexts", fn := fun _ => fun
  | [d] => { results := [.lit (.bool false)], args := [d] }
  | _ => none }
def FindingTextsWrongFalsely : Prop := findingTextsRow.holds Tryd.pinned (OpenSpec.ofChange findingTextsWrong)

/-- 'peeragelaw11.FindingFolds': WHATEVER THE INPUT: true; the input reads as it did. -/
def findingFoldsSpec : ChangeSpec := { name := "findingFolds", fn := fun _ => fun
  | [d1, d2] => { results := [.lit (.bool true)], args := [d1, d2] }
  | _ => none }
def findingFoldsRow : OpenClaim := { program := "ytiehbmhekncbhaadoor", sum := "128e0b659fbee5adbe8c0a4052417d2af2f66be67064a44880578f7b963deac9", func := "peerage/peeragelaw11.FindingFolds", spec := "findingFolds", unfollowed := true, recurses := true, named := ["internal/strconv.uint64pow10", "math/bits.deBruijn32tab", "math/bits.deBruijn64tab"], apart := false, laid := [("math/bits.deBruijn32tab", laid_math_bits_deBruijn32tab), ("math/bits.deBruijn64tab", laid_math_bits_deBruijn64tab), ("internal/strconv.uint64pow10", laid_internal_strconv_uint64pow10)] }
def FindingFoldsSaid : Prop := findingFoldsRow.holds Tryd.pinned (OpenSpec.ofChange findingFoldsSpec)

/-- ITS FALSE NEIGHBOUR: 'it returns false'. Refute it at one input. -/
def findingFoldsWrong : ChangeSpec := { name := "findingFolds", fn := fun _ => fun
  | [d1, d2] => { results := [.lit (.bool false)], args := [d1, d2] }
  | _ => none }
def FindingFoldsWrongFalsely : Prop := findingFoldsRow.holds Tryd.pinned (OpenSpec.ofChange findingFoldsWrong)

/-- 'peeragelaw12.MpFamilies': WHATEVER THE INPUT: true; the input reads as it did. -/
def mpFamiliesSpec : ChangeSpec := { name := "mpFamilies", fn := fun _ => fun
  | [d1, d2, d3] => { results := [.lit (.bool true)], args := [d1, d2, d3] }
  | _ => none }
def mpFamiliesRow : OpenClaim := { program := "ytiehbmhekncbhaadoor", sum := "128e0b659fbee5adbe8c0a4052417d2af2f66be67064a44880578f7b963deac9", func := "peerage/peeragelaw12.MpFamilies", spec := "mpFamilies", named := ["peerage/mp.families"], apart := false, laid := [("peerage/mp.families", laid_peerage_mp_families)] }
def MpFamiliesSaid : Prop := mpFamiliesRow.holds Tryd.pinned (OpenSpec.ofChange mpFamiliesSpec)

/-- ITS FALSE NEIGHBOUR: 'it returns false'. Refute it at one input. -/
def mpFamiliesWrong : ChangeSpec := { name := "mpFamilies", fn := fun _ => fun
  | [d1, d2, d3] => { results := [.lit (.bool false)], args := [d1, d2, d3] }
  | _ => none }
def MpFamiliesWrongFalsely : Prop := mpFamiliesRow.holds Tryd.pinned (OpenSpec.ofChange mpFamiliesWrong)

/-- 'peeragelaw19.RefreshForms': WHATEVER THE INPUT: true; the input reads as it did. -/
def refreshFormsSpec : ChangeSpec := { name := "refreshForms", fn := fun _ => fun
  | [d] => { results := [.lit (.bool true)], args := [d] }
  | _ => none }
def refreshFormsRow : OpenClaim := { program := "ytiehbmhekncbhaadoor", sum := "128e0b659fbee5adbe8c0a4052417d2af2f66be67064a44880578f7b963deac9", func := "peerage/peeragelaw19.RefreshForms", spec := "refreshForms", named := ["internal/strconv.uint64pow10", "math/bits.deBruijn32tab", "math/bits.deBruijn64tab", "peerage/mp.families"], apart := false, laid := [("math/bits.deBruijn32tab", laid_math_bits_deBruijn32tab), ("math/bits.deBruijn64tab", laid_math_bits_deBruijn64tab), ("internal/strconv.uint64pow10", laid_internal_strconv_uint64pow10), ("peerage/mp.families", laid_peerage_mp_families)] }
def RefreshFormsSaid : Prop := refreshFormsRow.holds Tryd.pinned (OpenSpec.ofChange refreshFormsSpec)

/-- ITS FALSE NEIGHBOUR: 'it returns false'. Refute it at one input. -/
def refreshFormsWrong : ChangeSpec := { name := "refreshForms", fn := fun _ => fun
  | [d] => { results := [.lit (.bool false)], args := [d] }
  | _ => none }
def RefreshFormsWrongFalsely : Prop := refreshFormsRow.holds Tryd.pinned (OpenSpec.ofChange refreshFormsWrong)

/-- 'peeragelaw19.RefreshApart': WHATEVER THE INPUT: true; the input reads as it did. -/
def refreshApartSpec : ChangeSpec := { name := "refreshApart", fn := fun _ => fun
  | [d1, d2] => { results := [.lit (.bool true)], args := [d1, d2] }
  | _ => none }
def refreshApartRow : OpenClaim := { program := "ytiehbmhekncbhaadoor", sum := "128e0b659fbee5adbe8c0a4052417d2af2f66be67064a44880578f7b963deac9", func := "peerage/peeragelaw19.RefreshApart", spec := "refreshApart", named := ["peerage/mp.families", "internal/strconv.uint64pow10", "math/bits.deBruijn32tab", "math/bits.deBruijn64tab"], apart := false, laid := [("math/bits.deBruijn32tab", laid_math_bits_deBruijn32tab), ("math/bits.deBruijn64tab", laid_math_bits_deBruijn64tab), ("internal/strconv.uint64pow10", laid_internal_strconv_uint64pow10), ("peerage/mp.families", laid_peerage_mp_families)] }
def RefreshApartSaid : Prop := refreshApartRow.holds Tryd.pinned (OpenSpec.ofChange refreshApartSpec)

/-- ITS FALSE NEIGHBOUR: 'it returns false'. Refute it at one input. -/
def refreshApartWrong : ChangeSpec := { name := "refreshApart", fn := fun _ => fun
  | [d1, d2] => { results := [.lit (.bool false)], args := [d1, d2] }
  | _ => none }
def RefreshApartWrongFalsely : Prop := refreshApartRow.holds Tryd.pinned (OpenSpec.ofChange refreshApartWrong)

/- THE SECOND FORM. 'bulk': how many values and letters a reading holds, each counted each time it is reached (what is shared counts as often as it is met; a slice's spare places count too). A statement '..UptoSaid' is the law's where the arguments, and the package variables that the reading takes, are together of bulk at most 1048576: NARROWER than '..Said'. Prove '..Said' where nothing that the law and all that it calls make is longer than what came in: it says more and counts as full. Else prove '..UptoSaid'. A law counts once. -/
mutual
def uptoBulk {H : Type} : DataW H → Nat
  | .lit (.string bytes) => bytes.length + 1
  | .lit _ => 1
  | .nil => 1
  | .ptr d => uptoBulk d + 1
  | .slice elems spare => uptoBulkAll elems + uptoBulkAll spare + 1
  | .agg parts => uptoBulkAll parts + 1
  | .iface _ d => uptoBulk d + 1
  | .map entries => uptoBulkEntries entries + 1
  | .held _ => 1
def uptoBulkAll {H : Type} : List (DataW H) → Nat
  | [] => 0
  | d :: r => uptoBulk d + uptoBulkAll r
def uptoBulkEntries {H : Type} : List (Lit × DataW H) → Nat
  | [] => 0
  | x :: r => uptoBulkEntry x + uptoBulkEntries r
def uptoBulkEntry {H : Type} : Lit × DataW H → Nat
  | (.string bytes, d) => bytes.length + uptoBulk d + 1
  | (_, d) => uptoBulk d + 1
 end
def uptoSmall : (H : Type) → List (DataW H) → Bool := fun _ ds => decide (uptoBulkAll ds ≤ 1048576)
def OpenSpec.upto (s : _root_.Go.ChangeSpec) : _root_.Go.OpenSpec := { _root_.Go.OpenSpec.ofChange s with cond := some uptoSmall }

/-- 'peeragelaw02.PrefixReads', WHERE WHAT IT READS IS OF BULK AT MOST 1048576: true; the input reads as it did. -/
def prefixReadsUptoRow : OpenClaim := { program := "ytiehbmhekncbhaadoor", sum := "128e0b659fbee5adbe8c0a4052417d2af2f66be67064a44880578f7b963deac9", func := "peerage/peeragelaw02.PrefixReads", spec := "prefixReads", inPlace := ["internal/abi.NoEscape", "internal/bytealg.MakeNoZero"], named := ["internal/strconv.uint64pow10", "math/bits.deBruijn32tab", "math/bits.deBruijn64tab"], apart := false, laid := [("math/bits.deBruijn32tab", laid_math_bits_deBruijn32tab), ("math/bits.deBruijn64tab", laid_math_bits_deBruijn64tab), ("internal/strconv.uint64pow10", laid_internal_strconv_uint64pow10)], narrowed := true }
def PrefixReadsUptoSaid : Prop := prefixReadsUptoRow.holds Tryd.pinned (OpenSpec.upto prefixReadsSpec)

/-- 'peeragelaw02.PrefixMakes', WHERE WHAT IT READS IS OF BULK AT MOST 1048576: true; the input reads as it did. -/
def prefixMakesUptoRow : OpenClaim := { program := "ytiehbmhekncbhaadoor", sum := "128e0b659fbee5adbe8c0a4052417d2af2f66be67064a44880578f7b963deac9", func := "peerage/peeragelaw02.PrefixMakes", spec := "prefixMakes", inPlace := ["internal/abi.NoEscape", "internal/bytealg.MakeNoZero"], named := ["internal/strconv.uint64pow10", "math/bits.deBruijn32tab", "math/bits.deBruijn64tab"], apart := false, laid := [("math/bits.deBruijn32tab", laid_math_bits_deBruijn32tab), ("math/bits.deBruijn64tab", laid_math_bits_deBruijn64tab), ("internal/strconv.uint64pow10", laid_internal_strconv_uint64pow10)], narrowed := true }
def PrefixMakesUptoSaid : Prop := prefixMakesUptoRow.holds Tryd.pinned (OpenSpec.upto prefixMakesSpec)

/-- 'peeragelaw02.PrefixCovers', WHERE WHAT IT READS IS OF BULK AT MOST 1048576: true; the input reads as it did. -/
def prefixCoversUptoRow : OpenClaim := { program := "ytiehbmhekncbhaadoor", sum := "128e0b659fbee5adbe8c0a4052417d2af2f66be67064a44880578f7b963deac9", func := "peerage/peeragelaw02.PrefixCovers", spec := "prefixCovers", inPlace := ["internal/abi.NoEscape", "internal/bytealg.MakeNoZero"], named := ["internal/strconv.uint64pow10", "math/bits.deBruijn32tab", "math/bits.deBruijn64tab"], apart := false, laid := [("math/bits.deBruijn32tab", laid_math_bits_deBruijn32tab), ("math/bits.deBruijn64tab", laid_math_bits_deBruijn64tab), ("internal/strconv.uint64pow10", laid_internal_strconv_uint64pow10)], narrowed := true }
def PrefixCoversUptoSaid : Prop := prefixCoversUptoRow.holds Tryd.pinned (OpenSpec.upto prefixCoversSpec)

/-- 'peeragelaw02.PrefixOrders', WHERE WHAT IT READS IS OF BULK AT MOST 1048576: true; the input reads as it did. -/
def prefixOrdersUptoRow : OpenClaim := { program := "ytiehbmhekncbhaadoor", sum := "128e0b659fbee5adbe8c0a4052417d2af2f66be67064a44880578f7b963deac9", func := "peerage/peeragelaw02.PrefixOrders", spec := "prefixOrders", inPlace := ["internal/bytealg.Compare", "internal/abi.NoEscape", "internal/bytealg.MakeNoZero"], named := ["internal/strconv.uint64pow10", "math/bits.deBruijn32tab", "math/bits.deBruijn64tab"], apart := false, laid := [("math/bits.deBruijn32tab", laid_math_bits_deBruijn32tab), ("math/bits.deBruijn64tab", laid_math_bits_deBruijn64tab), ("internal/strconv.uint64pow10", laid_internal_strconv_uint64pow10)], narrowed := true }
def PrefixOrdersUptoSaid : Prop := prefixOrdersUptoRow.holds Tryd.pinned (OpenSpec.upto prefixOrdersSpec)

/-- 'peeragelaw02.PrefixForms', WHERE WHAT IT READS IS OF BULK AT MOST 1048576: true; the input reads as it did. -/
def prefixFormsUptoRow : OpenClaim := { program := "ytiehbmhekncbhaadoor", sum := "128e0b659fbee5adbe8c0a4052417d2af2f66be67064a44880578f7b963deac9", func := "peerage/peeragelaw02.PrefixForms", spec := "prefixForms", inPlace := ["internal/abi.NoEscape", "internal/bytealg.MakeNoZero", "internal/bytealg.IndexByteString", "internal/bytealg.IndexString", "internal/bytealg.CountString"], named := ["internal/strconv.uint64pow10", "math/bits.deBruijn32tab", "math/bits.deBruijn64tab", "internal/bytealg.MaxLen", "strconv.ErrSyntax", "strconv.ErrRange", "unicode/utf8.first", "unicode/utf8.acceptRanges"], apart := false, laid := [("math/bits.deBruijn32tab", laid_math_bits_deBruijn32tab), ("math/bits.deBruijn64tab", laid_math_bits_deBruijn64tab), ("internal/strconv.uint64pow10", laid_internal_strconv_uint64pow10), ("unicode/utf8.acceptRanges", laid_unicode_utf8_acceptRanges), ("strconv.ErrRange", laid_strconv_ErrRange), ("strconv.ErrSyntax", laid_strconv_ErrSyntax), ("unicode/utf8.first", laid_unicode_utf8_first)], narrowed := true }
def PrefixFormsUptoSaid : Prop := prefixFormsUptoRow.holds Tryd.pinned (OpenSpec.upto prefixFormsSpec)

/-- 'peeragelaw02.PrefixParses', WHERE WHAT IT READS IS OF BULK AT MOST 1048576: true; the input reads as it did. -/
def prefixParsesUptoRow : OpenClaim := { program := "ytiehbmhekncbhaadoor", sum := "128e0b659fbee5adbe8c0a4052417d2af2f66be67064a44880578f7b963deac9", func := "peerage/peeragelaw02.PrefixParses", spec := "prefixParses", inPlace := ["internal/abi.NoEscape", "internal/bytealg.MakeNoZero", "internal/bytealg.IndexByteString", "internal/bytealg.IndexString", "internal/bytealg.CountString"], named := ["internal/strconv.uint64pow10", "math/bits.deBruijn32tab", "math/bits.deBruijn64tab", "internal/bytealg.MaxLen", "strconv.ErrSyntax", "strconv.ErrRange", "unicode/utf8.first", "unicode/utf8.acceptRanges"], apart := false, laid := [("math/bits.deBruijn32tab", laid_math_bits_deBruijn32tab), ("math/bits.deBruijn64tab", laid_math_bits_deBruijn64tab), ("internal/strconv.uint64pow10", laid_internal_strconv_uint64pow10), ("unicode/utf8.acceptRanges", laid_unicode_utf8_acceptRanges), ("strconv.ErrRange", laid_strconv_ErrRange), ("strconv.ErrSyntax", laid_strconv_ErrSyntax), ("unicode/utf8.first", laid_unicode_utf8_first)], narrowed := true }
def PrefixParsesUptoSaid : Prop := prefixParsesUptoRow.holds Tryd.pinned (OpenSpec.upto prefixParsesSpec)

/-- 'peeragelaw11.FindingOrders', WHERE WHAT IT READS IS OF BULK AT MOST 1048576: true; the input reads as it did. -/
def findingOrdersUptoRow : OpenClaim := { program := "ytiehbmhekncbhaadoor", sum := "128e0b659fbee5adbe8c0a4052417d2af2f66be67064a44880578f7b963deac9", func := "peerage/peeragelaw11.FindingOrders", spec := "findingOrders", named := ["internal/strconv.uint64pow10", "math/bits.deBruijn32tab", "math/bits.deBruijn64tab"], apart := false, laid := [("math/bits.deBruijn32tab", laid_math_bits_deBruijn32tab), ("math/bits.deBruijn64tab", laid_math_bits_deBruijn64tab), ("internal/strconv.uint64pow10", laid_internal_strconv_uint64pow10)], narrowed := true }
def FindingOrdersUptoSaid : Prop := findingOrdersUptoRow.holds Tryd.pinned (OpenSpec.upto findingOrdersSpec)

/-- 'peeragelaw11.FindingTexts', WHERE WHAT IT READS IS OF BULK AT MOST 1048576: true; the input reads as it did. -/
def findingTextsUptoRow : OpenClaim := { program := "ytiehbmhekncbhaadoor", sum := "128e0b659fbee5adbe8c0a4052417d2af2f66be67064a44880578f7b963deac9", func := "peerage/peeragelaw11.FindingTexts", spec := "findingTexts", named := ["internal/strconv.uint64pow10", "math/bits.deBruijn32tab", "math/bits.deBruijn64tab"], apart := false, laid := [("math/bits.deBruijn32tab", laid_math_bits_deBruijn32tab), ("math/bits.deBruijn64tab", laid_math_bits_deBruijn64tab), ("internal/strconv.uint64pow10", laid_internal_strconv_uint64pow10)], narrowed := true }
def FindingTextsUptoSaid : Prop := findingTextsUptoRow.holds Tryd.pinned (OpenSpec.upto findingTextsSpec)

/-- 'peeragelaw11.FindingFolds', WHERE WHAT IT READS IS OF BULK AT MOST 1048576: true; the input reads as it did. -/
def findingFoldsUptoRow : OpenClaim := { program := "ytiehbmhekncbhaadoor", sum := "128e0b659fbee5adbe8c0a4052417d2af2f66be67064a44880578f7b963deac9", func := "peerage/peeragelaw11.FindingFolds", spec := "findingFolds", unfollowed := true, recurses := true, named := ["internal/strconv.uint64pow10", "math/bits.deBruijn32tab", "math/bits.deBruijn64tab"], apart := false, laid := [("math/bits.deBruijn32tab", laid_math_bits_deBruijn32tab), ("math/bits.deBruijn64tab", laid_math_bits_deBruijn64tab), ("internal/strconv.uint64pow10", laid_internal_strconv_uint64pow10)], narrowed := true }
def FindingFoldsUptoSaid : Prop := findingFoldsUptoRow.holds Tryd.pinned (OpenSpec.upto findingFoldsSpec)

/-- 'peeragelaw12.MpFamilies', WHERE WHAT IT READS IS OF BULK AT MOST 1048576: true; the input reads as it did. -/
def mpFamiliesUptoRow : OpenClaim := { program := "ytiehbmhekncbhaadoor", sum := "128e0b659fbee5adbe8c0a4052417d2af2f66be67064a44880578f7b963deac9", func := "peerage/peeragelaw12.MpFamilies", spec := "mpFamilies", named := ["peerage/mp.families"], apart := false, laid := [("peerage/mp.families", laid_peerage_mp_families)], narrowed := true }
def MpFamiliesUptoSaid : Prop := mpFamiliesUptoRow.holds Tryd.pinned (OpenSpec.upto mpFamiliesSpec)

/-- 'peeragelaw19.RefreshForms', WHERE WHAT IT READS IS OF BULK AT MOST 1048576: true; the input reads as it did. -/
def refreshFormsUptoRow : OpenClaim := { program := "ytiehbmhekncbhaadoor", sum := "128e0b659fbee5adbe8c0a4052417d2af2f66be67064a44880578f7b963deac9", func := "peerage/peeragelaw19.RefreshForms", spec := "refreshForms", named := ["internal/strconv.uint64pow10", "math/bits.deBruijn32tab", "math/bits.deBruijn64tab", "peerage/mp.families"], apart := false, laid := [("math/bits.deBruijn32tab", laid_math_bits_deBruijn32tab), ("math/bits.deBruijn64tab", laid_math_bits_deBruijn64tab), ("internal/strconv.uint64pow10", laid_internal_strconv_uint64pow10), ("peerage/mp.families", laid_peerage_mp_families)], narrowed := true }
def RefreshFormsUptoSaid : Prop := refreshFormsUptoRow.holds Tryd.pinned (OpenSpec.upto refreshFormsSpec)

/-- 'peeragelaw19.RefreshApart', WHERE WHAT IT READS IS OF BULK AT MOST 1048576: true; the input reads as it did. -/
def refreshApartUptoRow : OpenClaim := { program := "ytiehbmhekncbhaadoor", sum := "128e0b659fbee5adbe8c0a4052417d2af2f66be67064a44880578f7b963deac9", func := "peerage/peeragelaw19.RefreshApart", spec := "refreshApart", named := ["peerage/mp.families", "internal/strconv.uint64pow10", "math/bits.deBruijn32tab", "math/bits.deBruijn64tab"], apart := false, laid := [("math/bits.deBruijn32tab", laid_math_bits_deBruijn32tab), ("math/bits.deBruijn64tab", laid_math_bits_deBruijn64tab), ("internal/strconv.uint64pow10", laid_internal_strconv_uint64pow10), ("peerage/mp.families", laid_peerage_mp_families)], narrowed := true }
def RefreshApartUptoSaid : Prop := refreshApartUptoRow.holds Tryd.pinned (OpenSpec.upto refreshApartSpec)

end Rows
end Go.Proofs.YtiehbmhekncbhaaDoor
