/-
  NARROWER THAN 'FOR EVERY INPUT', by the rows' own cells (each row's printed sentence says how): SegmentSame: laid · SegmentReads: laid · SegmentLengths: laid · CommunityReads: laid · CommunityKinds: laid · CommunityForms: laid · CommunityHas: laid · CommunityUnique: laid.
  DERIVED. THE GIVEN ROWS OF THIS SEAT. 8 by the template 'for every input the law returns true; each argument reads behind the call as it read before'; 0 by the template 'total and deterministic' (their statements: YtmcmhljonkijjabDoorTotals.lean).
  GIVEN WITH THE SEED: the statements are not yours to turn. If you find one false, say at which input.
  Laid BY PROGRAM, IN A SANDBOX (cutbox-rows.mjs): the forced cells as the released guide's own fill.sh prints them over the translation a1ff854233eebaa0… (all of the seat's roots in one cut). By AI agents, Wed Nov 11 2026. No macro, syntax, notation, axiom, sorry.
-/
import Derived.Test.YtmcmhljonkijjabDoorChecked
import GoSem.Claim
import GoSem.ClaimJoined
import GoSem.ClaimMapViews
import Derived.JoinedTies
import Derived.KernelRfl
namespace Go.Proofs.YtmcmhljonkijjabDoor
/- THE CELL 'sum', in the pinned program and in every row, IS THE sha256 OF THE DUMP (.gsa) THAT YtmcmhljonkijjabDoorProg.lean LOADS. Nothing in Lean hashes anything: it is a label: what it is worth is what the hold of that sum in a sandbox is worth. -/
noncomputable def Tryd.pinned : Pinned := { name := "ytmcmhljonkijjabdoor", sum := "a1ff854233eebaa06955cfe0bd6a3dd8d57f4f7e517629e7ba87d63f15b4cbda", checked := Tryd.checked }
namespace Rows
def none {H : Type} : Left H := { results := [], args := [] }

/- WHAT THE LISTED PACKAGE-LEVEL VARIABLES READ AS WHEN THE CALL BEGINS. Each datum BY PROGRAM (the guide's laid-datum.mjs) off the statement by which the dump's own 'gosem.cut.vars' lays the variable. In a bare row this is a premise. The card (YtmcmhljonkijjabDoorCards.lean) ties it to the program's text. -/
def laid_math_bits_deBruijn32tab {H : Type} : DataW H := .agg [.lit (.int .u8 0), .lit (.int .u8 1), .lit (.int .u8 28), .lit (.int .u8 2), .lit (.int .u8 29), .lit (.int .u8 14), .lit (.int .u8 24), .lit (.int .u8 3), .lit (.int .u8 30), .lit (.int .u8 22), .lit (.int .u8 20), .lit (.int .u8 15), .lit (.int .u8 25), .lit (.int .u8 17), .lit (.int .u8 4), .lit (.int .u8 8), .lit (.int .u8 31), .lit (.int .u8 27), .lit (.int .u8 13), .lit (.int .u8 23), .lit (.int .u8 21), .lit (.int .u8 19), .lit (.int .u8 16), .lit (.int .u8 7), .lit (.int .u8 26), .lit (.int .u8 12), .lit (.int .u8 18), .lit (.int .u8 6), .lit (.int .u8 11), .lit (.int .u8 5), .lit (.int .u8 10), .lit (.int .u8 9)]
def laid_math_bits_deBruijn64tab {H : Type} : DataW H := .agg [.lit (.int .u8 0), .lit (.int .u8 1), .lit (.int .u8 56), .lit (.int .u8 2), .lit (.int .u8 57), .lit (.int .u8 49), .lit (.int .u8 28), .lit (.int .u8 3), .lit (.int .u8 61), .lit (.int .u8 58), .lit (.int .u8 42), .lit (.int .u8 50), .lit (.int .u8 38), .lit (.int .u8 29), .lit (.int .u8 17), .lit (.int .u8 4), .lit (.int .u8 62), .lit (.int .u8 47), .lit (.int .u8 59), .lit (.int .u8 36), .lit (.int .u8 45), .lit (.int .u8 43), .lit (.int .u8 51), .lit (.int .u8 22), .lit (.int .u8 53), .lit (.int .u8 39), .lit (.int .u8 33), .lit (.int .u8 30), .lit (.int .u8 24), .lit (.int .u8 18), .lit (.int .u8 12), .lit (.int .u8 5), .lit (.int .u8 63), .lit (.int .u8 55), .lit (.int .u8 48), .lit (.int .u8 27), .lit (.int .u8 60), .lit (.int .u8 41), .lit (.int .u8 37), .lit (.int .u8 16), .lit (.int .u8 46), .lit (.int .u8 35), .lit (.int .u8 44), .lit (.int .u8 21), .lit (.int .u8 52), .lit (.int .u8 32), .lit (.int .u8 23), .lit (.int .u8 11), .lit (.int .u8 54), .lit (.int .u8 26), .lit (.int .u8 40), .lit (.int .u8 15), .lit (.int .u8 34), .lit (.int .u8 20), .lit (.int .u8 31), .lit (.int .u8 10), .lit (.int .u8 25), .lit (.int .u8 14), .lit (.int .u8 19), .lit (.int .u8 9), .lit (.int .u8 13), .lit (.int .u8 8), .lit (.int .u8 7), .lit (.int .u8 6)]
def laid_internal_strconv_uint64pow10 {H : Type} : DataW H := .agg [.lit (.int .u64 1), .lit (.int .u64 10), .lit (.int .u64 100), .lit (.int .u64 1000), .lit (.int .u64 10000), .lit (.int .u64 100000), .lit (.int .u64 1000000), .lit (.int .u64 10000000), .lit (.int .u64 100000000), .lit (.int .u64 1000000000), .lit (.int .u64 10000000000), .lit (.int .u64 100000000000), .lit (.int .u64 1000000000000), .lit (.int .u64 10000000000000), .lit (.int .u64 100000000000000), .lit (.int .u64 1000000000000000), .lit (.int .u64 10000000000000000), .lit (.int .u64 100000000000000000), .lit (.int .u64 1000000000000000000), .lit (.int .u64 10000000000000000000)]
def laid_peerage_segment_brackets {H : Type} : DataW H := .agg [.lit (.string []), .lit (.string [123, 125]), .lit (.string [91, 93])]

/-- 'peeragelaw06.SegmentSame': WHATEVER THE INPUT: true; the input reads as it did. -/
def segmentSameSpec : ChangeSpec := { name := "segmentSame", fn := fun _ => fun
  | [d1, d2] => { results := [.lit (.bool true)], args := [d1, d2] }
  | _ => none }
def segmentSameRow : OpenClaim := { program := "ytmcmhljonkijjabdoor", sum := "a1ff854233eebaa06955cfe0bd6a3dd8d57f4f7e517629e7ba87d63f15b4cbda", func := "peerage/peeragelaw06.SegmentSame", spec := "segmentSame", inPlace := ["internal/abi.NoEscape", "internal/bytealg.MakeNoZero"], unfollowed := true, recurses := true, named := ["peerage/segment.brackets", "internal/strconv.uint64pow10", "math/bits.deBruijn32tab", "math/bits.deBruijn64tab"], plainKeys := false, apart := false, laid := [("math/bits.deBruijn32tab", laid_math_bits_deBruijn32tab), ("math/bits.deBruijn64tab", laid_math_bits_deBruijn64tab), ("internal/strconv.uint64pow10", laid_internal_strconv_uint64pow10), ("peerage/segment.brackets", laid_peerage_segment_brackets)] }
def SegmentSameSaid : Prop := segmentSameRow.holds Tryd.pinned (OpenSpec.ofChange segmentSameSpec)

/-- ITS FALSE NEIGHBOUR: 'it returns false'. Refute it at one input. -/
def segmentSameWrong : ChangeSpec := { name := "segmentSame", fn := fun _ => fun
  | [d1, d2] => { results := [.lit (.bool false)], args := [d1, d2] }
  | _ => none }
def SegmentSameWrongFalsely : Prop := segmentSameRow.holds Tryd.pinned (OpenSpec.ofChange segmentSameWrong)

/-- 'peeragelaw06.SegmentReads': WHATEVER THE INPUT: true; the input reads as it did. -/
def segmentReadsSpec : ChangeSpec := { name := "segmentReads", fn := fun _ => fun
  | [d1, d2] => { results := [.lit (.bool true)], args := [d1, d2] }
  | _ => none }
def segmentReadsRow : OpenClaim := { program := "ytmcmhljonkijjabdoor", sum := "a1ff854233eebaa06955cfe0bd6a3dd8d57f4f7e517629e7ba87d63f15b4cbda", func := "peerage/peeragelaw06.SegmentReads", spec := "segmentReads", inPlace := ["internal/abi.NoEscape", "internal/bytealg.MakeNoZero"], unfollowed := true, recurses := true, named := ["peerage/segment.brackets", "internal/strconv.uint64pow10", "math/bits.deBruijn32tab", "math/bits.deBruijn64tab"], plainKeys := false, apart := false, laid := [("math/bits.deBruijn32tab", laid_math_bits_deBruijn32tab), ("math/bits.deBruijn64tab", laid_math_bits_deBruijn64tab), ("internal/strconv.uint64pow10", laid_internal_strconv_uint64pow10), ("peerage/segment.brackets", laid_peerage_segment_brackets)] }
def SegmentReadsSaid : Prop := segmentReadsRow.holds Tryd.pinned (OpenSpec.ofChange segmentReadsSpec)

/-- ITS FALSE NEIGHBOUR: 'it returns false'. Refute it at one input. -/
def segmentReadsWrong : ChangeSpec := { name := "segmentReads", fn := fun _ => fun
  | [d1, d2] => { results := [.lit (.bool false)], args := [d1, d2] }
  | _ => none }
def SegmentReadsWrongFalsely : Prop := segmentReadsRow.holds Tryd.pinned (OpenSpec.ofChange segmentReadsWrong)

/-- 'peeragelaw06.SegmentLengths': WHATEVER THE INPUT: true; the input reads as it did. -/
def segmentLengthsSpec : ChangeSpec := { name := "segmentLengths", fn := fun _ => fun
  | [d] => { results := [.lit (.bool true)], args := [d] }
  | _ => none }
def segmentLengthsRow : OpenClaim := { program := "ytmcmhljonkijjabdoor", sum := "a1ff854233eebaa06955cfe0bd6a3dd8d57f4f7e517629e7ba87d63f15b4cbda", func := "peerage/peeragelaw06.SegmentLengths", spec := "segmentLengths", inPlace := ["internal/abi.NoEscape", "internal/bytealg.MakeNoZero"], unfollowed := true, recurses := true, named := ["peerage/segment.brackets", "internal/strconv.uint64pow10", "math/bits.deBruijn32tab", "math/bits.deBruijn64tab"], plainKeys := false, apart := false, laid := [("math/bits.deBruijn32tab", laid_math_bits_deBruijn32tab), ("math/bits.deBruijn64tab", laid_math_bits_deBruijn64tab), ("internal/strconv.uint64pow10", laid_internal_strconv_uint64pow10), ("peerage/segment.brackets", laid_peerage_segment_brackets)] }
def SegmentLengthsSaid : Prop := segmentLengthsRow.holds Tryd.pinned (OpenSpec.ofChange segmentLengthsSpec)

/-- ITS FALSE NEIGHBOUR: 'it returns false'. Refute it at one input. -/
def segmentLengthsWrong : ChangeSpec := { name := "segmentLengths", fn := fun _ => fun
  | [d] => { results := [.lit (.bool false)], args := [d] }
  | _ => none }
def SegmentLengthsWrongFalsely : Prop := segmentLengthsRow.holds Tryd.pinned (OpenSpec.ofChange segmentLengthsWrong)

/-- 'peeragelaw09.CommunityReads': WHATEVER THE INPUT: true; the input reads as it did. -/
def communityReadsSpec : ChangeSpec := { name := "communityReads", fn := fun _ => fun
  | [d1, d2] => { results := [.lit (.bool true)], args := [d1, d2] }
  | _ => none }
def communityReadsRow : OpenClaim := { program := "ytmcmhljonkijjabdoor", sum := "a1ff854233eebaa06955cfe0bd6a3dd8d57f4f7e517629e7ba87d63f15b4cbda", func := "peerage/peeragelaw09.CommunityReads", spec := "communityReads", inPlace := ["internal/abi.NoEscape", "internal/bytealg.MakeNoZero"], unfollowed := true, recurses := true, named := ["internal/strconv.uint64pow10", "math/bits.deBruijn32tab", "math/bits.deBruijn64tab"], plainKeys := false, apart := false, laid := [("math/bits.deBruijn32tab", laid_math_bits_deBruijn32tab), ("math/bits.deBruijn64tab", laid_math_bits_deBruijn64tab), ("internal/strconv.uint64pow10", laid_internal_strconv_uint64pow10)] }
def CommunityReadsSaid : Prop := communityReadsRow.holds Tryd.pinned (OpenSpec.ofChange communityReadsSpec)

/-- ITS FALSE NEIGHBOUR: 'it returns false'. Refute it at one input. -/
def communityReadsWrong : ChangeSpec := { name := "communityReads", fn := fun _ => fun
  | [d1, d2] => { results := [.lit (.bool false)], args := [d1, d2] }
  | _ => none }
def CommunityReadsWrongFalsely : Prop := communityReadsRow.holds Tryd.pinned (OpenSpec.ofChange communityReadsWrong)

/-- 'peeragelaw09.CommunityKinds': WHATEVER THE INPUT: true; the input reads as it did. -/
def communityKindsSpec : ChangeSpec := { name := "communityKinds", fn := fun _ => fun
  | [d1, d2] => { results := [.lit (.bool true)], args := [d1, d2] }
  | _ => none }
def communityKindsRow : OpenClaim := { program := "ytmcmhljonkijjabdoor", sum := "a1ff854233eebaa06955cfe0bd6a3dd8d57f4f7e517629e7ba87d63f15b4cbda", func := "peerage/peeragelaw09.CommunityKinds", spec := "communityKinds", inPlace := ["internal/abi.NoEscape", "internal/bytealg.MakeNoZero"], unfollowed := true, recurses := true, named := ["internal/strconv.uint64pow10", "math/bits.deBruijn32tab", "math/bits.deBruijn64tab"], plainKeys := false, apart := false, laid := [("math/bits.deBruijn32tab", laid_math_bits_deBruijn32tab), ("math/bits.deBruijn64tab", laid_math_bits_deBruijn64tab), ("internal/strconv.uint64pow10", laid_internal_strconv_uint64pow10)] }
def CommunityKindsSaid : Prop := communityKindsRow.holds Tryd.pinned (OpenSpec.ofChange communityKindsSpec)

/-- ITS FALSE NEIGHBOUR: 'it returns false'. Refute it at one input. -/
def communityKindsWrong : ChangeSpec := { name := "communityKinds", fn := fun _ => fun
  | [d1, d2] => { results := [.lit (.bool false)], args := [d1, d2] }
  | _ => none }
def CommunityKindsWrongFalsely : Prop := communityKindsRow.holds Tryd.pinned (OpenSpec.ofChange communityKindsWrong)

/-- 'peeragelaw09.CommunityForms': WHATEVER THE INPUT: true; the input reads as it did. -/
def communityFormsSpec : ChangeSpec := { name := "communityForms", fn := fun _ => fun
  | [d] => { results := [.lit (.bool true)], args := [d] }
  | _ => none }
def communityFormsRow : OpenClaim := { program := "ytmcmhljonkijjabdoor", sum := "a1ff854233eebaa06955cfe0bd6a3dd8d57f4f7e517629e7ba87d63f15b4cbda", func := "peerage/peeragelaw09.CommunityForms", spec := "communityForms", inPlace := ["internal/abi.NoEscape", "internal/bytealg.MakeNoZero"], unfollowed := true, recurses := true, named := ["internal/strconv.uint64pow10", "math/bits.deBruijn32tab", "math/bits.deBruijn64tab"], plainKeys := false, apart := false, laid := [("math/bits.deBruijn32tab", laid_math_bits_deBruijn32tab), ("math/bits.deBruijn64tab", laid_math_bits_deBruijn64tab), ("internal/strconv.uint64pow10", laid_internal_strconv_uint64pow10)] }
def CommunityFormsSaid : Prop := communityFormsRow.holds Tryd.pinned (OpenSpec.ofChange communityFormsSpec)

/-- ITS FALSE NEIGHBOUR: 'it returns false'. Refute it at one input. -/
def communityFormsWrong : ChangeSpec := { name := "communityForms", fn := fun _ => fun
  | [d] => { results := [.lit (.bool false)], args := [d] }
  | _ => none }
def CommunityFormsWrongFalsely : Prop := communityFormsRow.holds Tryd.pinned (OpenSpec.ofChange communityFormsWrong)

/-- 'peeragelaw09.CommunityHas': WHATEVER THE INPUT: true; the input reads as it did. -/
def communityHasSpec : ChangeSpec := { name := "communityHas", fn := fun _ => fun
  | [d1, d2] => { results := [.lit (.bool true)], args := [d1, d2] }
  | _ => none }
def communityHasRow : OpenClaim := { program := "ytmcmhljonkijjabdoor", sum := "a1ff854233eebaa06955cfe0bd6a3dd8d57f4f7e517629e7ba87d63f15b4cbda", func := "peerage/peeragelaw09.CommunityHas", spec := "communityHas", inPlace := ["internal/abi.NoEscape", "internal/bytealg.MakeNoZero"], unfollowed := true, recurses := true, named := ["internal/strconv.uint64pow10", "math/bits.deBruijn32tab", "math/bits.deBruijn64tab"], plainKeys := false, apart := false, laid := [("math/bits.deBruijn32tab", laid_math_bits_deBruijn32tab), ("math/bits.deBruijn64tab", laid_math_bits_deBruijn64tab), ("internal/strconv.uint64pow10", laid_internal_strconv_uint64pow10)] }
def CommunityHasSaid : Prop := communityHasRow.holds Tryd.pinned (OpenSpec.ofChange communityHasSpec)

/-- ITS FALSE NEIGHBOUR: 'it returns false'. Refute it at one input. -/
def communityHasWrong : ChangeSpec := { name := "communityHas", fn := fun _ => fun
  | [d1, d2] => { results := [.lit (.bool false)], args := [d1, d2] }
  | _ => none }
def CommunityHasWrongFalsely : Prop := communityHasRow.holds Tryd.pinned (OpenSpec.ofChange communityHasWrong)

/-- 'peeragelaw09.CommunityUnique': WHATEVER THE INPUT: true; the input reads as it did. -/
def communityUniqueSpec : ChangeSpec := { name := "communityUnique", fn := fun _ => fun
  | [d] => { results := [.lit (.bool true)], args := [d] }
  | _ => none }
def communityUniqueRow : OpenClaim := { program := "ytmcmhljonkijjabdoor", sum := "a1ff854233eebaa06955cfe0bd6a3dd8d57f4f7e517629e7ba87d63f15b4cbda", func := "peerage/peeragelaw09.CommunityUnique", spec := "communityUnique", inPlace := ["internal/abi.NoEscape", "internal/bytealg.MakeNoZero"], unfollowed := true, recurses := true, named := ["internal/strconv.uint64pow10", "math/bits.deBruijn32tab", "math/bits.deBruijn64tab"], plainKeys := false, apart := false, laid := [("math/bits.deBruijn32tab", laid_math_bits_deBruijn32tab), ("math/bits.deBruijn64tab", laid_math_bits_deBruijn64tab), ("internal/strconv.uint64pow10", laid_internal_strconv_uint64pow10)] }
def CommunityUniqueSaid : Prop := communityUniqueRow.holds Tryd.pinned (OpenSpec.ofChange communityUniqueSpec)

/-- ITS FALSE NEIGHBOUR: 'it returns false'. Refute it at one input. -/
def communityUniqueWrong : ChangeSpec := { name := "communityUnique", fn := fun _ => fun
  | [d] => { results := [.lit (.bool false)], args := [d] }
  | _ => none }
def CommunityUniqueWrongFalsely : Prop := communityUniqueRow.holds Tryd.pinned (OpenSpec.ofChange communityUniqueWrong)

/- THE SECOND FORM. 'bulk': how many values and letters a reading holds, each counted each time it is reached (what is shared counts as often as it is met; a slice's spare places count too). A statement '..UptoSaid' is the law's where the arguments, and the package variables that the reading takes, are together of bulk at most 1048576: NARROWER than '..Said'. Prove '..Said' where nothing that the law and all that it calls make is longer than what came in: it says more and counts as full. Else prove '..UptoSaid'. A law counts once. -/
mutual
def uptoBulk {H : Type} : DataW H → Nat
  | .lit (.string bytes) => bytes.length + 1
  | .lit _ => 1
  | .nil => 1
  | .ptr d => uptoBulk d + 1
  | .slice elems spare => uptoBulkAll elems + uptoBulkAll spare + 1
  | .agg parts => uptoBulkAll parts + 1
  | .iface _ d => uptoBulk d + 1
  | .map entries => uptoBulkEntries entries + 1
  | .held _ => 1
def uptoBulkAll {H : Type} : List (DataW H) → Nat
  | [] => 0
  | d :: r => uptoBulk d + uptoBulkAll r
def uptoBulkEntries {H : Type} : List (Lit × DataW H) → Nat
  | [] => 0
  | x :: r => uptoBulkEntry x + uptoBulkEntries r
def uptoBulkEntry {H : Type} : Lit × DataW H → Nat
  | (.string bytes, d) => bytes.length + uptoBulk d + 1
  | (_, d) => uptoBulk d + 1
 end
def uptoSmall : (H : Type) → List (DataW H) → Bool := fun _ ds => decide (uptoBulkAll ds ≤ 1048576)
def OpenSpec.upto (s : _root_.Go.ChangeSpec) : _root_.Go.OpenSpec := { _root_.Go.OpenSpec.ofChange s with cond := some uptoSmall }

/-- 'peeragelaw06.SegmentSame', WHERE WHAT IT READS IS OF BULK AT MOST 1048576: true; the input reads as it did. -/
def segmentSameUptoRow : OpenClaim := { program := "ytmcmhljonkijjabdoor", sum := "a1ff854233eebaa06955cfe0bd6a3dd8d57f4f7e517629e7ba87d63f15b4cbda", func := "peerage/peeragelaw06.SegmentSame", spec := "segmentSame", inPlace := ["internal/abi.NoEscape", "internal/bytealg.MakeNoZero"], unfollowed := true, recurses := true, named := ["peerage/segment.brackets", "internal/strconv.uint64pow10", "math/bits.deBruijn32tab", "math/bits.deBruijn64tab"], plainKeys := false, apart := false, laid := [("math/bits.deBruijn32tab", laid_math_bits_deBruijn32tab), ("math/bits.deBruijn64tab", laid_math_bits_deBruijn64tab), ("internal/strconv.uint64pow10", laid_internal_strconv_uint64pow10), ("peerage/segment.brackets", laid_peerage_segment_brackets)], narrowed := true }
def SegmentSameUptoSaid : Prop := segmentSameUptoRow.holds Tryd.pinned (OpenSpec.upto segmentSameSpec)

/-- 'peeragelaw06.SegmentReads', WHERE WHAT IT READS IS OF BULK AT MOST 1048576: true; the input reads as it did. -/
def segmentReadsUptoRow : OpenClaim := { program := "ytmcmhljonkijjabdoor", sum := "a1ff854233eebaa06955cfe0bd6a3dd8d57f4f7e517629e7ba87d63f15b4cbda", func := "peerage/peeragelaw06.SegmentReads", spec := "segmentReads", inPlace := ["internal/abi.NoEscape", "internal/bytealg.MakeNoZero"], unfollowed := true, recurses := true, named := ["peerage/segment.brackets", "internal/strconv.uint64pow10", "math/bits.deBruijn32tab", "math/bits.deBruijn64tab"], plainKeys := false, apart := false, laid := [("math/bits.deBruijn32tab", laid_math_bits_deBruijn32tab), ("math/bits.deBruijn64tab", laid_math_bits_deBruijn64tab), ("internal/strconv.uint64pow10", laid_internal_strconv_uint64pow10), ("peerage/segment.brackets", laid_peerage_segment_brackets)], narrowed := true }
def SegmentReadsUptoSaid : Prop := segmentReadsUptoRow.holds Tryd.pinned (OpenSpec.upto segmentReadsSpec)

/-- 'peeragelaw06.SegmentLengths', WHERE WHAT IT READS IS OF BULK AT MOST 1048576: true; the input reads as it did. -/
def segmentLengthsUptoRow : OpenClaim := { program := "ytmcmhljonkijjabdoor", sum := "a1ff854233eebaa06955cfe0bd6a3dd8d57f4f7e517629e7ba87d63f15b4cbda", func := "peerage/peeragelaw06.SegmentLengths", spec := "segmentLengths", inPlace := ["internal/abi.NoEscape", "internal/bytealg.MakeNoZero"], unfollowed := true, recurses := true, named := ["peerage/segment.brackets", "internal/strconv.uint64pow10", "math/bits.deBruijn32tab", "math/bits.deBruijn64tab"], plainKeys := false, apart := false, laid := [("math/bits.deBruijn32tab", laid_math_bits_deBruijn32tab), ("math/bits.deBruijn64tab", laid_math_bits_deBruijn64tab), ("internal/strconv.uint64pow10", laid_internal_strconv_uint64pow10), ("peerage/segment.brackets", laid_peerage_segment_brackets)], narrowed := true }
def SegmentLengthsUptoSaid : Prop := segmentLengthsUptoRow.holds Tryd.pinned (OpenSpec.upto segmentLengthsSpec)

/-- 'peeragelaw09.CommunityReads', WHERE WHAT IT READS IS OF BULK AT MOST 1048576: true; the input reads as it did. -/
def communityReadsUptoRow : OpenClaim := { program := "ytmcmhljonkijjabdoor", sum := "a1ff854233eebaa06955cfe0bd6a3dd8d57f4f7e517629e7ba87d63f15b4cbda", func := "peerage/peeragelaw09.CommunityReads", spec := "communityReads", inPlace := ["internal/abi.NoEscape", "internal/bytealg.MakeNoZero"], unfollowed := true, recurses := true, named := ["internal/strconv.uint64pow10", "math/bits.deBruijn32tab", "math/bits.deBruijn64tab"], plainKeys := false, apart := false, laid := [("math/bits.deBruijn32tab", laid_math_bits_deBruijn32tab), ("math/bits.deBruijn64tab", laid_math_bits_deBruijn64tab), ("internal/strconv.uint64pow10", laid_internal_strconv_uint64pow10)], narrowed := true }
def CommunityReadsUptoSaid : Prop := communityReadsUptoRow.holds Tryd.pinned (OpenSpec.upto communityReadsSpec)

/-- 'peeragelaw09.CommunityKinds', WHERE WHAT IT READS IS OF BULK AT MOST 1048576: true; the input reads as it did. -/
def communityKindsUptoRow : OpenClaim := { program := "ytmcmhljonkijjabdoor", sum := "a1ff854233eebaa06955cfe0bd6a3dd8d57f4f7e517629e7ba87d63f15b4cbda", func := "peerage/peeragelaw09.CommunityKinds", spec := "communityKinds", inPlace := ["internal/abi.NoEscape", "internal/bytealg.MakeNoZero"], unfollowed := true, recurses := true, named := ["internal/strconv.uint64pow10", "math/bits.deBruijn32tab", "math/bits.deBruijn64tab"], plainKeys := false, apart := false, laid := [("math/bits.deBruijn32tab", laid_math_bits_deBruijn32tab), ("math/bits.deBruijn64tab", laid_math_bits_deBruijn64tab), ("internal/strconv.uint64pow10", laid_internal_strconv_uint64pow10)], narrowed := true }
def CommunityKindsUptoSaid : Prop := communityKindsUptoRow.holds Tryd.pinned (OpenSpec.upto communityKindsSpec)

/-- 'peeragelaw09.CommunityForms', WHERE WHAT IT READS IS OF BULK AT MOST 1048576: true; the input reads as it did. -/
def communityFormsUptoRow : OpenClaim := { program := "ytmcmhljonkijjabdoor", sum := "a1ff854233eebaa06955cfe0bd6a3dd8d57f4f7e517629e7ba87d63f15b4cbda", func := "peerage/peeragelaw09.CommunityForms", spec := "communityForms", inPlace := ["internal/abi.NoEscape", "internal/bytealg.MakeNoZero"], unfollowed := true, recurses := true, named := ["internal/strconv.uint64pow10", "math/bits.deBruijn32tab", "math/bits.deBruijn64tab"], plainKeys := false, apart := false, laid := [("math/bits.deBruijn32tab", laid_math_bits_deBruijn32tab), ("math/bits.deBruijn64tab", laid_math_bits_deBruijn64tab), ("internal/strconv.uint64pow10", laid_internal_strconv_uint64pow10)], narrowed := true }
def CommunityFormsUptoSaid : Prop := communityFormsUptoRow.holds Tryd.pinned (OpenSpec.upto communityFormsSpec)

/-- 'peeragelaw09.CommunityHas', WHERE WHAT IT READS IS OF BULK AT MOST 1048576: true; the input reads as it did. -/
def communityHasUptoRow : OpenClaim := { program := "ytmcmhljonkijjabdoor", sum := "a1ff854233eebaa06955cfe0bd6a3dd8d57f4f7e517629e7ba87d63f15b4cbda", func := "peerage/peeragelaw09.CommunityHas", spec := "communityHas", inPlace := ["internal/abi.NoEscape", "internal/bytealg.MakeNoZero"], unfollowed := true, recurses := true, named := ["internal/strconv.uint64pow10", "math/bits.deBruijn32tab", "math/bits.deBruijn64tab"], plainKeys := false, apart := false, laid := [("math/bits.deBruijn32tab", laid_math_bits_deBruijn32tab), ("math/bits.deBruijn64tab", laid_math_bits_deBruijn64tab), ("internal/strconv.uint64pow10", laid_internal_strconv_uint64pow10)], narrowed := true }
def CommunityHasUptoSaid : Prop := communityHasUptoRow.holds Tryd.pinned (OpenSpec.upto communityHasSpec)

/-- 'peeragelaw09.CommunityUnique', WHERE WHAT IT READS IS OF BULK AT MOST 1048576: true; the input reads as it did. -/
def communityUniqueUptoRow : OpenClaim := { program := "ytmcmhljonkijjabdoor", sum := "a1ff854233eebaa06955cfe0bd6a3dd8d57f4f7e517629e7ba87d63f15b4cbda", func := "peerage/peeragelaw09.CommunityUnique", spec := "communityUnique", inPlace := ["internal/abi.NoEscape", "internal/bytealg.MakeNoZero"], unfollowed := true, recurses := true, named := ["internal/strconv.uint64pow10", "math/bits.deBruijn32tab", "math/bits.deBruijn64tab"], plainKeys := false, apart := false, laid := [("math/bits.deBruijn32tab", laid_math_bits_deBruijn32tab), ("math/bits.deBruijn64tab", laid_math_bits_deBruijn64tab), ("internal/strconv.uint64pow10", laid_internal_strconv_uint64pow10)], narrowed := true }
def CommunityUniqueUptoSaid : Prop := communityUniqueUptoRow.holds Tryd.pinned (OpenSpec.upto communityUniqueSpec)

end Rows
end Go.Proofs.YtmcmhljonkijjabDoor
