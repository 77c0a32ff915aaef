/-
  NARROWER THAN 'FOR EVERY INPUT', by the rows' own cells (each row's printed sentence says how): CommunityReads: laid · CommunityKinds: laid · CommunityForms: laid · CommunityHas: laid · CommunityUnique: laid · FlagNames: laid.
  DERIVED. THE GIVEN ROWS OF THIS SEAT. 6 by the template 'for every input the law returns true; each argument reads behind the call as it read before'; 0 by the template 'total and deterministic' (their statements: YtngeldgohijheaaDoorTotals.lean).
  GIVEN WITH THE SEED: the statements are not yours to turn. If you find one false, say at which input.
  Laid BY PROGRAM, IN A SANDBOX (cutbox-rows.mjs): the forced cells as the released guide's own fill.sh prints them over the translation 614d1d4f5c0afb40… (all of the seat's roots in one cut). By AI agents, Wed Nov 11 2026. No macro, syntax, notation, axiom, sorry.
-/
import Derived.Test.YtngeldgohijheaaDoorChecked
import GoSem.Claim
import GoSem.ClaimJoined
import GoSem.ClaimMapViews
import Derived.JoinedTies
import Derived.KernelRfl
namespace Go.Proofs.YtngeldgohijheaaDoor
/- THE CELL 'sum', in the pinned program and in every row, IS THE sha256 OF THE DUMP (.gsa) THAT YtngeldgohijheaaDoorProg.lean LOADS. Nothing in Lean hashes anything: it is a label: what it is worth is what the hold of that sum in a sandbox is worth. -/
noncomputable def Tryd.pinned : Pinned := { name := "ytngeldgohijheaadoor", sum := "614d1d4f5c0afb40790eb416092f1aa966ce2b14fcfdf9d4cde903bf4e4df517", checked := Tryd.checked }
namespace Rows
def none {H : Type} : Left H := { results := [], args := [] }

/- WHAT THE LISTED PACKAGE-LEVEL VARIABLES READ AS WHEN THE CALL BEGINS. Each datum BY PROGRAM (the guide's laid-datum.mjs) off the statement by which the dump's own 'gosem.cut.vars' lays the variable. In a bare row this is a premise. The card (YtngeldgohijheaaDoorCards.lean) ties it to the program's text. -/
def laid_math_bits_deBruijn32tab {H : Type} : DataW H := .agg [.lit (.int .u8 0), .lit (.int .u8 1), .lit (.int .u8 28), .lit (.int .u8 2), .lit (.int .u8 29), .lit (.int .u8 14), .lit (.int .u8 24), .lit (.int .u8 3), .lit (.int .u8 30), .lit (.int .u8 22), .lit (.int .u8 20), .lit (.int .u8 15), .lit (.int .u8 25), .lit (.int .u8 17), .lit (.int .u8 4), .lit (.int .u8 8), .lit (.int .u8 31), .lit (.int .u8 27), .lit (.int .u8 13), .lit (.int .u8 23), .lit (.int .u8 21), .lit (.int .u8 19), .lit (.int .u8 16), .lit (.int .u8 7), .lit (.int .u8 26), .lit (.int .u8 12), .lit (.int .u8 18), .lit (.int .u8 6), .lit (.int .u8 11), .lit (.int .u8 5), .lit (.int .u8 10), .lit (.int .u8 9)]
def laid_math_bits_deBruijn64tab {H : Type} : DataW H := .agg [.lit (.int .u8 0), .lit (.int .u8 1), .lit (.int .u8 56), .lit (.int .u8 2), .lit (.int .u8 57), .lit (.int .u8 49), .lit (.int .u8 28), .lit (.int .u8 3), .lit (.int .u8 61), .lit (.int .u8 58), .lit (.int .u8 42), .lit (.int .u8 50), .lit (.int .u8 38), .lit (.int .u8 29), .lit (.int .u8 17), .lit (.int .u8 4), .lit (.int .u8 62), .lit (.int .u8 47), .lit (.int .u8 59), .lit (.int .u8 36), .lit (.int .u8 45), .lit (.int .u8 43), .lit (.int .u8 51), .lit (.int .u8 22), .lit (.int .u8 53), .lit (.int .u8 39), .lit (.int .u8 33), .lit (.int .u8 30), .lit (.int .u8 24), .lit (.int .u8 18), .lit (.int .u8 12), .lit (.int .u8 5), .lit (.int .u8 63), .lit (.int .u8 55), .lit (.int .u8 48), .lit (.int .u8 27), .lit (.int .u8 60), .lit (.int .u8 41), .lit (.int .u8 37), .lit (.int .u8 16), .lit (.int .u8 46), .lit (.int .u8 35), .lit (.int .u8 44), .lit (.int .u8 21), .lit (.int .u8 52), .lit (.int .u8 32), .lit (.int .u8 23), .lit (.int .u8 11), .lit (.int .u8 54), .lit (.int .u8 26), .lit (.int .u8 40), .lit (.int .u8 15), .lit (.int .u8 34), .lit (.int .u8 20), .lit (.int .u8 31), .lit (.int .u8 10), .lit (.int .u8 25), .lit (.int .u8 14), .lit (.int .u8 19), .lit (.int .u8 9), .lit (.int .u8 13), .lit (.int .u8 8), .lit (.int .u8 7), .lit (.int .u8 6)]
def laid_internal_strconv_uint64pow10 {H : Type} : DataW H := .agg [.lit (.int .u64 1), .lit (.int .u64 10), .lit (.int .u64 100), .lit (.int .u64 1000), .lit (.int .u64 10000), .lit (.int .u64 100000), .lit (.int .u64 1000000), .lit (.int .u64 10000000), .lit (.int .u64 100000000), .lit (.int .u64 1000000000), .lit (.int .u64 10000000000), .lit (.int .u64 100000000000), .lit (.int .u64 1000000000000), .lit (.int .u64 10000000000000), .lit (.int .u64 100000000000000), .lit (.int .u64 1000000000000000), .lit (.int .u64 10000000000000000), .lit (.int .u64 100000000000000000), .lit (.int .u64 1000000000000000000), .lit (.int .u64 10000000000000000000)]
def laid_peerage_flag_names {H : Type} : DataW H := .agg [.lit (.string []), .lit (.string [79, 82, 73, 71, 73, 78]), .lit (.string [65, 83, 95, 80, 65, 84, 72]), .lit (.string [78, 69, 88, 84, 95, 72, 79, 80]), .lit (.string [77, 85, 76, 84, 73, 95, 69, 88, 73, 84, 95, 68, 73, 83, 67]), .lit (.string [76, 79, 67, 65, 76, 95, 80, 82, 69, 70]), .lit (.string [65, 84, 79, 77, 73, 67, 95, 65, 71, 71, 82, 69, 71, 65, 84, 69]), .lit (.string [65, 71, 71, 82, 69, 71, 65, 84, 79, 82]), .lit (.string [67, 79, 77, 77, 85, 78, 73, 84, 73, 69, 83]), .lit (.string [79, 82, 73, 71, 73, 78, 65, 84, 79, 82, 95, 73, 68]), .lit (.string [67, 76, 85, 83, 84, 69, 82, 95, 76, 73, 83, 84]), .lit (.string []), .lit (.string []), .lit (.string []), .lit (.string [77, 80, 95, 82, 69, 65, 67, 72, 95, 78, 76, 82, 73]), .lit (.string [77, 80, 95, 85, 78, 82, 69, 65, 67, 72, 95, 78, 76, 82, 73]), .lit (.string [69, 88, 84, 69, 78, 68, 69, 68, 95, 67, 79, 77, 77, 85, 78, 73, 84, 73, 69, 83]), .lit (.string [65, 83, 52, 95, 80, 65, 84, 72]), .lit (.string [65, 83, 52, 95, 65, 71, 71, 82, 69, 71, 65, 84, 79, 82]), .lit (.string []), .lit (.string []), .lit (.string []), .lit (.string []), .lit (.string []), .lit (.string []), .lit (.string []), .lit (.string []), .lit (.string []), .lit (.string []), .lit (.string []), .lit (.string []), .lit (.string []), .lit (.string [76, 65, 82, 71, 69, 95, 67, 79, 77, 77, 85, 78, 73, 84, 89])]

/-- 'peeragelaw09.CommunityReads': WHATEVER THE INPUT: true; the input reads as it did. -/
def communityReadsSpec : ChangeSpec := { name := "communityReads", fn := fun _ => fun
  | [d1, d2] => { results := [.lit (.bool true)], args := [d1, d2] }
  | _ => none }
def communityReadsRow : OpenClaim := { program := "ytngeldgohijheaadoor", sum := "614d1d4f5c0afb40790eb416092f1aa966ce2b14fcfdf9d4cde903bf4e4df517", func := "peerage/peeragelaw09.CommunityReads", spec := "communityReads", inPlace := ["internal/abi.NoEscape", "internal/bytealg.MakeNoZero"], unfollowed := true, recurses := true, named := ["internal/strconv.uint64pow10", "math/bits.deBruijn32tab", "math/bits.deBruijn64tab"], plainKeys := false, apart := false, laid := [("math/bits.deBruijn32tab", laid_math_bits_deBruijn32tab), ("math/bits.deBruijn64tab", laid_math_bits_deBruijn64tab), ("internal/strconv.uint64pow10", laid_internal_strconv_uint64pow10)] }
def CommunityReadsSaid : Prop := communityReadsRow.holds Tryd.pinned (OpenSpec.ofChange communityReadsSpec)

/-- ITS FALSE NEIGHBOUR: 'it returns false'. Refute it at one input. -/
def communityReadsWrong : ChangeSpec := { name := "communityReads", fn := fun _ => fun
  | [d1, d2] => { results := [.lit (.bool false)], args := [d1, d2] }
  | _ => none }
def CommunityReadsWrongFalsely : Prop := communityReadsRow.holds Tryd.pinned (OpenSpec.ofChange communityReadsWrong)

/-- 'peeragelaw09.CommunityKinds': WHATEVER THE INPUT: true; the input reads as it did. -/
def communityKindsSpec : ChangeSpec := { name := "communityKinds", fn := fun _ => fun
  | [d1, d2] => { results := [.lit (.bool true)], args := [d1, d2] }
  | _ => none }
def communityKindsRow : OpenClaim := { program := "ytngeldgohijheaadoor", sum := "614d1d4f5c0afb40790eb416092f1aa966ce2b14fcfdf9d4cde903bf4e4df517", func := "peerage/peeragelaw09.CommunityKinds", spec := "communityKinds", inPlace := ["internal/abi.NoEscape", "internal/bytealg.MakeNoZero"], unfollowed := true, recurses := true, named := ["internal/strconv.uint64pow10", "math/bits.deBruijn32tab", "math/bits.deBruijn64tab"], plainKeys := false, apart := false, laid := [("math/bits.deBruijn32tab", laid_math_bits_deBruijn32tab), ("math/bits.deBruijn64tab", laid_math_bits_deBruijn64tab), ("internal/strconv.uint64pow10", laid_internal_strconv_uint64pow10)] }
def CommunityKindsSaid : Prop := communityKindsRow.holds Tryd.pinned (OpenSpec.ofChange communityKindsSpec)

/-- ITS FALSE NEIGHBOUR: 'it returns false'. Refute it at one input. -/
def communityKindsWrong : ChangeSpec := { name := "communityKinds", fn := fun _ => fun
  | [d1, d2] => { results := [.lit (.bool false)], args := [d1, d2] }
  | _ => none }
def CommunityKindsWrongFalsely : Prop := communityKindsRow.holds Tryd.pinned (OpenSpec.ofChange communityKindsWrong)

/-- 'peeragelaw09.CommunityForms': WHATEVER THE INPUT: true; the input reads as it did. -/
def communityFormsSpec : ChangeSpec := { name := "communityForms", fn := fun _ => fun
  | [d] => { results := [.lit (.bool true)], args := [d] }
  | _ => none }
def communityFormsRow : OpenClaim := { program := "ytngeldgohijheaadoor", sum := "614d1d4f5c0afb40790eb416092f1aa966ce2b14fcfdf9d4cde903bf4e4df517", func := "peerage/peeragelaw09.CommunityForms", spec := "communityForms", inPlace := ["internal/abi.NoEscape", "internal/bytealg.MakeNoZero"], unfollowed := true, recurses := true, named := ["internal/strconv.uint64pow10", "math/bits.deBruijn32tab", "math/bits.deBruijn64tab"], plainKeys := false, apart := false, laid := [("math/bits.deBruijn32tab", laid_math_bits_deBruijn32tab), ("math/bits.deBruijn64tab", laid_math_bits_deBruijn64tab), ("internal/strconv.uint64pow10", laid_internal_strconv_uint64pow10)] }
def CommunityFormsSaid : Prop := communityFormsRow.holds Tryd.pinned (OpenSpec.ofChange communityFormsSpec)

/-- ITS FALSE NEIGHBOUR: 'it returns false'. Refute it at one input. -/
def communityFormsWrong : ChangeSpec := { name := "communityForms", fn := fun _ => fun
  | [d] => { results := [.lit (.bool false)], args := [d] }
  | _ => none }
def CommunityFormsWrongFalsely : Prop := communityFormsRow.holds Tryd.pinned (OpenSpec.ofChange communityFormsWrong)

/-- 'peeragelaw09.CommunityHas': WHATEVER THE INPUT: true; the input reads as it did. -/
def communityHasSpec : ChangeSpec := { name := "communityHas", fn := fun _ => fun
  | [d1, d2] => { results := [.lit (.bool true)], args := [d1, d2] }
  | _ => none }
def communityHasRow : OpenClaim := { program := "ytngeldgohijheaadoor", sum := "614d1d4f5c0afb40790eb416092f1aa966ce2b14fcfdf9d4cde903bf4e4df517", func := "peerage/peeragelaw09.CommunityHas", spec := "communityHas", inPlace := ["internal/abi.NoEscape", "internal/bytealg.MakeNoZero"], unfollowed := true, recurses := true, named := ["internal/strconv.uint64pow10", "math/bits.deBruijn32tab", "math/bits.deBruijn64tab"], plainKeys := false, apart := false, laid := [("math/bits.deBruijn32tab", laid_math_bits_deBruijn32tab), ("math/bits.deBruijn64tab", laid_math_bits_deBruijn64tab), ("internal/strconv.uint64pow10", laid_internal_strconv_uint64pow10)] }
def CommunityHasSaid : Prop := communityHasRow.holds Tryd.pinned (OpenSpec.ofChange communityHasSpec)

/-- ITS FALSE NEIGHBOUR: 'it returns false'. Refute it at one input. -/
def communityHasWrong : ChangeSpec := { name := "communityHas", fn := fun _ => fun
  | [d1, d2] => { results := [.lit (.bool false)], args := [d1, d2] }
  | _ => none }
def CommunityHasWrongFalsely : Prop := communityHasRow.holds Tryd.pinned (OpenSpec.ofChange communityHasWrong)

/-- 'peeragelaw09.CommunityUnique': WHATEVER THE INPUT: true; the input reads as it did. -/
def communityUniqueSpec : ChangeSpec := { name := "communityUnique", fn := fun _ => fun
  | [d] => { results := [.lit (.bool true)], args := [d] }
  | _ => none }
def communityUniqueRow : OpenClaim := { program := "ytngeldgohijheaadoor", sum := "614d1d4f5c0afb40790eb416092f1aa966ce2b14fcfdf9d4cde903bf4e4df517", func := "peerage/peeragelaw09.CommunityUnique", spec := "communityUnique", inPlace := ["internal/abi.NoEscape", "internal/bytealg.MakeNoZero"], unfollowed := true, recurses := true, named := ["internal/strconv.uint64pow10", "math/bits.deBruijn32tab", "math/bits.deBruijn64tab"], plainKeys := false, apart := false, laid := [("math/bits.deBruijn32tab", laid_math_bits_deBruijn32tab), ("math/bits.deBruijn64tab", laid_math_bits_deBruijn64tab), ("internal/strconv.uint64pow10", laid_internal_strconv_uint64pow10)] }
def CommunityUniqueSaid : Prop := communityUniqueRow.holds Tryd.pinned (OpenSpec.ofChange communityUniqueSpec)

/-- ITS FALSE NEIGHBOUR: 'it returns false'. Refute it at one input. -/
def communityUniqueWrong : ChangeSpec := { name := "communityUnique", fn := fun _ => fun
  | [d] => { results := [.lit (.bool false)], args := [d] }
  | _ => none }
def CommunityUniqueWrongFalsely : Prop := communityUniqueRow.holds Tryd.pinned (OpenSpec.ofChange communityUniqueWrong)

/-- 'peeragelaw10.FlagNames': WHATEVER THE INPUT: true; the input reads as it did. -/
def flagNamesSpec : ChangeSpec := { name := "flagNames", fn := fun _ => fun
  | [d1, d2] => { results := [.lit (.bool true)], args := [d1, d2] }
  | _ => none }
def flagNamesRow : OpenClaim := { program := "ytngeldgohijheaadoor", sum := "614d1d4f5c0afb40790eb416092f1aa966ce2b14fcfdf9d4cde903bf4e4df517", func := "peerage/peeragelaw10.FlagNames", spec := "flagNames", unfollowed := true, recurses := true, named := ["peerage/flag.names", "internal/strconv.uint64pow10", "math/bits.deBruijn32tab", "math/bits.deBruijn64tab"], plainKeys := false, apart := false, laid := [("math/bits.deBruijn32tab", laid_math_bits_deBruijn32tab), ("math/bits.deBruijn64tab", laid_math_bits_deBruijn64tab), ("internal/strconv.uint64pow10", laid_internal_strconv_uint64pow10), ("peerage/flag.names", laid_peerage_flag_names)] }
def FlagNamesSaid : Prop := flagNamesRow.holds Tryd.pinned (OpenSpec.ofChange flagNamesSpec)

/-- ITS FALSE NEIGHBOUR: 'it returns false'. Refute it at one input. -/
def flagNamesWrong : ChangeSpec := { name := "flagNames", fn := fun _ => fun
  | [d1, d2] => { results := [.lit (.bool false)], args := [d1, d2] }
  | _ => none }
def FlagNamesWrongFalsely : Prop := flagNamesRow.holds Tryd.pinned (OpenSpec.ofChange flagNamesWrong)

/- THE SECOND FORM. 'bulk': how many values and letters a reading holds, each counted each time it is reached (what is shared counts as often as it is met; a slice's spare places count too). A statement '..UptoSaid' is the law's where the arguments, and the package variables that the reading takes, are together of bulk at most 1048576: NARROWER than '..Said'. Prove '..Said' where nothing that the law and all that it calls make is longer than what came in: it says more and counts as full. Else prove '..UptoSaid'. A law counts once. -/
mutual
def uptoBulk {H : Type} : DataW H → Nat
  | .lit (.string bytes) => bytes.length + 1
  | .lit _ => 1
  | .nil => 1
  | .ptr d => uptoBulk d + 1
  | .slice elems spare => uptoBulkAll elems + uptoBulkAll spare + 1
  | .agg parts => uptoBulkAll parts + 1
  | .iface _ d => uptoBulk d + 1
  | .map entries => uptoBulkEntries entries + 1
  | .held _ => 1
def uptoBulkAll {H : Type} : List (DataW H) → Nat
  | [] => 0
  | d :: r => uptoBulk d + uptoBulkAll r
def uptoBulkEntries {H : Type} : List (Lit × DataW H) → Nat
  | [] => 0
  | x :: r => uptoBulkEntry x + uptoBulkEntries r
def uptoBulkEntry {H : Type} : Lit × DataW H → Nat
  | (.string bytes, d) => bytes.length + uptoBulk d + 1
  | (_, d) => uptoBulk d + 1
 end
def uptoSmall : (H : Type) → List (DataW H) → Bool := fun _ ds => decide (uptoBulkAll ds ≤ 1048576)
def OpenSpec.upto (s : _root_.Go.ChangeSpec) : _root_.Go.OpenSpec := { _root_.Go.OpenSpec.ofChange s with cond := some uptoSmall }

/-- 'peeragelaw09.CommunityReads', WHERE WHAT IT READS IS OF BULK AT MOST 1048576: true; the input reads as it did. -/
def communityReadsUptoRow : OpenClaim := { program := "ytngeldgohijheaadoor", sum := "614d1d4f5c0afb40790eb416092f1aa966ce2b14fcfdf9d4cde903bf4e4df517", func := "peerage/peeragelaw09.CommunityReads", spec := "communityReads", inPlace := ["internal/abi.NoEscape", "internal/bytealg.MakeNoZero"], unfollowed := true, recurses := true, named := ["internal/strconv.uint64pow10", "math/bits.deBruijn32tab", "math/bits.deBruijn64tab"], plainKeys := false, apart := false, laid := [("math/bits.deBruijn32tab", laid_math_bits_deBruijn32tab), ("math/bits.deBruijn64tab", laid_math_bits_deBruijn64tab), ("internal/strconv.uint64pow10", laid_internal_strconv_uint64pow10)], narrowed := true }
def CommunityReadsUptoSaid : Prop := communityReadsUptoRow.holds Tryd.pinned (OpenSpec.upto communityReadsSpec)

/-- 'peeragelaw09.CommunityKinds', WHERE WHAT IT READS IS OF BULK AT MOST 1048576: true; the input reads as it did. -/
def communityKindsUptoRow : OpenClaim := { program := "ytngeldgohijheaadoor", sum := "614d1d4f5c0afb40790eb416092f1aa966ce2b14fcfdf9d4cde903bf4e4df517", func := "peerage/peeragelaw09.CommunityKinds", spec := "communityKinds", inPlace := ["internal/abi.NoEscape", "internal/bytealg.MakeNoZero"], unfollowed := true, recurses := true, named := ["internal/strconv.uint64pow10", "math/bits.deBruijn32tab", "math/bits.deBruijn64tab"], plainKeys := false, apart := false, laid := [("math/bits.deBruijn32tab", laid_math_bits_deBruijn32tab), ("math/bits.deBruijn64tab", laid_math_bits_deBruijn64tab), ("internal/strconv.uint64pow10", laid_internal_strconv_uint64pow10)], narrowed := true }
def CommunityKindsUptoSaid : Prop := communityKindsUptoRow.holds Tryd.pinned (OpenSpec.upto communityKindsSpec)

/-- 'peeragelaw09.CommunityForms', WHERE WHAT IT READS IS OF BULK AT MOST 1048576: true; the input reads as it did. -/
def communityFormsUptoRow : OpenClaim := { program := "ytngeldgohijheaadoor", sum := "614d1d4f5c0afb40790eb416092f1aa966ce2b14fcfdf9d4cde903bf4e4df517", func := "peerage/peeragelaw09.CommunityForms", spec := "communityForms", inPlace := ["internal/abi.NoEscape", "internal/bytealg.MakeNoZero"], unfollowed := true, recurses := true, named := ["internal/strconv.uint64pow10", "math/bits.deBruijn32tab", "math/bits.deBruijn64tab"], plainKeys := false, apart := false, laid := [("math/bits.deBruijn32tab", laid_math_bits_deBruijn32tab), ("math/bits.deBruijn64tab", laid_math_bits_deBruijn64tab), ("internal/strconv.uint64pow10", laid_internal_strconv_uint64pow10)], narrowed := true }
def CommunityFormsUptoSaid : Prop := communityFormsUptoRow.holds Tryd.pinned (OpenSpec.upto communityFormsSpec)

/-- 'peeragelaw09.CommunityHas', WHERE WHAT IT READS IS OF BULK AT MOST 1048576: true; the input reads as it did. -/
def communityHasUptoRow : OpenClaim := { program := "ytngeldgohijheaadoor", sum := "614d1d4f5c0afb40790eb416092f1aa966ce2b14fcfdf9d4cde903bf4e4df517", func := "peerage/peeragelaw09.CommunityHas", spec := "communityHas", inPlace := ["internal/abi.NoEscape", "internal/bytealg.MakeNoZero"], unfollowed := true, recurses := true, named := ["internal/strconv.uint64pow10", "math/bits.deBruijn32tab", "math/bits.deBruijn64tab"], plainKeys := false, apart := false, laid := [("math/bits.deBruijn32tab", laid_math_bits_deBruijn32tab), ("math/bits.deBruijn64tab", laid_math_bits_deBruijn64tab), ("internal/strconv.uint64pow10", laid_internal_strconv_uint64pow10)], narrowed := true }
def CommunityHasUptoSaid : Prop := communityHasUptoRow.holds Tryd.pinned (OpenSpec.upto communityHasSpec)

/-- 'peeragelaw09.CommunityUnique', WHERE WHAT IT READS IS OF BULK AT MOST 1048576: true; the input reads as it did. -/
def communityUniqueUptoRow : OpenClaim := { program := "ytngeldgohijheaadoor", sum := "614d1d4f5c0afb40790eb416092f1aa966ce2b14fcfdf9d4cde903bf4e4df517", func := "peerage/peeragelaw09.CommunityUnique", spec := "communityUnique", inPlace := ["internal/abi.NoEscape", "internal/bytealg.MakeNoZero"], unfollowed := true, recurses := true, named := ["internal/strconv.uint64pow10", "math/bits.deBruijn32tab", "math/bits.deBruijn64tab"], plainKeys := false, apart := false, laid := [("math/bits.deBruijn32tab", laid_math_bits_deBruijn32tab), ("math/bits.deBruijn64tab", laid_math_bits_deBruijn64tab), ("internal/strconv.uint64pow10", laid_internal_strconv_uint64pow10)], narrowed := true }
def CommunityUniqueUptoSaid : Prop := communityUniqueUptoRow.holds Tryd.pinned (OpenSpec.upto communityUniqueSpec)

/-- 'peeragelaw10.FlagNames', WHERE WHAT IT READS IS OF BULK AT MOST 1048576: true; the input reads as it did. -/
def flagNamesUptoRow : OpenClaim := { program := "ytngeldgohijheaadoor", sum := "614d1d4f5c0afb40790eb416092f1aa966ce2b14fcfdf9d4cde903bf4e4df517", func := "peerage/peeragelaw10.FlagNames", spec := "flagNames", unfollowed := true, recurses := true, named := ["peerage/flag.names", "internal/strconv.uint64pow10", "math/bits.deBruijn32tab", "math/bits.deBruijn64tab"], plainKeys := false, apart := false, laid := [("math/bits.deBruijn32tab", laid_math_bits_deBruijn32tab), ("math/bits.deBruijn64tab", laid_math_bits_deBruijn64tab), ("internal/strconv.uint64pow10", laid_internal_strconv_uint64pow10), ("peerage/flag.names", laid_peerage_flag_names)], narrowed := true }
def FlagNamesUptoSaid : Prop := flagNamesUptoRow.holds Tryd.pinned (OpenSpec.upto flagNamesSpec)

end Rows
end Go.Proofs.YtngeldgohijheaaDoor
