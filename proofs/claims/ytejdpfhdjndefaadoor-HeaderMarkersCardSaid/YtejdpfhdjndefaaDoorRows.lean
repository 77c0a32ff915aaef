/-
  NARROWER THAN 'FOR EVERY INPUT', by the rows' own cells (each row's printed sentence says how): HeaderParses: laid · HeaderWraps: laid · HeaderForms: laid · HeaderMarkers: laid · HeaderLengths: laid · RefreshMakes: laid · RefreshUseful: laid · RefreshParses: laid · RefreshForms: laid · RefreshApart: laid.
  DERIVED. THE GIVEN ROWS OF THIS SEAT. 10 by the template 'for every input the law returns true; each argument reads behind the call as it read before'; 0 by the template 'total and deterministic' (their statements: YtejdpfhdjndefaaDoorTotals.lean).
  GIVEN WITH THE SEED: the statements are not yours to turn. If you find one false, say at which input.
  Laid BY PROGRAM, IN A SANDBOX (cutbox-rows.mjs): the forced cells as the released guide's own fill.sh prints them over the translation b02ae60747b2e40a… (all of the seat's roots in one cut). By AI agents, Wed Nov 11 2026. No macro, syntax, notation, axiom, sorry.
-/
import Derived.Test.YtejdpfhdjndefaaDoorChecked
import GoSem.Claim
import GoSem.ClaimJoined
import GoSem.ClaimMapViews
import Derived.JoinedTies
import Derived.KernelRfl
namespace Go.Proofs.YtejdpfhdjndefaaDoor
/- THE CELL 'sum', in the pinned program and in every row, IS THE sha256 OF THE DUMP (.gsa) THAT YtejdpfhdjndefaaDoorProg.lean LOADS. Nothing in Lean hashes anything: it is a label: what it is worth is what the hold of that sum in a sandbox is worth. -/
noncomputable def Tryd.pinned : Pinned := { name := "ytejdpfhdjndefaadoor", sum := "b02ae60747b2e40a70359d1c7813dd8fbbb6e8345a29fa980e1c62c75a03912b", checked := Tryd.checked }
namespace Rows
def none {H : Type} : Left H := { results := [], args := [] }

/- WHAT THE LISTED PACKAGE-LEVEL VARIABLES READ AS WHEN THE CALL BEGINS. Each datum BY PROGRAM (the guide's laid-datum.mjs) off the statement by which the dump's own 'gosem.cut.vars' lays the variable. In a bare row this is a premise. The card (YtejdpfhdjndefaaDoorCards.lean) ties it to the program's text. -/
def laid_peerage_header_rows {H : Type} : DataW H := .agg [.agg [.lit (.string []), .lit (.int .i64 0), .lit (.int .i64 0), .lit (.int .i64 0)], .agg [.lit (.string [79, 80, 69, 78]), .lit (.int .i64 29), .lit (.int .i64 4096), .lit (.int .i64 4096)], .agg [.lit (.string [85, 80, 68, 65, 84, 69]), .lit (.int .i64 23), .lit (.int .i64 4096), .lit (.int .i64 65535)], .agg [.lit (.string [78, 79, 84, 73, 70, 73, 67, 65, 84, 73, 79, 78]), .lit (.int .i64 21), .lit (.int .i64 4096), .lit (.int .i64 65535)], .agg [.lit (.string [75, 69, 69, 80, 65, 76, 73, 86, 69]), .lit (.int .i64 19), .lit (.int .i64 19), .lit (.int .i64 19)], .agg [.lit (.string [82, 79, 85, 84, 69, 45, 82, 69, 70, 82, 69, 83, 72]), .lit (.int .i64 23), .lit (.int .i64 23), .lit (.int .i64 23)]]
def laid_math_bits_deBruijn32tab {H : Type} : DataW H := .agg [.lit (.int .u8 0), .lit (.int .u8 1), .lit (.int .u8 28), .lit (.int .u8 2), .lit (.int .u8 29), .lit (.int .u8 14), .lit (.int .u8 24), .lit (.int .u8 3), .lit (.int .u8 30), .lit (.int .u8 22), .lit (.int .u8 20), .lit (.int .u8 15), .lit (.int .u8 25), .lit (.int .u8 17), .lit (.int .u8 4), .lit (.int .u8 8), .lit (.int .u8 31), .lit (.int .u8 27), .lit (.int .u8 13), .lit (.int .u8 23), .lit (.int .u8 21), .lit (.int .u8 19), .lit (.int .u8 16), .lit (.int .u8 7), .lit (.int .u8 26), .lit (.int .u8 12), .lit (.int .u8 18), .lit (.int .u8 6), .lit (.int .u8 11), .lit (.int .u8 5), .lit (.int .u8 10), .lit (.int .u8 9)]
def laid_math_bits_deBruijn64tab {H : Type} : DataW H := .agg [.lit (.int .u8 0), .lit (.int .u8 1), .lit (.int .u8 56), .lit (.int .u8 2), .lit (.int .u8 57), .lit (.int .u8 49), .lit (.int .u8 28), .lit (.int .u8 3), .lit (.int .u8 61), .lit (.int .u8 58), .lit (.int .u8 42), .lit (.int .u8 50), .lit (.int .u8 38), .lit (.int .u8 29), .lit (.int .u8 17), .lit (.int .u8 4), .lit (.int .u8 62), .lit (.int .u8 47), .lit (.int .u8 59), .lit (.int .u8 36), .lit (.int .u8 45), .lit (.int .u8 43), .lit (.int .u8 51), .lit (.int .u8 22), .lit (.int .u8 53), .lit (.int .u8 39), .lit (.int .u8 33), .lit (.int .u8 30), .lit (.int .u8 24), .lit (.int .u8 18), .lit (.int .u8 12), .lit (.int .u8 5), .lit (.int .u8 63), .lit (.int .u8 55), .lit (.int .u8 48), .lit (.int .u8 27), .lit (.int .u8 60), .lit (.int .u8 41), .lit (.int .u8 37), .lit (.int .u8 16), .lit (.int .u8 46), .lit (.int .u8 35), .lit (.int .u8 44), .lit (.int .u8 21), .lit (.int .u8 52), .lit (.int .u8 32), .lit (.int .u8 23), .lit (.int .u8 11), .lit (.int .u8 54), .lit (.int .u8 26), .lit (.int .u8 40), .lit (.int .u8 15), .lit (.int .u8 34), .lit (.int .u8 20), .lit (.int .u8 31), .lit (.int .u8 10), .lit (.int .u8 25), .lit (.int .u8 14), .lit (.int .u8 19), .lit (.int .u8 9), .lit (.int .u8 13), .lit (.int .u8 8), .lit (.int .u8 7), .lit (.int .u8 6)]
def laid_internal_strconv_uint64pow10 {H : Type} : DataW H := .agg [.lit (.int .u64 1), .lit (.int .u64 10), .lit (.int .u64 100), .lit (.int .u64 1000), .lit (.int .u64 10000), .lit (.int .u64 100000), .lit (.int .u64 1000000), .lit (.int .u64 10000000), .lit (.int .u64 100000000), .lit (.int .u64 1000000000), .lit (.int .u64 10000000000), .lit (.int .u64 100000000000), .lit (.int .u64 1000000000000), .lit (.int .u64 10000000000000), .lit (.int .u64 100000000000000), .lit (.int .u64 1000000000000000), .lit (.int .u64 10000000000000000), .lit (.int .u64 100000000000000000), .lit (.int .u64 1000000000000000000), .lit (.int .u64 10000000000000000000)]
def laid_peerage_mp_families {H : Type} : DataW H := .agg [.agg [.lit (.string []), .lit (.int .u32 0)], .agg [.lit (.string [105, 112, 118, 52]), .lit (.int .u32 1)], .agg [.lit (.string [105, 112, 118, 54]), .lit (.int .u32 2)]]

/-- 'peeragelaw04.HeaderParses': WHATEVER THE INPUT: true; the input reads as it did. -/
def headerParsesSpec : ChangeSpec := { name := "headerParses", fn := fun _ => fun
  | [d1, d2] => { results := [.lit (.bool true)], args := [d1, d2] }
  | _ => none }
def headerParsesRow : OpenClaim := { program := "ytejdpfhdjndefaadoor", sum := "b02ae60747b2e40a70359d1c7813dd8fbbb6e8345a29fa980e1c62c75a03912b", func := "peerage/peeragelaw04.HeaderParses", spec := "headerParses", unfollowed := true, recurses := true, named := ["peerage/header.rows"], apart := false, laid := [("peerage/header.rows", laid_peerage_header_rows)] }
def HeaderParsesSaid : Prop := headerParsesRow.holds Tryd.pinned (OpenSpec.ofChange headerParsesSpec)

/-- ITS FALSE NEIGHBOUR: 'it returns false'. Refute it at one input. -/
def headerParsesWrong : ChangeSpec := { name := "headerParses", fn := fun _ => fun
  | [d1, d2] => { results := [.lit (.bool false)], args := [d1, d2] }
  | _ => none }
def HeaderParsesWrongFalsely : Prop := headerParsesRow.holds Tryd.pinned (OpenSpec.ofChange headerParsesWrong)

/-- 'peeragelaw04.HeaderWraps': WHATEVER THE INPUT: true; the input reads as it did. -/
def headerWrapsSpec : ChangeSpec := { name := "headerWraps", fn := fun _ => fun
  | [d1, d2, d3] => { results := [.lit (.bool true)], args := [d1, d2, d3] }
  | _ => none }
def headerWrapsRow : OpenClaim := { program := "ytejdpfhdjndefaadoor", sum := "b02ae60747b2e40a70359d1c7813dd8fbbb6e8345a29fa980e1c62c75a03912b", func := "peerage/peeragelaw04.HeaderWraps", spec := "headerWraps", unfollowed := true, recurses := true, named := ["peerage/header.rows"], apart := false, laid := [("peerage/header.rows", laid_peerage_header_rows)] }
def HeaderWrapsSaid : Prop := headerWrapsRow.holds Tryd.pinned (OpenSpec.ofChange headerWrapsSpec)

/-- ITS FALSE NEIGHBOUR: 'it returns false'. Refute it at one input. -/
def headerWrapsWrong : ChangeSpec := { name := "headerWraps", fn := fun _ => fun
  | [d1, d2, d3] => { results := [.lit (.bool false)], args := [d1, d2, d3] }
  | _ => none }
def HeaderWrapsWrongFalsely : Prop := headerWrapsRow.holds Tryd.pinned (OpenSpec.ofChange headerWrapsWrong)

/-- 'peeragelaw04.HeaderForms': WHATEVER THE INPUT: true; the input reads as it did. -/
def headerFormsSpec : ChangeSpec := { name := "headerForms", fn := fun _ => fun
  | [d1, d2, d3] => { results := [.lit (.bool true)], args := [d1, d2, d3] }
  | _ => none }
def headerFormsRow : OpenClaim := { program := "ytejdpfhdjndefaadoor", sum := "b02ae60747b2e40a70359d1c7813dd8fbbb6e8345a29fa980e1c62c75a03912b", func := "peerage/peeragelaw04.HeaderForms", spec := "headerForms", named := ["peerage/header.rows"], apart := false, laid := [("peerage/header.rows", laid_peerage_header_rows)] }
def HeaderFormsSaid : Prop := headerFormsRow.holds Tryd.pinned (OpenSpec.ofChange headerFormsSpec)

/-- ITS FALSE NEIGHBOUR: 'it returns false'. Refute it at one input. -/
def headerFormsWrong : ChangeSpec := { name := "headerForms", fn := fun _ => fun
  | [d1, d2, d3] => { results := [.lit (.bool false)], args := [d1, d2, d3] }
  | _ => none }
def HeaderFormsWrongFalsely : Prop := headerFormsRow.holds Tryd.pinned (OpenSpec.ofChange headerFormsWrong)

/-- 'peeragelaw04.HeaderMarkers': WHATEVER THE INPUT: true; the input reads as it did. -/
def headerMarkersSpec : ChangeSpec := { name := "headerMarkers", fn := fun _ => fun
  | [d1, d2, d3] => { results := [.lit (.bool true)], args := [d1, d2, d3] }
  | _ => none }
def headerMarkersRow : OpenClaim := { program := "ytejdpfhdjndefaadoor", sum := "b02ae60747b2e40a70359d1c7813dd8fbbb6e8345a29fa980e1c62c75a03912b", func := "peerage/peeragelaw04.HeaderMarkers", spec := "headerMarkers", unfollowed := true, recurses := true, named := ["peerage/header.rows"], apart := false, laid := [("peerage/header.rows", laid_peerage_header_rows)] }
def HeaderMarkersSaid : Prop := headerMarkersRow.holds Tryd.pinned (OpenSpec.ofChange headerMarkersSpec)

/-- ITS FALSE NEIGHBOUR: 'it returns false'. Refute it at one input. -/
def headerMarkersWrong : ChangeSpec := { name := "headerMarkers", fn := fun _ => fun
  | [d1, d2, d3] => { results := [.lit (.bool false)], args := [d1, d2, d3] }
  | _ => none }
def HeaderMarkersWrongFalsely : Prop := headerMarkersRow.holds Tryd.pinned (OpenSpec.ofChange headerMarkersWrong)

/-- 'peeragelaw04.HeaderLengths': WHATEVER THE INPUT: true; the input reads as it did. -/
def headerLengthsSpec : ChangeSpec := { name := "headerLengths", fn := fun _ => fun
  | [d1, d2] => { results := [.lit (.bool true)], args := [d1, d2] }
  | _ => none }
def headerLengthsRow : OpenClaim := { program := "ytejdpfhdjndefaadoor", sum := "b02ae60747b2e40a70359d1c7813dd8fbbb6e8345a29fa980e1c62c75a03912b", func := "peerage/peeragelaw04.HeaderLengths", spec := "headerLengths", unfollowed := true, recurses := true, named := ["peerage/header.rows"], apart := false, laid := [("peerage/header.rows", laid_peerage_header_rows)] }
def HeaderLengthsSaid : Prop := headerLengthsRow.holds Tryd.pinned (OpenSpec.ofChange headerLengthsSpec)

/-- ITS FALSE NEIGHBOUR: 'it returns false'. Refute it at one input. -/
def headerLengthsWrong : ChangeSpec := { name := "headerLengths", fn := fun _ => fun
  | [d1, d2] => { results := [.lit (.bool false)], args := [d1, d2] }
  | _ => none }
def HeaderLengthsWrongFalsely : Prop := headerLengthsRow.holds Tryd.pinned (OpenSpec.ofChange headerLengthsWrong)

/-- 'peeragelaw19.RefreshMakes': WHATEVER THE INPUT: true; the input reads as it did. -/
def refreshMakesSpec : ChangeSpec := { name := "refreshMakes", fn := fun _ => fun
  | [d1, d2, d3] => { results := [.lit (.bool true)], args := [d1, d2, d3] }
  | _ => none }
def refreshMakesRow : OpenClaim := { program := "ytejdpfhdjndefaadoor", sum := "b02ae60747b2e40a70359d1c7813dd8fbbb6e8345a29fa980e1c62c75a03912b", func := "peerage/peeragelaw19.RefreshMakes", spec := "refreshMakes", named := ["peerage/mp.families", "internal/strconv.uint64pow10", "math/bits.deBruijn32tab", "math/bits.deBruijn64tab"], apart := false, laid := [("math/bits.deBruijn32tab", laid_math_bits_deBruijn32tab), ("math/bits.deBruijn64tab", laid_math_bits_deBruijn64tab), ("internal/strconv.uint64pow10", laid_internal_strconv_uint64pow10), ("peerage/mp.families", laid_peerage_mp_families)] }
def RefreshMakesSaid : Prop := refreshMakesRow.holds Tryd.pinned (OpenSpec.ofChange refreshMakesSpec)

/-- ITS FALSE NEIGHBOUR: 'it returns false'. Refute it at one input. -/
def refreshMakesWrong : ChangeSpec := { name := "refreshMakes", fn := fun _ => fun
  | [d1, d2, d3] => { results := [.lit (.bool false)], args := [d1, d2, d3] }
  | _ => none }
def RefreshMakesWrongFalsely : Prop := refreshMakesRow.holds Tryd.pinned (OpenSpec.ofChange refreshMakesWrong)

/-- 'peeragelaw19.RefreshUseful': WHATEVER THE INPUT: true; the input reads as it did. -/
def refreshUsefulSpec : ChangeSpec := { name := "refreshUseful", fn := fun _ => fun
  | [d1, d2] => { results := [.lit (.bool true)], args := [d1, d2] }
  | _ => none }
def refreshUsefulRow : OpenClaim := { program := "ytejdpfhdjndefaadoor", sum := "b02ae60747b2e40a70359d1c7813dd8fbbb6e8345a29fa980e1c62c75a03912b", func := "peerage/peeragelaw19.RefreshUseful", spec := "refreshUseful", named := ["peerage/mp.families", "internal/strconv.uint64pow10", "math/bits.deBruijn32tab", "math/bits.deBruijn64tab"], apart := false, laid := [("math/bits.deBruijn32tab", laid_math_bits_deBruijn32tab), ("math/bits.deBruijn64tab", laid_math_bits_deBruijn64tab), ("internal/strconv.uint64pow10", laid_internal_strconv_uint64pow10), ("peerage/mp.families", laid_peerage_mp_families)] }
def RefreshUsefulSaid : Prop := refreshUsefulRow.holds Tryd.pinned (OpenSpec.ofChange refreshUsefulSpec)

/-- ITS FALSE NEIGHBOUR: 'it returns false'. Refute it at one input. -/
def refreshUsefulWrong : ChangeSpec := { name := "refreshUseful", fn := fun _ => fun
  | [d1, d2] => { results := [.lit (.bool false)], args := [d1, d2] }
  | _ => none }
def RefreshUsefulWrongFalsely : Prop := refreshUsefulRow.holds Tryd.pinned (OpenSpec.ofChange refreshUsefulWrong)

/-- 'peeragelaw19.RefreshParses': WHATEVER THE INPUT: true; the input reads as it did. -/
def refreshParsesSpec : ChangeSpec := { name := "refreshParses", fn := fun _ => fun
  | [d] => { results := [.lit (.bool true)], args := [d] }
  | _ => none }
def refreshParsesRow : OpenClaim := { program := "ytejdpfhdjndefaadoor", sum := "b02ae60747b2e40a70359d1c7813dd8fbbb6e8345a29fa980e1c62c75a03912b", func := "peerage/peeragelaw19.RefreshParses", spec := "refreshParses", named := ["peerage/mp.families", "internal/strconv.uint64pow10", "math/bits.deBruijn32tab", "math/bits.deBruijn64tab"], apart := false, laid := [("math/bits.deBruijn32tab", laid_math_bits_deBruijn32tab), ("math/bits.deBruijn64tab", laid_math_bits_deBruijn64tab), ("internal/strconv.uint64pow10", laid_internal_strconv_uint64pow10), ("peerage/mp.families", laid_peerage_mp_families)] }
def RefreshParsesSaid : Prop := refreshParsesRow.holds Tryd.pinned (OpenSpec.ofChange refreshParsesSpec)

/-- ITS FALSE NEIGHBOUR: 'it returns false'. Refute it at one input. -/
def refreshParsesWrong : ChangeSpec := { name := "refreshParses", fn := fun _ => fun
  | [d] => { results := [.lit (.bool false)], args := [d] }
  | _ => none }
def RefreshParsesWrongFalsely : Prop := refreshParsesRow.holds Tryd.pinned (OpenSpec.ofChange refreshParsesWrong)

/-- 'peeragelaw19.RefreshForms': WHATEVER THE INPUT: true; the input reads as it did. -/
def refreshFormsSpec : ChangeSpec := { name := "refreshForms", fn := fun _ => fun
  | [d] => { results := [.lit (.bool true)], args := [d] }
  | _ => none }
def refreshFormsRow : OpenClaim := { program := "ytejdpfhdjndefaadoor", sum := "b02ae60747b2e40a70359d1c7813dd8fbbb6e8345a29fa980e1c62c75a03912b", func := "peerage/peeragelaw19.RefreshForms", spec := "refreshForms", named := ["internal/strconv.uint64pow10", "math/bits.deBruijn32tab", "math/bits.deBruijn64tab", "peerage/mp.families"], apart := false, laid := [("math/bits.deBruijn32tab", laid_math_bits_deBruijn32tab), ("math/bits.deBruijn64tab", laid_math_bits_deBruijn64tab), ("internal/strconv.uint64pow10", laid_internal_strconv_uint64pow10), ("peerage/mp.families", laid_peerage_mp_families)] }
def RefreshFormsSaid : Prop := refreshFormsRow.holds Tryd.pinned (OpenSpec.ofChange refreshFormsSpec)

/-- ITS FALSE NEIGHBOUR: 'it returns false'. Refute it at one input. -/
def refreshFormsWrong : ChangeSpec := { name := "refreshForms", fn := fun _ => fun
  | [d] => { results := [.lit (.bool false)], args := [d] }
  | _ => none }
def RefreshFormsWrongFalsely : Prop := refreshFormsRow.holds Tryd.pinned (OpenSpec.ofChange refreshFormsWrong)

/-- 'peeragelaw19.RefreshApart': WHATEVER THE INPUT: true; the input reads as it did. -/
def refreshApartSpec : ChangeSpec := { name := "refreshApart", fn := fun _ => fun
  | [d1, d2] => { results := [.lit (.bool true)], args := [d1, d2] }
  | _ => none }
def refreshApartRow : OpenClaim := { program := "ytejdpfhdjndefaadoor", sum := "b02ae60747b2e40a70359d1c7813dd8fbbb6e8345a29fa980e1c62c75a03912b", func := "peerage/peeragelaw19.RefreshApart", spec := "refreshApart", named := ["peerage/mp.families", "internal/strconv.uint64pow10", "math/bits.deBruijn32tab", "math/bits.deBruijn64tab"], apart := false, laid := [("math/bits.deBruijn32tab", laid_math_bits_deBruijn32tab), ("math/bits.deBruijn64tab", laid_math_bits_deBruijn64tab), ("internal/strconv.uint64pow10", laid_internal_strconv_uint64pow10), ("peerage/mp.families", laid_peerage_mp_families)] }
def RefreshApartSaid : Prop := refreshApartRow.holds Tryd.pinned (OpenSpec.ofChange refreshApartSpec)

/-- ITS FALSE NEIGHBOUR: 'it returns false'. Refute it at one input. -/
def refreshApartWrong : ChangeSpec := { name := "refreshApart", fn := fun _ => fun
  | [d1, d2] => { results := [.lit (.bool false)], args := [d1, d2] }
  | _ => none }
def RefreshApartWrongFalsely : Prop := refreshApartRow.holds Tryd.pinned (OpenSpec.ofChange refreshApartWrong)

/- THE SECOND FORM. 'bulk': how many values and letters a reading holds, each counted each time it is reached (what is shared counts as often as it is met; a slice's spare places count too). A statement '..UptoSaid' is the law's where the arguments, and the package variables that the reading takes, are together of bulk at most 1048576: NARROWER than '..Said'. Prove '..Said' where nothing that the law and all that it calls make is longer than what came in: it says more and counts as full. Else prove '..UptoSaid'. A law counts once. -/
mutual
def uptoBulk {H : Type} : DataW H → Nat
  | .lit (.string bytes) => bytes.length + 1
  | .lit _ => 1
  | .nil => 1
  | .ptr d => uptoBulk d + 1
  | .slice elems spare => uptoBulkAll elems + uptoBulkAll spare + 1
  | .agg parts => uptoBulkAll parts + 1
  | .iface _ d => uptoBulk d + 1
  | .map entries => uptoBulkEntries entries + 1
  | .held _ => 1
def uptoBulkAll {H : Type} : List (DataW H) → Nat
  | [] => 0
  | d :: r => uptoBulk d + uptoBulkAll r
def uptoBulkEntries {H : Type} : List (Lit × DataW H) → Nat
  | [] => 0
  | x :: r => uptoBulkEntry x + uptoBulkEntries r
def uptoBulkEntry {H : Type} : Lit × DataW H → Nat
  | (.string bytes, d) => bytes.length + uptoBulk d + 1
  | (_, d) => uptoBulk d + 1
 end
def uptoSmall : (H : Type) → List (DataW H) → Bool := fun _ ds => decide (uptoBulkAll ds ≤ 1048576)
def OpenSpec.upto (s : _root_.Go.ChangeSpec) : _root_.Go.OpenSpec := { _root_.Go.OpenSpec.ofChange s with cond := some uptoSmall }

/-- 'peeragelaw04.HeaderParses', WHERE WHAT IT READS IS OF BULK AT MOST 1048576: true; the input reads as it did. -/
def headerParsesUptoRow : OpenClaim := { program := "ytejdpfhdjndefaadoor", sum := "b02ae60747b2e40a70359d1c7813dd8fbbb6e8345a29fa980e1c62c75a03912b", func := "peerage/peeragelaw04.HeaderParses", spec := "headerParses", unfollowed := true, recurses := true, named := ["peerage/header.rows"], apart := false, laid := [("peerage/header.rows", laid_peerage_header_rows)], narrowed := true }
def HeaderParsesUptoSaid : Prop := headerParsesUptoRow.holds Tryd.pinned (OpenSpec.upto headerParsesSpec)

/-- 'peeragelaw04.HeaderWraps', WHERE WHAT IT READS IS OF BULK AT MOST 1048576: true; the input reads as it did. -/
def headerWrapsUptoRow : OpenClaim := { program := "ytejdpfhdjndefaadoor", sum := "b02ae60747b2e40a70359d1c7813dd8fbbb6e8345a29fa980e1c62c75a03912b", func := "peerage/peeragelaw04.HeaderWraps", spec := "headerWraps", unfollowed := true, recurses := true, named := ["peerage/header.rows"], apart := false, laid := [("peerage/header.rows", laid_peerage_header_rows)], narrowed := true }
def HeaderWrapsUptoSaid : Prop := headerWrapsUptoRow.holds Tryd.pinned (OpenSpec.upto headerWrapsSpec)

/-- 'peeragelaw04.HeaderForms', WHERE WHAT IT READS IS OF BULK AT MOST 1048576: true; the input reads as it did. -/
def headerFormsUptoRow : OpenClaim := { program := "ytejdpfhdjndefaadoor", sum := "b02ae60747b2e40a70359d1c7813dd8fbbb6e8345a29fa980e1c62c75a03912b", func := "peerage/peeragelaw04.HeaderForms", spec := "headerForms", named := ["peerage/header.rows"], apart := false, laid := [("peerage/header.rows", laid_peerage_header_rows)], narrowed := true }
def HeaderFormsUptoSaid : Prop := headerFormsUptoRow.holds Tryd.pinned (OpenSpec.upto headerFormsSpec)

/-- 'peeragelaw04.HeaderMarkers', WHERE WHAT IT READS IS OF BULK AT MOST 1048576: true; the input reads as it did. -/
def headerMarkersUptoRow : OpenClaim := { program := "ytejdpfhdjndefaadoor", sum := "b02ae60747b2e40a70359d1c7813dd8fbbb6e8345a29fa980e1c62c75a03912b", func := "peerage/peeragelaw04.HeaderMarkers", spec := "headerMarkers", unfollowed := true, recurses := true, named := ["peerage/header.rows"], apart := false, laid := [("peerage/header.rows", laid_peerage_header_rows)], narrowed := true }
def HeaderMarkersUptoSaid : Prop := headerMarkersUptoRow.holds Tryd.pinned (OpenSpec.upto headerMarkersSpec)

/-- 'peeragelaw04.HeaderLengths', WHERE WHAT IT READS IS OF BULK AT MOST 1048576: true; the input reads as it did. -/
def headerLengthsUptoRow : OpenClaim := { program := "ytejdpfhdjndefaadoor", sum := "b02ae60747b2e40a70359d1c7813dd8fbbb6e8345a29fa980e1c62c75a03912b", func := "peerage/peeragelaw04.HeaderLengths", spec := "headerLengths", unfollowed := true, recurses := true, named := ["peerage/header.rows"], apart := false, laid := [("peerage/header.rows", laid_peerage_header_rows)], narrowed := true }
def HeaderLengthsUptoSaid : Prop := headerLengthsUptoRow.holds Tryd.pinned (OpenSpec.upto headerLengthsSpec)

/-- 'peeragelaw19.RefreshMakes', WHERE WHAT IT READS IS OF BULK AT MOST 1048576: true; the input reads as it did. -/
def refreshMakesUptoRow : OpenClaim := { program := "ytejdpfhdjndefaadoor", sum := "b02ae60747b2e40a70359d1c7813dd8fbbb6e8345a29fa980e1c62c75a03912b", func := "peerage/peeragelaw19.RefreshMakes", spec := "refreshMakes", named := ["peerage/mp.families", "internal/strconv.uint64pow10", "math/bits.deBruijn32tab", "math/bits.deBruijn64tab"], apart := false, laid := [("math/bits.deBruijn32tab", laid_math_bits_deBruijn32tab), ("math/bits.deBruijn64tab", laid_math_bits_deBruijn64tab), ("internal/strconv.uint64pow10", laid_internal_strconv_uint64pow10), ("peerage/mp.families", laid_peerage_mp_families)], narrowed := true }
def RefreshMakesUptoSaid : Prop := refreshMakesUptoRow.holds Tryd.pinned (OpenSpec.upto refreshMakesSpec)

/-- 'peeragelaw19.RefreshUseful', WHERE WHAT IT READS IS OF BULK AT MOST 1048576: true; the input reads as it did. -/
def refreshUsefulUptoRow : OpenClaim := { program := "ytejdpfhdjndefaadoor", sum := "b02ae60747b2e40a70359d1c7813dd8fbbb6e8345a29fa980e1c62c75a03912b", func := "peerage/peeragelaw19.RefreshUseful", spec := "refreshUseful", named := ["peerage/mp.families", "internal/strconv.uint64pow10", "math/bits.deBruijn32tab", "math/bits.deBruijn64tab"], apart := false, laid := [("math/bits.deBruijn32tab", laid_math_bits_deBruijn32tab), ("math/bits.deBruijn64tab", laid_math_bits_deBruijn64tab), ("internal/strconv.uint64pow10", laid_internal_strconv_uint64pow10), ("peerage/mp.families", laid_peerage_mp_families)], narrowed := true }
def RefreshUsefulUptoSaid : Prop := refreshUsefulUptoRow.holds Tryd.pinned (OpenSpec.upto refreshUsefulSpec)

/-- 'peeragelaw19.RefreshParses', WHERE WHAT IT READS IS OF BULK AT MOST 1048576: true; the input reads as it did. -/
def refreshParsesUptoRow : OpenClaim := { program := "ytejdpfhdjndefaadoor", sum := "b02ae60747b2e40a70359d1c7813dd8fbbb6e8345a29fa980e1c62c75a03912b", func := "peerage/peeragelaw19.RefreshParses", spec := "refreshParses", named := ["peerage/mp.families", "internal/strconv.uint64pow10", "math/bits.deBruijn32tab", "math/bits.deBruijn64tab"], apart := false, laid := [("math/bits.deBruijn32tab", laid_math_bits_deBruijn32tab), ("math/bits.deBruijn64tab", laid_math_bits_deBruijn64tab), ("internal/strconv.uint64pow10", laid_internal_strconv_uint64pow10), ("peerage/mp.families", laid_peerage_mp_families)], narrowed := true }
def RefreshParsesUptoSaid : Prop := refreshParsesUptoRow.holds Tryd.pinned (OpenSpec.upto refreshParsesSpec)

/-- 'peeragelaw19.RefreshForms', WHERE WHAT IT READS IS OF BULK AT MOST 1048576: true; the input reads as it did. -/
def refreshFormsUptoRow : OpenClaim := { program := "ytejdpfhdjndefaadoor", sum := "b02ae60747b2e40a70359d1c7813dd8fbbb6e8345a29fa980e1c62c75a03912b", func := "peerage/peeragelaw19.RefreshForms", spec := "refreshForms", named := ["internal/strconv.uint64pow10", "math/bits.deBruijn32tab", "math/bits.deBruijn64tab", "peerage/mp.families"], apart := false, laid := [("math/bits.deBruijn32tab", laid_math_bits_deBruijn32tab), ("math/bits.deBruijn64tab", laid_math_bits_deBruijn64tab), ("internal/strconv.uint64pow10", laid_internal_strconv_uint64pow10), ("peerage/mp.families", laid_peerage_mp_families)], narrowed := true }
def RefreshFormsUptoSaid : Prop := refreshFormsUptoRow.holds Tryd.pinned (OpenSpec.upto refreshFormsSpec)

/-- 'peeragelaw19.RefreshApart', WHERE WHAT IT READS IS OF BULK AT MOST 1048576: true; the input reads as it did. -/
def refreshApartUptoRow : OpenClaim := { program := "ytejdpfhdjndefaadoor", sum := "b02ae60747b2e40a70359d1c7813dd8fbbb6e8345a29fa980e1c62c75a03912b", func := "peerage/peeragelaw19.RefreshApart", spec := "refreshApart", named := ["peerage/mp.families", "internal/strconv.uint64pow10", "math/bits.deBruijn32tab", "math/bits.deBruijn64tab"], apart := false, laid := [("math/bits.deBruijn32tab", laid_math_bits_deBruijn32tab), ("math/bits.deBruijn64tab", laid_math_bits_deBruijn64tab), ("internal/strconv.uint64pow10", laid_internal_strconv_uint64pow10), ("peerage/mp.families", laid_peerage_mp_families)], narrowed := true }
def RefreshApartUptoSaid : Prop := refreshApartUptoRow.holds Tryd.pinned (OpenSpec.upto refreshApartSpec)

end Rows
end Go.Proofs.YtejdpfhdjndefaaDoor
