/-
  No cell of these rows narrows 'for every input' (looked for: loops, veiled, ifaces, maps, wideKeys, modest, calm, conditions, laid).
  DERIVED. THE GIVEN ROWS OF THIS SEAT. 11 by the template 'for every input the law returns true; each argument reads behind the call as it read before'; 0 by the template 'total and deterministic' (their statements: YteoegejbaahlpaaTotals.lean).
  GIVEN WITH THE SEED: the statements are not yours to turn. If you find one false, say at which input.
  Laid BY PROGRAM, IN A SANDBOX (cutbox-rows.mjs): the forced cells as the released guide's own fill.sh prints them over the translation 6ef5608a9d68109a… (all of the seat's roots in one cut). By AI agents, Wed Nov 11 2026. No macro, syntax, notation, axiom, sorry.
-/
import Derived.Test.YteoegejbaahlpaaChecked
import GoSem.Claim
import GoSem.ClaimJoined
import GoSem.ClaimMapViews
import Derived.JoinedTies
import Derived.KernelRfl
namespace Go.Proofs.Yteoegejbaahlpaa
/- THE CELL 'sum', in the pinned program and in every row, IS THE sha256 OF THE DUMP (.gsa) THAT YteoegejbaahlpaaProg.lean LOADS. Nothing in Lean hashes anything: it is a label: what it is worth is what the hold of that sum in a sandbox is worth. -/
noncomputable def Try.pinned : Pinned := { name := "yteoegejbaahlpaa", sum := "6ef5608a9d68109a8e6d47f504878093731a99e40f9122c4fdf56ebb59cee371", checked := Try.checked }
namespace Rows
def none {H : Type} : Left H := { results := [], args := [] }

/-- 'peeragelaw03.NlriReads': WHATEVER THE INPUT: true; the input reads as it did. -/
def nlriReadsSpec : ChangeSpec := { name := "nlriReads", fn := fun _ => fun
  | [d1, d2, d3] => { results := [.lit (.bool true)], args := [d1, d2, d3] }
  | _ => none }
def nlriReadsRow : OpenClaim := { program := "yteoegejbaahlpaa", sum := "6ef5608a9d68109a8e6d47f504878093731a99e40f9122c4fdf56ebb59cee371", func := "peerage/peeragelaw03.NlriReads", spec := "nlriReads", unfollowed := true, recurses := true, plainKeys := false, apart := false }
def NlriReadsSaid : Prop := nlriReadsRow.holds Try.pinned (OpenSpec.ofChange nlriReadsSpec)

/-- ITS FALSE NEIGHBOUR: 'it returns false'. Refute it at one input. -/
def nlriReadsWrong : ChangeSpec := { name := "nlriReads", fn := fun _ => fun
  | [d1, d2, d3] => { results := [.lit (.bool false)], args := [d1, d2, d3] }
  | _ => none }
def NlriReadsWrongFalsely : Prop := nlriReadsRow.holds Try.pinned (OpenSpec.ofChange nlriReadsWrong)

/-- 'peeragelaw03.NlriJoins': WHATEVER THE INPUT: true; the input reads as it did. -/
def nlriJoinsSpec : ChangeSpec := { name := "nlriJoins", fn := fun _ => fun
  | [d1, d2, d3] => { results := [.lit (.bool true)], args := [d1, d2, d3] }
  | _ => none }
def nlriJoinsRow : OpenClaim := { program := "yteoegejbaahlpaa", sum := "6ef5608a9d68109a8e6d47f504878093731a99e40f9122c4fdf56ebb59cee371", func := "peerage/peeragelaw03.NlriJoins", spec := "nlriJoins", unfollowed := true, recurses := true, plainKeys := false, apart := false }
def NlriJoinsSaid : Prop := nlriJoinsRow.holds Try.pinned (OpenSpec.ofChange nlriJoinsSpec)

/-- ITS FALSE NEIGHBOUR: 'it returns false'. Refute it at one input. -/
def nlriJoinsWrong : ChangeSpec := { name := "nlriJoins", fn := fun _ => fun
  | [d1, d2, d3] => { results := [.lit (.bool false)], args := [d1, d2, d3] }
  | _ => none }
def NlriJoinsWrongFalsely : Prop := nlriJoinsRow.holds Try.pinned (OpenSpec.ofChange nlriJoinsWrong)

/-- 'peeragelaw03.NlriUnique': WHATEVER THE INPUT: true; the input reads as it did. -/
def nlriUniqueSpec : ChangeSpec := { name := "nlriUnique", fn := fun _ => fun
  | [d] => { results := [.lit (.bool true)], args := [d] }
  | _ => none }
def nlriUniqueRow : OpenClaim := { program := "yteoegejbaahlpaa", sum := "6ef5608a9d68109a8e6d47f504878093731a99e40f9122c4fdf56ebb59cee371", func := "peerage/peeragelaw03.NlriUnique", spec := "nlriUnique", unfollowed := true, recurses := true, plainKeys := false, apart := false }
def NlriUniqueSaid : Prop := nlriUniqueRow.holds Try.pinned (OpenSpec.ofChange nlriUniqueSpec)

/-- ITS FALSE NEIGHBOUR: 'it returns false'. Refute it at one input. -/
def nlriUniqueWrong : ChangeSpec := { name := "nlriUnique", fn := fun _ => fun
  | [d] => { results := [.lit (.bool false)], args := [d] }
  | _ => none }
def NlriUniqueWrongFalsely : Prop := nlriUniqueRow.holds Try.pinned (OpenSpec.ofChange nlriUniqueWrong)

/-- 'peeragelaw03.NlriSplits': WHATEVER THE INPUT: true; the input reads as it did. -/
def nlriSplitsSpec : ChangeSpec := { name := "nlriSplits", fn := fun _ => fun
  | [d1, d2, d3] => { results := [.lit (.bool true)], args := [d1, d2, d3] }
  | _ => none }
def nlriSplitsRow : OpenClaim := { program := "yteoegejbaahlpaa", sum := "6ef5608a9d68109a8e6d47f504878093731a99e40f9122c4fdf56ebb59cee371", func := "peerage/peeragelaw03.NlriSplits", spec := "nlriSplits", unfollowed := true, recurses := true, plainKeys := false, apart := false }
def NlriSplitsSaid : Prop := nlriSplitsRow.holds Try.pinned (OpenSpec.ofChange nlriSplitsSpec)

/-- ITS FALSE NEIGHBOUR: 'it returns false'. Refute it at one input. -/
def nlriSplitsWrong : ChangeSpec := { name := "nlriSplits", fn := fun _ => fun
  | [d1, d2, d3] => { results := [.lit (.bool false)], args := [d1, d2, d3] }
  | _ => none }
def NlriSplitsWrongFalsely : Prop := nlriSplitsRow.holds Try.pinned (OpenSpec.ofChange nlriSplitsWrong)

/-- 'peeragelaw03.NlriKeeps': WHATEVER THE INPUT: true; the input reads as it did. -/
def nlriKeepsSpec : ChangeSpec := { name := "nlriKeeps", fn := fun _ => fun
  | [d] => { results := [.lit (.bool true)], args := [d] }
  | _ => none }
def nlriKeepsRow : OpenClaim := { program := "yteoegejbaahlpaa", sum := "6ef5608a9d68109a8e6d47f504878093731a99e40f9122c4fdf56ebb59cee371", func := "peerage/peeragelaw03.NlriKeeps", spec := "nlriKeeps", unfollowed := true, recurses := true, plainKeys := false, apart := false }
def NlriKeepsSaid : Prop := nlriKeepsRow.holds Try.pinned (OpenSpec.ofChange nlriKeepsSpec)

/-- ITS FALSE NEIGHBOUR: 'it returns false'. Refute it at one input. -/
def nlriKeepsWrong : ChangeSpec := { name := "nlriKeeps", fn := fun _ => fun
  | [d] => { results := [.lit (.bool false)], args := [d] }
  | _ => none }
def NlriKeepsWrongFalsely : Prop := nlriKeepsRow.holds Try.pinned (OpenSpec.ofChange nlriKeepsWrong)

/-- 'peeragelaw10.FlagForms': WHATEVER THE INPUT: true; the input reads as it did. -/
def flagFormsSpec : ChangeSpec := { name := "flagForms", fn := fun _ => fun
  | [d] => { results := [.lit (.bool true)], args := [d] }
  | _ => none }
def flagFormsRow : OpenClaim := { program := "yteoegejbaahlpaa", sum := "6ef5608a9d68109a8e6d47f504878093731a99e40f9122c4fdf56ebb59cee371", func := "peerage/peeragelaw10.FlagForms", spec := "flagForms", plainKeys := false, apart := false }
def FlagFormsSaid : Prop := flagFormsRow.holds Try.pinned (OpenSpec.ofChange flagFormsSpec)

/-- ITS FALSE NEIGHBOUR: 'it returns false'. Refute it at one input. -/
def flagFormsWrong : ChangeSpec := { name := "flagForms", fn := fun _ => fun
  | [d] => { results := [.lit (.bool false)], args := [d] }
  | _ => none }
def FlagFormsWrongFalsely : Prop := flagFormsRow.holds Try.pinned (OpenSpec.ofChange flagFormsWrong)

/-- 'peeragelaw10.FlagReads': WHATEVER THE INPUT: true; the input reads as it did. -/
def flagReadsSpec : ChangeSpec := { name := "flagReads", fn := fun _ => fun
  | [d] => { results := [.lit (.bool true)], args := [d] }
  | _ => none }
def flagReadsRow : OpenClaim := { program := "yteoegejbaahlpaa", sum := "6ef5608a9d68109a8e6d47f504878093731a99e40f9122c4fdf56ebb59cee371", func := "peerage/peeragelaw10.FlagReads", spec := "flagReads", plainKeys := false, apart := false }
def FlagReadsSaid : Prop := flagReadsRow.holds Try.pinned (OpenSpec.ofChange flagReadsSpec)

/-- ITS FALSE NEIGHBOUR: 'it returns false'. Refute it at one input. -/
def flagReadsWrong : ChangeSpec := { name := "flagReads", fn := fun _ => fun
  | [d] => { results := [.lit (.bool false)], args := [d] }
  | _ => none }
def FlagReadsWrongFalsely : Prop := flagReadsRow.holds Try.pinned (OpenSpec.ofChange flagReadsWrong)

/-- 'peeragelaw10.FlagRight': WHATEVER THE INPUT: true; the input reads as it did. -/
def flagRightSpec : ChangeSpec := { name := "flagRight", fn := fun _ => fun
  | [d1, d2] => { results := [.lit (.bool true)], args := [d1, d2] }
  | _ => none }
def flagRightRow : OpenClaim := { program := "yteoegejbaahlpaa", sum := "6ef5608a9d68109a8e6d47f504878093731a99e40f9122c4fdf56ebb59cee371", func := "peerage/peeragelaw10.FlagRight", spec := "flagRight", plainKeys := false, apart := false }
def FlagRightSaid : Prop := flagRightRow.holds Try.pinned (OpenSpec.ofChange flagRightSpec)

/-- ITS FALSE NEIGHBOUR: 'it returns false'. Refute it at one input. -/
def flagRightWrong : ChangeSpec := { name := "flagRight", fn := fun _ => fun
  | [d1, d2] => { results := [.lit (.bool false)], args := [d1, d2] }
  | _ => none }
def FlagRightWrongFalsely : Prop := flagRightRow.holds Try.pinned (OpenSpec.ofChange flagRightWrong)

/-- 'peeragelaw10.FlagCanonical': WHATEVER THE INPUT: true; the input reads as it did. -/
def flagCanonicalSpec : ChangeSpec := { name := "flagCanonical", fn := fun _ => fun
  | [d1, d2, d3] => { results := [.lit (.bool true)], args := [d1, d2, d3] }
  | _ => none }
def flagCanonicalRow : OpenClaim := { program := "yteoegejbaahlpaa", sum := "6ef5608a9d68109a8e6d47f504878093731a99e40f9122c4fdf56ebb59cee371", func := "peerage/peeragelaw10.FlagCanonical", spec := "flagCanonical", plainKeys := false, apart := false }
def FlagCanonicalSaid : Prop := flagCanonicalRow.holds Try.pinned (OpenSpec.ofChange flagCanonicalSpec)

/-- ITS FALSE NEIGHBOUR: 'it returns false'. Refute it at one input. -/
def flagCanonicalWrong : ChangeSpec := { name := "flagCanonical", fn := fun _ => fun
  | [d1, d2, d3] => { results := [.lit (.bool false)], args := [d1, d2, d3] }
  | _ => none }
def FlagCanonicalWrongFalsely : Prop := flagCanonicalRow.holds Try.pinned (OpenSpec.ofChange flagCanonicalWrong)

/-- 'peeragelaw05.OptionBoth': WHATEVER THE INPUT: true; the input reads as it did. -/
def optionBothSpec : ChangeSpec := { name := "optionBoth", fn := fun _ => fun
  | [d1, d2] => { results := [.lit (.bool true)], args := [d1, d2] }
  | _ => none }
def optionBothRow : OpenClaim := { program := "yteoegejbaahlpaa", sum := "6ef5608a9d68109a8e6d47f504878093731a99e40f9122c4fdf56ebb59cee371", func := "peerage/peeragelaw05.OptionBoth", spec := "optionBoth", inPlace := ["internal/abi.NoEscape", "internal/bytealg.MakeNoZero"], unfollowed := true, recurses := true, plainKeys := false, apart := false }
def OptionBothSaid : Prop := optionBothRow.holds Try.pinned (OpenSpec.ofChange optionBothSpec)

/-- ITS FALSE NEIGHBOUR: 'it returns false'. Refute it at one input. -/
def optionBothWrong : ChangeSpec := { name := "optionBoth", fn := fun _ => fun
  | [d1, d2] => { results := [.lit (.bool false)], args := [d1, d2] }
  | _ => none }
def OptionBothWrongFalsely : Prop := optionBothRow.holds Try.pinned (OpenSpec.ofChange optionBothWrong)

/-- 'peeragelaw05.OptionFamilies': WHATEVER THE INPUT: true; the input reads as it did. -/
def optionFamiliesSpec : ChangeSpec := { name := "optionFamilies", fn := fun _ => fun
  | [d1, d2] => { results := [.lit (.bool true)], args := [d1, d2] }
  | _ => none }
def optionFamiliesRow : OpenClaim := { program := "yteoegejbaahlpaa", sum := "6ef5608a9d68109a8e6d47f504878093731a99e40f9122c4fdf56ebb59cee371", func := "peerage/peeragelaw05.OptionFamilies", spec := "optionFamilies", inPlace := ["internal/abi.NoEscape", "internal/bytealg.MakeNoZero"], unfollowed := true, recurses := true, plainKeys := false, apart := false }
def OptionFamiliesSaid : Prop := optionFamiliesRow.holds Try.pinned (OpenSpec.ofChange optionFamiliesSpec)

/-- ITS FALSE NEIGHBOUR: 'it returns false'. Refute it at one input. -/
def optionFamiliesWrong : ChangeSpec := { name := "optionFamilies", fn := fun _ => fun
  | [d1, d2] => { results := [.lit (.bool false)], args := [d1, d2] }
  | _ => none }
def OptionFamiliesWrongFalsely : Prop := optionFamiliesRow.holds Try.pinned (OpenSpec.ofChange optionFamiliesWrong)

/- THE SECOND FORM. 'bulk': how many values and letters a reading holds, each counted each time it is reached (what is shared counts as often as it is met; a slice's spare places count too). A statement '..UptoSaid' is the law's where the arguments, and the package variables that the reading takes, are together of bulk at most 1048576: NARROWER than '..Said'. Prove '..Said' where nothing that the law and all that it calls make is longer than what came in: it says more and counts as full. Else prove '..UptoSaid'. A law counts once. -/
mutual
def uptoBulk {H : Type} : DataW H → Nat
  | .lit (.string bytes) => bytes.length + 1
  | .lit _ => 1
  | .nil => 1
  | .ptr d => uptoBulk d + 1
  | .slice elems spare => uptoBulkAll elems + uptoBulkAll spare + 1
  | .agg parts => uptoBulkAll parts + 1
  | .iface _ d => uptoBulk d + 1
  | .map entries => uptoBulkEntries entries + 1
  | .held _ => 1
def uptoBulkAll {H : Type} : List (DataW H) → Nat
  | [] => 0
  | d :: r => uptoBulk d + uptoBulkAll r
def uptoBulkEntries {H : Type} : List (Lit × DataW H) → Nat
  | [] => 0
  | x :: r => uptoBulkEntry x + uptoBulkEntries r
def uptoBulkEntry {H : Type} : Lit × DataW H → Nat
  | (.string bytes, d) => bytes.length + uptoBulk d + 1
  | (_, d) => uptoBulk d + 1
 end
def uptoSmall : (H : Type) → List (DataW H) → Bool := fun _ ds => decide (uptoBulkAll ds ≤ 1048576)
def OpenSpec.upto (s : _root_.Go.ChangeSpec) : _root_.Go.OpenSpec := { _root_.Go.OpenSpec.ofChange s with cond := some uptoSmall }

/-- 'peeragelaw03.NlriReads', WHERE WHAT IT READS IS OF BULK AT MOST 1048576: true; the input reads as it did. -/
def nlriReadsUptoRow : OpenClaim := { program := "yteoegejbaahlpaa", sum := "6ef5608a9d68109a8e6d47f504878093731a99e40f9122c4fdf56ebb59cee371", func := "peerage/peeragelaw03.NlriReads", spec := "nlriReads", unfollowed := true, recurses := true, plainKeys := false, apart := false, narrowed := true }
def NlriReadsUptoSaid : Prop := nlriReadsUptoRow.holds Try.pinned (OpenSpec.upto nlriReadsSpec)

/-- 'peeragelaw03.NlriJoins', WHERE WHAT IT READS IS OF BULK AT MOST 1048576: true; the input reads as it did. -/
def nlriJoinsUptoRow : OpenClaim := { program := "yteoegejbaahlpaa", sum := "6ef5608a9d68109a8e6d47f504878093731a99e40f9122c4fdf56ebb59cee371", func := "peerage/peeragelaw03.NlriJoins", spec := "nlriJoins", unfollowed := true, recurses := true, plainKeys := false, apart := false, narrowed := true }
def NlriJoinsUptoSaid : Prop := nlriJoinsUptoRow.holds Try.pinned (OpenSpec.upto nlriJoinsSpec)

/-- 'peeragelaw03.NlriUnique', WHERE WHAT IT READS IS OF BULK AT MOST 1048576: true; the input reads as it did. -/
def nlriUniqueUptoRow : OpenClaim := { program := "yteoegejbaahlpaa", sum := "6ef5608a9d68109a8e6d47f504878093731a99e40f9122c4fdf56ebb59cee371", func := "peerage/peeragelaw03.NlriUnique", spec := "nlriUnique", unfollowed := true, recurses := true, plainKeys := false, apart := false, narrowed := true }
def NlriUniqueUptoSaid : Prop := nlriUniqueUptoRow.holds Try.pinned (OpenSpec.upto nlriUniqueSpec)

/-- 'peeragelaw03.NlriSplits', WHERE WHAT IT READS IS OF BULK AT MOST 1048576: true; the input reads as it did. -/
def nlriSplitsUptoRow : OpenClaim := { program := "yteoegejbaahlpaa", sum := "6ef5608a9d68109a8e6d47f504878093731a99e40f9122c4fdf56ebb59cee371", func := "peerage/peeragelaw03.NlriSplits", spec := "nlriSplits", unfollowed := true, recurses := true, plainKeys := false, apart := false, narrowed := true }
def NlriSplitsUptoSaid : Prop := nlriSplitsUptoRow.holds Try.pinned (OpenSpec.upto nlriSplitsSpec)

/-- 'peeragelaw03.NlriKeeps', WHERE WHAT IT READS IS OF BULK AT MOST 1048576: true; the input reads as it did. -/
def nlriKeepsUptoRow : OpenClaim := { program := "yteoegejbaahlpaa", sum := "6ef5608a9d68109a8e6d47f504878093731a99e40f9122c4fdf56ebb59cee371", func := "peerage/peeragelaw03.NlriKeeps", spec := "nlriKeeps", unfollowed := true, recurses := true, plainKeys := false, apart := false, narrowed := true }
def NlriKeepsUptoSaid : Prop := nlriKeepsUptoRow.holds Try.pinned (OpenSpec.upto nlriKeepsSpec)

/-- 'peeragelaw10.FlagForms', WHERE WHAT IT READS IS OF BULK AT MOST 1048576: true; the input reads as it did. -/
def flagFormsUptoRow : OpenClaim := { program := "yteoegejbaahlpaa", sum := "6ef5608a9d68109a8e6d47f504878093731a99e40f9122c4fdf56ebb59cee371", func := "peerage/peeragelaw10.FlagForms", spec := "flagForms", plainKeys := false, apart := false, narrowed := true }
def FlagFormsUptoSaid : Prop := flagFormsUptoRow.holds Try.pinned (OpenSpec.upto flagFormsSpec)

/-- 'peeragelaw10.FlagReads', WHERE WHAT IT READS IS OF BULK AT MOST 1048576: true; the input reads as it did. -/
def flagReadsUptoRow : OpenClaim := { program := "yteoegejbaahlpaa", sum := "6ef5608a9d68109a8e6d47f504878093731a99e40f9122c4fdf56ebb59cee371", func := "peerage/peeragelaw10.FlagReads", spec := "flagReads", plainKeys := false, apart := false, narrowed := true }
def FlagReadsUptoSaid : Prop := flagReadsUptoRow.holds Try.pinned (OpenSpec.upto flagReadsSpec)

/-- 'peeragelaw10.FlagRight', WHERE WHAT IT READS IS OF BULK AT MOST 1048576: true; the input reads as it did. -/
def flagRightUptoRow : OpenClaim := { program := "yteoegejbaahlpaa", sum := "6ef5608a9d68109a8e6d47f504878093731a99e40f9122c4fdf56ebb59cee371", func := "peerage/peeragelaw10.FlagRight", spec := "flagRight", plainKeys := false, apart := false, narrowed := true }
def FlagRightUptoSaid : Prop := flagRightUptoRow.holds Try.pinned (OpenSpec.upto flagRightSpec)

/-- 'peeragelaw10.FlagCanonical', WHERE WHAT IT READS IS OF BULK AT MOST 1048576: true; the input reads as it did. -/
def flagCanonicalUptoRow : OpenClaim := { program := "yteoegejbaahlpaa", sum := "6ef5608a9d68109a8e6d47f504878093731a99e40f9122c4fdf56ebb59cee371", func := "peerage/peeragelaw10.FlagCanonical", spec := "flagCanonical", plainKeys := false, apart := false, narrowed := true }
def FlagCanonicalUptoSaid : Prop := flagCanonicalUptoRow.holds Try.pinned (OpenSpec.upto flagCanonicalSpec)

/-- 'peeragelaw05.OptionBoth', WHERE WHAT IT READS IS OF BULK AT MOST 1048576: true; the input reads as it did. -/
def optionBothUptoRow : OpenClaim := { program := "yteoegejbaahlpaa", sum := "6ef5608a9d68109a8e6d47f504878093731a99e40f9122c4fdf56ebb59cee371", func := "peerage/peeragelaw05.OptionBoth", spec := "optionBoth", inPlace := ["internal/abi.NoEscape", "internal/bytealg.MakeNoZero"], unfollowed := true, recurses := true, plainKeys := false, apart := false, narrowed := true }
def OptionBothUptoSaid : Prop := optionBothUptoRow.holds Try.pinned (OpenSpec.upto optionBothSpec)

/-- 'peeragelaw05.OptionFamilies', WHERE WHAT IT READS IS OF BULK AT MOST 1048576: true; the input reads as it did. -/
def optionFamiliesUptoRow : OpenClaim := { program := "yteoegejbaahlpaa", sum := "6ef5608a9d68109a8e6d47f504878093731a99e40f9122c4fdf56ebb59cee371", func := "peerage/peeragelaw05.OptionFamilies", spec := "optionFamilies", inPlace := ["internal/abi.NoEscape", "internal/bytealg.MakeNoZero"], unfollowed := true, recurses := true, plainKeys := false, apart := false, narrowed := true }
def OptionFamiliesUptoSaid : Prop := optionFamiliesUptoRow.holds Try.pinned (OpenSpec.upto optionFamiliesSpec)

end Rows
end Go.Proofs.Yteoegejbaahlpaa
