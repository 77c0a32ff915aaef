/-
  No cell of these rows narrows 'for every input' (looked for: loops, veiled, ifaces, maps, wideKeys, modest, calm, conditions, laid).
  DERIVED. THE GIVEN ROWS OF THIS SEAT. 2 by the template 'for every input the law returns true; each argument reads behind the call as it read before'; 0 by the template 'total and deterministic' (their statements: YtmicpiaflgfojaaTotals.lean).
  GIVEN WITH THE SEED: the statements are not yours to turn. If you find one false, say at which input.
  Laid BY PROGRAM, IN A SANDBOX (cutbox-rows.mjs): the forced cells as the released guide's own fill.sh prints them over the translation b61eb5991eae4e7b… (all of the seat's roots in one cut). By AI agents, Wed Nov 11 2026. No macro, syntax, notation, axiom, sorry.
-/
import Derived.Test.YtmicpiaflgfojaaChecked
import GoSem.Claim
import GoSem.ClaimJoined
import GoSem.ClaimMapViews
import Derived.JoinedTies
import Derived.KernelRfl
namespace Go.Proofs.Ytmicpiaflgfojaa
/- THE CELL 'sum', in the pinned program and in every row, IS THE sha256 OF THE DUMP (.gsa) THAT YtmicpiaflgfojaaProg.lean LOADS. Nothing in Lean hashes anything: it is a label: what it is worth is what the hold of that sum in a sandbox is worth. -/
noncomputable def Try.pinned : Pinned := { name := "ytmicpiaflgfojaa", sum := "b61eb5991eae4e7b56c30702879fc5c393b8d8b536c8da70363349092dcaa76a", checked := Try.checked }
namespace Rows
def none {H : Type} : Left H := { results := [], args := [] }

/-- 'peeragelaw03.NlriUnique': WHATEVER THE INPUT: true; the input reads as it did. -/
def nlriUniqueSpec : ChangeSpec := { name := "nlriUnique", fn := fun _ => fun
  | [d] => { results := [.lit (.bool true)], args := [d] }
  | _ => none }
def nlriUniqueRow : OpenClaim := { program := "ytmicpiaflgfojaa", sum := "b61eb5991eae4e7b56c30702879fc5c393b8d8b536c8da70363349092dcaa76a", func := "peerage/peeragelaw03.NlriUnique", spec := "nlriUnique", unfollowed := true, recurses := true, plainKeys := false, apart := false }
def NlriUniqueSaid : Prop := nlriUniqueRow.holds Try.pinned (OpenSpec.ofChange nlriUniqueSpec)

/-- ITS FALSE NEIGHBOUR: 'it returns false'. Refute it at one input. -/
def nlriUniqueWrong : ChangeSpec := { name := "nlriUnique", fn := fun _ => fun
  | [d] => { results := [.lit (.bool false)], args := [d] }
  | _ => none }
def NlriUniqueWrongFalsely : Prop := nlriUniqueRow.holds Try.pinned (OpenSpec.ofChange nlriUniqueWrong)

/-- 'peeragelaw03.NlriKeeps': WHATEVER THE INPUT: true; the input reads as it did. -/
def nlriKeepsSpec : ChangeSpec := { name := "nlriKeeps", fn := fun _ => fun
  | [d] => { results := [.lit (.bool true)], args := [d] }
  | _ => none }
def nlriKeepsRow : OpenClaim := { program := "ytmicpiaflgfojaa", sum := "b61eb5991eae4e7b56c30702879fc5c393b8d8b536c8da70363349092dcaa76a", func := "peerage/peeragelaw03.NlriKeeps", spec := "nlriKeeps", unfollowed := true, recurses := true, plainKeys := false, apart := false }
def NlriKeepsSaid : Prop := nlriKeepsRow.holds Try.pinned (OpenSpec.ofChange nlriKeepsSpec)

/-- ITS FALSE NEIGHBOUR: 'it returns false'. Refute it at one input. -/
def nlriKeepsWrong : ChangeSpec := { name := "nlriKeeps", fn := fun _ => fun
  | [d] => { results := [.lit (.bool false)], args := [d] }
  | _ => none }
def NlriKeepsWrongFalsely : Prop := nlriKeepsRow.holds Try.pinned (OpenSpec.ofChange nlriKeepsWrong)

/- THE SECOND FORM. 'bulk': how many values and letters a reading holds, each counted each time it is reached (what is shared counts as often as it is met; a slice's spare places count too). A statement '..UptoSaid' is the law's where the arguments, and the package variables that the reading takes, are together of bulk at most 1048576: NARROWER than '..Said'. Prove '..Said' where nothing that the law and all that it calls make is longer than what came in: it says more and counts as full. Else prove '..UptoSaid'. A law counts once. -/
mutual
def uptoBulk {H : Type} : DataW H → Nat
  | .lit (.string bytes) => bytes.length + 1
  | .lit _ => 1
  | .nil => 1
  | .ptr d => uptoBulk d + 1
  | .slice elems spare => uptoBulkAll elems + uptoBulkAll spare + 1
  | .agg parts => uptoBulkAll parts + 1
  | .iface _ d => uptoBulk d + 1
  | .map entries => uptoBulkEntries entries + 1
  | .held _ => 1
def uptoBulkAll {H : Type} : List (DataW H) → Nat
  | [] => 0
  | d :: r => uptoBulk d + uptoBulkAll r
def uptoBulkEntries {H : Type} : List (Lit × DataW H) → Nat
  | [] => 0
  | x :: r => uptoBulkEntry x + uptoBulkEntries r
def uptoBulkEntry {H : Type} : Lit × DataW H → Nat
  | (.string bytes, d) => bytes.length + uptoBulk d + 1
  | (_, d) => uptoBulk d + 1
 end
def uptoSmall : (H : Type) → List (DataW H) → Bool := fun _ ds => decide (uptoBulkAll ds ≤ 1048576)
def OpenSpec.upto (s : _root_.Go.ChangeSpec) : _root_.Go.OpenSpec := { _root_.Go.OpenSpec.ofChange s with cond := some uptoSmall }

/-- 'peeragelaw03.NlriUnique', WHERE WHAT IT READS IS OF BULK AT MOST 1048576: true; the input reads as it did. -/
def nlriUniqueUptoRow : OpenClaim := { program := "ytmicpiaflgfojaa", sum := "b61eb5991eae4e7b56c30702879fc5c393b8d8b536c8da70363349092dcaa76a", func := "peerage/peeragelaw03.NlriUnique", spec := "nlriUnique", unfollowed := true, recurses := true, plainKeys := false, apart := false, narrowed := true }
def NlriUniqueUptoSaid : Prop := nlriUniqueUptoRow.holds Try.pinned (OpenSpec.upto nlriUniqueSpec)

/-- 'peeragelaw03.NlriKeeps', WHERE WHAT IT READS IS OF BULK AT MOST 1048576: true; the input reads as it did. -/
def nlriKeepsUptoRow : OpenClaim := { program := "ytmicpiaflgfojaa", sum := "b61eb5991eae4e7b56c30702879fc5c393b8d8b536c8da70363349092dcaa76a", func := "peerage/peeragelaw03.NlriKeeps", spec := "nlriKeeps", unfollowed := true, recurses := true, plainKeys := false, apart := false, narrowed := true }
def NlriKeepsUptoSaid : Prop := nlriKeepsUptoRow.holds Try.pinned (OpenSpec.upto nlriKeepsSpec)

end Rows
end Go.Proofs.Ytmicpiaflgfojaa
