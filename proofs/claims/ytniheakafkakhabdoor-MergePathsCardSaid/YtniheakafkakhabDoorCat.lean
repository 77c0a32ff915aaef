/- octet.Cat -/
import Derived.Test.YtniheakafkakhabDoorWords
import Derived.Test.YtniheakafkakhabDoorRows
namespace Go.Proofs.YtniheakafkakhabDoor
open Go.RowKit

set_option maxRecDepth 100000 in
theorem sl_bytes : SliceOf Tryd.prog 58 5 1 1 := SliceOf.mk Tryd.underlying58 (z := .int .u8 0) (by kernel_rfl) rfl (by decide)

/-- A slice of bytes as a value, with what it holds. -/
structure Part where
  a : Option Addr
  n : Nat
  c : Nat
  xs : List Int
def Part.v (p : Part) : Value := .slice p.a p.n p.c
def Part.ok (w : World) (B : Nat) (p : Part) : Prop := Bytes w B p.a p.n p.xs
def flat (ps : List Part) : List Int := ps.flatMap Part.xs
def pth (ps : List Part) (k : Nat) : Part := ps.getD k ⟨none, 0, 0, []⟩
theorem pth_some {ps : List Part} {k : Nat} (h : k < ps.length) : ps[k]? = some (pth ps k) := by simp [pth, h]
theorem pth_mem {ps : List Part} {k : Nat} (h : k < ps.length) : pth ps k ∈ ps := List.mem_of_getElem? (pth_some h)
theorem flat_take {ps : List Part} {k : Nat} (h : k < ps.length) : flat (ps.take (k + 1)) = flat (ps.take k) ++ (pth ps k).xs := by
  unfold flat
  rw [List.take_add_one, pth_some h]; simp
def Parts (w : World) (B : Nat) (A : Option Addr) (n : Nat) (ps : List Part) : Prop :=
  n = ps.length ∧ (∀ p ∈ ps, p.ok w B) ∧ Shows w B A (ps.map Part.v)
theorem Parts.at_ {w : World} {B : Nat} {A : Option Addr} {n : Nat} {ps : List Part} (h : Parts w B A n ps) {k : Nat} (hk : k < n) :
    ∃ b o, A = some ⟨b, o, none⟩ ∧ b < B ∧ w.cell? ⟨b, o + k, none⟩ = some (.slice (pth ps k).a (pth ps k).n (pth ps k).c) ∧ Bytes w B (pth ps k).a (pth ps k).n (pth ps k).xs := by
  obtain ⟨hn, hp, hs⟩ := h
  have hk' : k < ps.length := by omega
  have e2 : (ps.map Part.v)[k]? = some (.slice (pth ps k).a (pth ps k).n (pth ps k).c) := by rw [List.getElem?_map, pth_some hk']; rfl
  obtain ⟨b, o, hA, hb, hc⟩ := hs.at_ e2
  exact ⟨b, o, hA, hb, hc, hp _ (pth_mem hk')⟩
theorem flat_len_take (ps : List Part) (k : Nat) : (flat (ps.take k)).length ≤ (flat ps).length := by
  have : flat ps = flat (ps.take k) ++ flat (ps.drop k) := by unfold flat; rw [← List.flatMap_append, List.take_append_drop]
  rw [this, List.length_append]; omega
theorem Parts.below {w w' : World} {B : Nat} {A : Option Addr} {n : Nat} {ps : List Part} (h : Parts w B A n ps) (hb : Below B w w') : Parts w' B A n ps :=
  ⟨h.1, fun p hp => ⟨(h.2.1 p hp).1, (h.2.1 p hp).2.1, (h.2.1 p hp).2.2.below hb⟩, h.2.2.below hb⟩

def lenTo (ps : List Part) (k : Nat) : Nat := (flat (ps.take k)).length
theorem lenTo_succ {ps : List Part} {w : World} {B k : Nat} (h : k < ps.length) (hp : ∀ p ∈ ps, p.ok w B) : lenTo ps (k + 1) = lenTo ps k + (pth ps k).n := by
  unfold lenTo; rw [flat_take h, List.length_append, (hp _ (pth_mem h)).1]
theorem lenTo_le (ps : List Part) (k : Nat) : lenTo ps k ≤ (flat ps).length := flat_len_take ps k
theorem lenTo_all (ps : List Part) : lenTo ps ps.length = (flat ps).length := by unfold lenTo; rw [List.take_length]

end Go.Proofs.YtniheakafkakhabDoor
