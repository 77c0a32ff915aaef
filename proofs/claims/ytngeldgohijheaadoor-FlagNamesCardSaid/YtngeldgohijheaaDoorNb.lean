/- nlri.Bytes -/
import Derived.Test.YtngeldgohijheaaDoorRt
import Derived.Test.YtngeldgohijheaaDoorPfxC
import Derived.Test.YtngeldgohijheaaDoorPut
namespace Go.Proofs.YtngeldgohijheaaDoor
open Go.RowKit

set_option maxRecDepth 100000 in
theorem sl_slices : SliceOf Tryd.prog 60 22 1 24 := SliceOf.mk Tryd.underlying60 (z := .slice none 0 0) (by kernel_rfl) rfl (by decide)
theorem own_below {w w' : World} {base : Nat} {e : TypeId} {size n : Nat} {v : Value} {xs : List Value} (h : w.ownsRow base e size v n xs) (hb : Below w.heap.size w w') : w'.ownsRow base e size v n xs :=
  h.kept (row := none) ⟨hb.os, hb.tape, hb.output, hb.size, fun k hk _ => hb.block k hk⟩ (by cases hv : v.ownBlock <;> simp)

/-- A part whose bytes are a block of their own. -/
def PT (w : World) (p : Part) : Prop := p.n = p.xs.length ∧ (∀ x ∈ p.xs, 0 ≤ x ∧ x ≤ 255) ∧ ∃ g, p.a = some ⟨g, 0, none⟩ ∧ Own w g 5 (p.xs.map (Value.int .u8)).toArray
theorem PT.ok {w : World} {p : Part} (h : PT w p) : p.ok w w.heap.size := by
  obtain ⟨hn, hr, g, ha, ho⟩ := h
  unfold Part.ok
  rw [hn, ha]
  exact Bytes.of_owned ho hr ho.lt
theorem PT.step {w w' : World} {p : Part} (h : PT w p) (hb : Below w.heap.size w w') : PT w' p := by
  obtain ⟨hn, hr, g, ha, ho⟩ := h
  exact ⟨hn, hr, g, ha, ho.step hb⟩
theorem PT.grown {w w' : World} {p : Part} {base n : Nat} {v : Value} {xs : List Value} (h : PT w p) (hown : w.ownsRow base 22 1 v n xs) (hg : w.grownBy w' v.ownBlock) : PT w' p := by
  obtain ⟨hn, hr, g, ha, ho⟩ := h
  exact ⟨hn, hr, g, ha, ho.grown hg (fun e => own_blk hown ho (by decide) e.symm)⟩
theorem pt_parts {w : World} {base : Nat} {v : Value} {ps : List Part} (hown : w.ownsRow base 22 1 v ps.length (ps.map Part.v)) (hp : ∀ p ∈ ps, PT w p) :
    ∃ A c, v = .slice A ps.length c ∧ Parts w w.heap.size A ps.length ps := by
  obtain ⟨A, c, rfl, _, hs⟩ := own_val hown
  exact ⟨A, c, rfl, rfl, fun p h => (hp p h).ok, hs⟩
/-- What is so before an append of one more part: the parts so far. -/
def Pile (W w : World) (v : Value) (ps : List Part) : Prop := w.ownsRow W.heap.size 22 1 v ps.length (ps.map Part.v) ∧ (∀ p ∈ ps, PT w p) ∧ Below W.heap.size W w
theorem Pile.step {W w w' : World} {v : Value} {ps : List Part} (h : Pile W w v ps) (hb : Below w.heap.size w w') : Pile W w' v ps :=
  ⟨own_below h.1 hb, fun p hp => (h.2.1 p hp).step hb, bl_trans h.2.2 hb⟩
theorem Pile.more {W w w' : World} {v v' : Value} {ps : List Part} {q : Part} (h : Pile W w v ps) (hq : PT w q) {o : Obj} (hown : w'.ownsRow W.heap.size 22 1 v' (ps.length + 1) (ps.map Part.v ++ [q.v])) (hg : (w.alloc o).grownBy w' v.ownBlock) : Pile W w' v' (ps ++ [q]) := by
  have ha : Below w.heap.size w (w.alloc o) := bl_alloc (bl_refl w) o
  have h1 := h.step ha
  refine ⟨by simpa using hown, ?_, ?_⟩
  · intro p hp
    rcases List.mem_append.1 hp with hp | hp
    · exact (h1.2.1 p hp).grown h1.1 hg
    · rw [List.mem_singleton] at hp
      subst hp
      exact (hq.step ha).grown h1.1 hg
  · exact h1.2.2.grown hg h1.2.2.size (own_base h1.1)
theorem Pile.own {W w w' : World} {v : Value} {ps : List Part} {g : Nat} {t : TypeId} {cs : Array Value} (h : Pile W w v ps) (ho : Own w g t cs) (hne : 22 ≠ t) {o : Obj} (hg : (w.alloc o).grownBy w' v.ownBlock) : Own w' g t cs :=
  (ho.alloc o).grown hg (fun e => own_blk (h.step (bl_alloc (bl_refl w) o)).1 (ho.alloc o) hne e.symm)
theorem Routes.step {w w' : World} {W : World} {A : Option Addr} {n : Nat} {rs : List Rt} (h : Routes W W.heap.size A n rs) (_ : Below W.heap.size W w) (hb : Below W.heap.size W w') : Routes w' W.heap.size A n rs := h.below hb

/-- The form of a route. -/
def rtForm (add : Bool) (r : Rt) : List Int := (if add then digitsOf 4 r.p else []) ++ pfxForm r.l r.a
def formAll (add : Bool) (rs : List Rt) : List Int := rs.flatMap (rtForm add)
theorem formAll_take {add : Bool} {rs : List Rt} {j : Nat} (h : j < rs.length) : formAll add (rs.take (j + 1)) = formAll add (rs.take j) ++ rtForm add (nthR rs j) := by
  unfold formAll
  rw [take_nthR h, List.flatMap_append]; simp
theorem rtForm_len {add : Bool} {r : Rt} {f : Int} (h : pfxOk f r.l r.a = true) : (rtForm add r).length ≤ 21 := by
  have := pfxOk_range h
  unfold rtForm pfxForm
  have h4 := digitsOf_len 4 r.p
  have h5 : (sizeOfBits r.l).toNat ≤ 16 := by unfold sizeOfBits; omega
  cases add <;> simp [h4] <;> omega
theorem formAll_len {add : Bool} {f : Int} {rs : List Rt} (h : rs.all (rtOk f add) = true) : (formAll add rs).length ≤ 21 * rs.length := by
  induction rs with
  | nil => simp [formAll]
  | cons r rs ih =>
    rw [List.all_cons, Bool.and_eq_true] at h
    have h1 := ih h.2
    have h2 : (rtForm add r).length ≤ 21 := rtForm_len (f := r.f) (by have := h.1; simp only [rtOk, Bool.and_eq_true] at this; exact this.1.2)
    unfold formAll at *
    rw [List.flatMap_cons, List.length_append, List.length_cons]
    omega

end Go.Proofs.YtngeldgohijheaaDoor
