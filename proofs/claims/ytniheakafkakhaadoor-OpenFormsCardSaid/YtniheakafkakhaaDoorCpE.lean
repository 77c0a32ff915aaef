/- capability: rows of capabilities that a call has made -/
import Derived.Test.YtniheakafkakhaaDoorCpC
import Derived.Test.YtniheakafkakhaaDoorRdrB
namespace Go.Proofs.YtniheakafkakhaaDoor
open Go.RowKit

/-- A capability whose data lie in memory of the call's own. -/
def CD (w : World) (base : Nat) (s : Cp) : Prop := w.ownsRow base 5 1 (.slice s.A s.n s.c) s.n (s.xs.map (Value.int .u8)) ∧ s.n = s.xs.length ∧ ∀ x ∈ s.xs, 0 ≤ x ∧ x ≤ 255
def CRow (T : TypeId) (w : World) (base : Nat) (v : Value) (ss : List Cp) : Prop := w.ownsRow base T 2 v ss.length (cellsP ss) ∧ ∀ s ∈ ss, CD w base s
theorem CD.below {w w' : World} {base : Nat} {s : Cp} (h : CD w base s) (hb : Below w.heap.size w w') : CD w' base s := ⟨own_belowG h.1 hb, h.2⟩
theorem CD.lift {w : World} {base b : Nat} {s : Cp} (h : CD w base s) (hb : b ≤ base) : CD w b s := ⟨own_leG h.1 hb, h.2⟩
theorem CRow.below {T : TypeId} {w w' : World} {base : Nat} {v : Value} {ss : List Cp} (h : CRow T w base v ss) (hb : Below w.heap.size w w') : CRow T w' base v ss := ⟨own_belowG h.1 hb, fun s hs => (h.2 s hs).below hb⟩
theorem CRow.nil (T : TypeId) (w : World) (base : Nat) : CRow T w base (.slice none 0 0) [] := ⟨World.ownsRow_nil _ _ _ _, fun _ h => by cases h⟩
theorem CRow.rest {T : TypeId} {w w' : World} {base : Nat} {v : Value} {L : List Cp} {P : Nat → Prop} (h : CRow T w base v L) (k : Rest w w' P) (hp : ∀ j t, t = T ∨ t = 5 → base ≤ j → Typed w j t → ¬ P j) : CRow T w' base v L :=
  ⟨row_rest h.1 k (fun j hj => hp j _ (.inl rfl) (row_typed h.1 hj).2 (row_typed h.1 hj).1), fun s hs => ⟨row_rest (h.2 s hs).1 k (fun j hj => hp j _ (.inr rfl) (row_typed (h.2 s hs).1 hj).2 (row_typed (h.2 s hs).1 hj).1), (h.2 s hs).2⟩⟩
theorem CRow.push {T : TypeId} (hT : T ≠ 5) {w w' : World} {base : Nat} {v v' : Value} {ss : List Cp} {q : Cp} (h : CRow T w base v ss) (hq : CD w base q) (hown : w'.ownsRow base T 2 v' (ss.length + 1) (cellsP ss ++ [.int .i64 q.k, .slice q.A q.n q.c])) (hg : w.grownBy w' v.ownBlock) : CRow T w' base v' (ss ++ [q]) := by
  have key : ∀ s, CD w base s → CD w' base s := fun s hs => ⟨row_rest hs.1 (Rest.of_grown hg (P := fun j => v.ownBlock = some j) (fun j hj => hj)) (fun j hj e => ((row_typed h.1 e).1.ne (row_typed hs.1 hj).1 hT) rfl), hs.2⟩
  refine ⟨?_, fun s hs => ?_⟩
  · rw [cellsP_snoc, List.length_append, List.length_singleton]
    exact hown
  · rcases List.mem_append.1 hs with hs | hs
    · exact key s (h.2 s hs)
    · rw [List.mem_singleton] at hs
      subst hs
      exact key _ hq
theorem CRow.lift {T : TypeId} {w : World} {base b : Nat} {v : Value} {L : List Cp} (h : CRow T w base v L) (hb : b ≤ base) : CRow T w b v L := ⟨own_leG h.1 hb, fun s hs => (h.2 s hs).lift hb⟩
theorem CRow.form {T : TypeId} {w : World} {base : Nat} {v : Value} {L : List Cp} (h : CRow T w base v L) : ∃ A c, v = .slice A L.length c := own_form h.1
theorem row_capsC {w : World} {base : Nat} {e : TypeId} {size n c : Nat} {A : Option Addr} {xs : List Value} (h : w.ownsRow base e size (.slice A n c) n xs) : n ≤ c ∧ c ≤ maxLen := by
  rcases h.2 with ⟨h0, rfl⟩ | ⟨g, cap, cur, h0, _, _, h1, h2, _⟩
  · injection h0 with _ _ h0
    subst h0
    exact ⟨Nat.le_refl _, by unfold maxLen; omega⟩
  · injection h0 with _ _ h0
    subst h0
    exact ⟨h1, h2⟩
theorem CD.ok {w : World} {base : Nat} {s : Cp} (h : CD w base s) : s.Ok w w.heap.size := by
  obtain ⟨A, c, e, _, hs⟩ := own_val h.1
  injection e with e1 _ e2
  exact ⟨⟨h.2.1, h.2.2, by rw [e1]; exact hs⟩, (row_capsC h.1).1, (row_capsC h.1).2⟩
theorem CRow.caps {T : TypeId} {w : World} {base n c : Nat} {A : Option Addr} {ss : List Cp} (h : CRow T w base (.slice A n c) ss) : Caps w w.heap.size A ss.length ss := by
  obtain ⟨A', c', e⟩ := own_form h.1
  injection e with e1 e2 e3
  subst e1 e2 e3
  exact caps_of_row h.1 rfl (fun s hs => (h.2 s hs).ok)
theorem Own.rowC {w : World} {g base n : Nat} {xs : List Int} (h : Own w g 5 (xs.map (Value.int .u8)).toArray) (hn : xs.length = n) (hb : base ≤ g) (hm : n ≤ maxLen) : w.ownsRow base 5 1 (.slice (some ⟨g, 0, none⟩) n n) n (xs.map (Value.int .u8)) := Own.row h (by rw [List.length_map]; exact hn) hb hm
theorem RdrB.restC {B : Nat} {w w' : World} {g p : Nat} {xs : List Int} {P : Nat → Prop} (h : RdrB B w g xs p) (k : Rest w w' P) (hp : ∀ i, i < B ∨ i = g → ¬ P i) : RdrB B w' g xs p :=
  h.keep k.size (fun b hb => k.block b (by rcases hb with hx | rfl; exact Nat.lt_of_lt_of_le hx h.size; exact h.lt) (hp b hb))
theorem RdrB.typedC {B : Nat} {w : World} {g p : Nat} {xs : List Int} (h : RdrB B w g xs p) : Typed w g 141 := by
  obtain ⟨A, n, c, ho, _⟩ := h
  exact ho.typed
def lenOfC (v : Value) : Nat := match v with | .slice _ n _ => n | _ => 0
/-- What a read gives. -/
def GotC (O : Option (List (Int × List Int))) (q : Bool) (L : List Cp) : Prop := ((O = some (L.map cpK) ∧ q = true) ∨ (O = none ∧ q = false ∧ L = [])) ∧ L.length ≤ 20000 ∧ ∀ s ∈ L, s.n ≤ 1000
theorem cp_types : (83 : TypeId) ≠ 5 ∧ (89 : TypeId) ≠ 5 ∧ (83 : TypeId) ≠ 141 ∧ (5 : TypeId) ≠ 141 := by decide
end Go.Proofs.YtniheakafkakhaaDoor
