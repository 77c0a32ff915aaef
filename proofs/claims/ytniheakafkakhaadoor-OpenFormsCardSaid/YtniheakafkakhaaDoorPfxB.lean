/- prefix.size, prefix.Bytes -/
import Derived.Test.YtniheakafkakhaaDoorPfxW
namespace Go.Proofs.YtniheakafkakhaaDoor
open Go.RowKit

section
variable {w W W' : World} {g : Nat} {T : TypeId} {f l : Int} {a : List Int}
theorem pfxS_own (h : W.cell? ⟨g, 0, none⟩ = some (.int .i64 f) ∧ W.cell? ⟨g, 1, none⟩ = some (.int .i64 l) ∧ W.rangeAt g 2 (a.map (Value.int .u8)) ∧ Own W g T (pfx f l a) ∧ Below w.heap.size w W) : Own W g T (pfx f l a) := h.2.2.2.1
theorem pfxS_alloc (h : W.cell? ⟨g, 0, none⟩ = some (.int .i64 f) ∧ W.cell? ⟨g, 1, none⟩ = some (.int .i64 l) ∧ W.rangeAt g 2 (a.map (Value.int .u8)) ∧ Own W g T (pfx f l a) ∧ Below w.heap.size w W) (o : Obj) :
    (W.alloc o).cell? ⟨g, 0, none⟩ = some (.int .i64 f) ∧ (W.alloc o).cell? ⟨g, 1, none⟩ = some (.int .i64 l) ∧ (W.alloc o).rangeAt g 2 (a.map (Value.int .u8)) ∧ Own (W.alloc o) g T (pfx f l a) ∧ Below w.heap.size w (W.alloc o) :=
  pfxS (h.2.2.2.1.alloc o) (bl_alloc h.2.2.2.2 o)
theorem pfxS_below (h : W.cell? ⟨g, 0, none⟩ = some (.int .i64 f) ∧ W.cell? ⟨g, 1, none⟩ = some (.int .i64 l) ∧ W.rangeAt g 2 (a.map (Value.int .u8)) ∧ Own W g T (pfx f l a) ∧ Below w.heap.size w W) (hb : Below W.heap.size W W') :
    W'.cell? ⟨g, 0, none⟩ = some (.int .i64 f) ∧ W'.cell? ⟨g, 1, none⟩ = some (.int .i64 l) ∧ W'.rangeAt g 2 (a.map (Value.int .u8)) ∧ Own W' g T (pfx f l a) ∧ Below w.heap.size w W' :=
  pfxS (h.2.2.2.1.step hb) (bl_trans h.2.2.2.2 hb)
end

theorem parts_two {W : World} {j : Nat} {T : TypeId} {A1 A2 : Option Addr} {n1 n2 c1 c2 : Nat} {xs1 xs2 : List Int} (ho : Own W j T #[.slice A1 n1 c1, .slice A2 n2 c2]) (h1 : Bytes W W.heap.size A1 n1 xs1) (h2 : Bytes W W.heap.size A2 n2 xs2) :
    Parts W W.heap.size (some ⟨j, 0, none⟩) 2 [⟨A1, n1, c1, xs1⟩, ⟨A2, n2, c2, xs2⟩] := by
  refine ⟨rfl, fun p hp => ?_, Shows.of_owned ho ho.lt⟩
  simp at hp
  rcases hp with rfl | rfl
  · exact h1
  · exact h2
set_option maxRecDepth 100000 in
/-- Cat of some parts: bytes in new memory. -/
theorem cat_own {A : Option Addr} {n c : Nat} {ps : List Part} {w : World} (hx : Parts w w.heap.size A n ps) (hn : n ≤ 1000000000) (hl : (flat ps).length ≤ 1000000000) :
    Calls Tryd.prog 53 #[.slice A n c] w fun e w' => e = .returned (.slice (some ⟨w.heap.size, 0, none⟩) (flat ps).length (flat ps).length) ∧ Own w' w.heap.size 5 ((flat ps).map (Value.int .u8)).toArray ∧ Below w.heap.size w w' := by
  refine (cat_any A n c ps w hx hn hl).mono ?_
  rintro e w' ⟨rfl, hown, hb⟩
  exact ⟨rfl, Own.of_full hown, hb⟩
set_option maxRecDepth 100000 in
theorem cat_bytes {A : Option Addr} {n c : Nat} {ps : List Part} {W : World} (hx : Parts W W.heap.size A n ps) (hn : n ≤ 1000000000) (hl : (flat ps).length ≤ 1000000000) :
    Calls Tryd.prog 53 #[.slice A n c] W fun e w' => ∃ B d, e = .returned (.slice B (flat ps).length d) ∧ Bytes w' w'.heap.size B (flat ps).length (flat ps) ∧ Below W.heap.size W w' := by
  refine (cat_any A n c ps W hx hn hl).mono ?_
  rintro e w' ⟨rfl, hown, hb⟩
  have ho := Own.of_full hown
  refine ⟨_, _, rfl, Bytes.of_owned ho ?_ ho.lt, hb⟩
  intro y hy
  obtain ⟨p, hp, hyp⟩ := List.mem_flatMap.1 hy
  exact (hx.2.1 p hp).2.1 y hyp
theorem addr_bytes {W : World} {g : Nat} {T : TypeId} {f l : Int} {a : List Int} (ha : IsAddr a) (ho : Own W g T (pfx f l a)) {k : Nat} (hk : k ≤ 16) : Bytes W W.heap.size (some ⟨g, 2, none⟩) k (a.take k) := by
  refine ⟨by rw [List.length_take, ha.1]; omega, fun x hx => ha.2 x (List.mem_of_mem_take hx), .inr ⟨g, 2, rfl, ho.lt, fun i v hv => ?_⟩⟩
  rw [List.getElem?_map] at hv
  obtain ⟨x, hx, rfl⟩ := Option.map_eq_some_iff.1 hv
  rw [List.getElem?_take] at hx
  split at hx
  · exact pfx_range ho i _ (by rw [List.getElem?_map, hx]; rfl)
  · cases hx

/-- The bytes that so many bits need. -/
def sizeOfBits (l : Int) : Int := (l + 7) / 8
/-- The form of a prefix. -/
def pfxForm (l : Int) (a : List Int) : List Int := l :: a.take (sizeOfBits l).toNat

theorem pfxForm_range {l : Int} {a : List Int} (ha : IsAddr a) (h0 : 0 ≤ l) (h1 : l ≤ 128) : ∀ x ∈ pfxForm l a, 0 ≤ x ∧ x ≤ 255 := by
  intro x hx
  rcases List.mem_cons.1 hx with rfl | hx
  · omega
  · exact ha.2 x (List.mem_of_mem_take hx)
theorem pfxOk_range {f l : Int} {a : List Int} (hk : pfxOk f l a = true) : 0 ≤ l ∧ l ≤ 128 := by
  simp only [pfxOk, lenOk, Bool.and_eq_true, decide_eq_true_eq] at hk
  have hw : widthOf f ≤ 128 := by unfold widthOf; split <;> (try split) <;> omega
  omega
end Go.Proofs.YtniheakafkakhaaDoor
