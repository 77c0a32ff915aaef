/- A block known whole. -/
import Derived.Test.YtmcnpkfeipelgaaGreatDoorWords
namespace Go.Proofs.YtmcnpkfeipelgaaGreatDoor
open Go.RowKit

/-- Block g holds just these cells, of element type t, none frozen. -/
def Own (w : World) (g : Nat) (t : TypeId) (cs : Array Value) : Prop := w.heap[g]? = some (.cells cs t (0, 0))
section
variable {w w' : World} {g : Nat} {t : TypeId} {cs : Array Value}
theorem Own.lt (h : Own w g t cs) : g < w.heap.size := (Array.getElem?_eq_some_iff.1 h).1
theorem Own.cell (h : Own w g t cs) {i : Nat} {v : Value} (hi : cs[i]? = some v) : w.cell? ⟨g, i, none⟩ = some v := (cell_of_row w g i cs t (0, 0) h).trans hi
theorem Own.frozen (h : Own w g t cs) (i : Nat) : w.frozen? ⟨g, i, none⟩ = false := by unfold Own at h; simp [World.frozen?, h]
theorem Own.new (w : World) (t : TypeId) (cs : Array Value) : Own (w.alloc (.cells cs t)) w.heap.size t cs := heap_alloc_new w _
theorem Own.keep (h : Own w g t cs) (hk : w'.heap[g]? = w.heap[g]?) : Own w' g t cs := hk.trans h
theorem Own.drew (h : Own w g t cs) : Own w.drew g t cs := h
theorem Own.drewN (h : Own w g t cs) (n : Nat) : Own (w.drewN n) g t cs := h
theorem Own.alloc (h : Own w g t cs) (o : Obj) : Own (w.alloc o) g t cs := h.keep (Below.heap_alloc w o g h.lt)
theorem Own.set_ (h : Own w g t cs) (i : Nat) (u : Value) : Own (w.setCell ⟨g, i, none⟩ u) g t (cs.setIfInBounds i u) := by
  unfold Own at h ⊢
  simp [World.setCell, Array.getElem?_modify, h]
theorem Own.far (h : Own w g t cs) {p : Addr} (hp : g ≠ p.block) (u : Value) : Own (w.setCell p u) g t cs := h.keep (Below.heap_setCell w p u g hp)
theorem Own.below {B : Nat} (h : Own w g t cs) (hb : Below B w w') (hg : g < B) : Own w' g t cs := h.keep (hb.block g hg)
theorem Own.grown {row : Option Nat} (h : Own w g t cs) (hb : w.grownBy w' row) (hg : some g ≠ row) : Own w' g t cs := h.keep (hb.block g h.lt hg)
theorem Own.of_full {base : Nat} {n : Nat} {xs : List Value} (h : w.ownsRow base t 1 (.slice (some ⟨g, 0, none⟩) n n) n xs) : Own w g t xs.toArray := by
  rcases h.2 with ⟨h', _⟩ | ⟨g', cap, cur, h', _, hg, _, _, hs, htake⟩
  · cases h'
  · injection h' with h1 _ h3
    injection h1 with h1
    injection h1 with h1 _ _
    subst h1 h3
    unfold Own
    rw [hg]
    have : cur.toList = xs := by rw [← htake, List.take_of_length_le (by rw [Array.length_toList, hs]; exact Nat.le_refl _)]
    rw [← this]
end
/-- Only block g may have changed, and what is new. -/
theorem only_setCell {a w : World} {g : Nat} (h : a.grownBy w (some g)) {p : Addr} (hp : p.block = g) (u : Value) : a.grownBy (w.setCell p u) (some g) :=
  ⟨h.os, h.tape, h.output, by simpa [World.setCell] using h.size, fun i hi hne => (Below.heap_setCell w p u i (by rintro rfl; exact hne (by rw [hp]))).trans (h.block i hi hne)⟩
theorem only_drew {a w : World} {row : Option Nat} (h : a.grownBy w row) : a.grownBy w.drew row := ⟨h.os, h.tape, h.output, h.size, h.block⟩
theorem only_drewN {a w : World} {row : Option Nat} (h : a.grownBy w row) (n : Nat) : a.grownBy (w.drewN n) row := ⟨h.os, h.tape, h.output, h.size, h.block⟩
theorem only_below {a w w' : World} {row : Option Nat} (h : a.grownBy w row) (hb : Below w.heap.size w w') : a.grownBy w' row :=
  ⟨hb.os.trans h.os, hb.tape.trans h.tape, hb.output.trans h.output, Nat.le_trans h.size hb.size, fun k hk hne => (hb.block k (Nat.lt_of_lt_of_le hk h.size)).trans (h.block k hk hne)⟩
theorem only_trans {a b c : World} {row : Option Nat} (h : a.grownBy b row) (k : b.grownBy c row) : a.grownBy c row :=
  ⟨k.os.trans h.os, k.tape.trans h.tape, k.output.trans h.output, Nat.le_trans h.size k.size, fun i hi hne => (k.block i (Nat.lt_of_lt_of_le hi h.size) hne).trans (h.block i hi hne)⟩
theorem only_of_below {a w : World} (h : Below a.heap.size a w) (row : Option Nat) : a.grownBy w row := ⟨h.os, h.tape, h.output, h.size, fun i hi _ => h.block i hi⟩
theorem below_of_only {a w w' : World} {B g : Nat} (h : Below B a w) (k : w.grownBy w' (some g)) (hB : B ≤ w.heap.size) (hg : B ≤ g) : Below B a w' :=
  h.grown k hB (fun j hj => by cases hj; exact hg)

theorem bl_trans {W a b : World} (h : Below W.heap.size W a) (k : Below a.heap.size a b) : Below W.heap.size W b := h.trans (k.mono h.size)
theorem bl_drewN {W a : World} (h : Below W.heap.size W a) (n : Nat) : Below W.heap.size W (a.drewN n) := ⟨h.os, h.tape, h.output, h.size, h.block⟩
theorem bl_only {W a b : World} {g : Nat} (h : Below W.heap.size W a) (k : a.grownBy b (some g)) (hg : W.heap.size ≤ g) : Below W.heap.size W b := h.grown k h.size (fun j hj => by cases hj; exact hg)
theorem bl_alloc {W a : World} (h : Below W.heap.size W a) (o : Obj) : Below W.heap.size W (a.alloc o) := h.alloc h.size o
theorem bl_refl (W : World) : Below W.heap.size W W := Below.refl _ _

theorem Shows.cut {w : World} {B : Nat} {A : Option Addr} {xs : List Value} (h : Shows w B A xs) {k cap : Nat} (hc : xs.length ≤ cap) :
    Shows w B (if cap = k then A else A.map (·.add k)) (xs.drop k) := by
  rcases h with rfl | ⟨b, o, rfl, hb, hcell⟩
  · left; simp
  · by_cases hk : cap = k
    · left; rw [List.drop_eq_nil_iff]; omega
    · right
      refine ⟨b, o + k, by rw [if_neg hk]; simp [Addr.add_lit], hb, fun i v hv => ?_⟩
      rw [List.getElem?_drop] at hv
      rw [Nat.add_assoc]; exact hcell _ _ hv
theorem Shows.front {w : World} {B : Nat} {A : Option Addr} {xs : List Value} (h : Shows w B A xs) (k : Nat) : Shows w B A (xs.take k) := by
  rcases h with rfl | ⟨b, o, rfl, hb, hcell⟩
  · left; simp
  · refine .inr ⟨b, o, rfl, hb, fun i v hv => hcell i v ?_⟩
    rw [List.getElem?_take] at hv
    split at hv
    · exact hv
    · cases hv
theorem Bytes.front {w : World} {B : Nat} {A : Option Addr} {n : Nat} {xs : List Int} (h : Bytes w B A n xs) {k : Nat} (hk : k ≤ n) : Bytes w B A k (xs.take k) :=
  ⟨by have := h.1; simp; omega, fun x hx => h.2.1 x (List.mem_of_mem_take hx), by rw [List.map_take]; exact h.2.2.front k⟩
theorem Bytes.cut {w : World} {B : Nat} {A : Option Addr} {n : Nat} {xs : List Int} (h : Bytes w B A n xs) {k cap : Nat} (hk : k ≤ n) (hc : n ≤ cap) : Bytes w B (if cap = k then A else A.map (·.add k)) (n - k) (xs.drop k) :=
  ⟨by have := h.1; simp; omega, fun x hx => h.2.1 x (List.mem_of_mem_drop hx), by rw [List.map_drop]; exact h.2.2.cut (by simp; have := h.1; omega)⟩
theorem Bytes.keep {w w' : World} {B : Nat} {A : Option Addr} {n : Nat} {xs : List Int} (h : Bytes w B A n xs) (hk : ∀ b o, b < B → w'.cell? ⟨b, o, none⟩ = w.cell? ⟨b, o, none⟩) : Bytes w' B A n xs := ⟨h.1, h.2.1, h.2.2.keep hk⟩
theorem Bytes.below {w w' : World} {B : Nat} {A : Option Addr} {n : Nat} {xs : List Int} (h : Bytes w B A n xs) (hb : Below B w w') : Bytes w' B A n xs := ⟨h.1, h.2.1, h.2.2.below hb⟩
theorem Bytes.more {w : World} {B B' : Nat} {A : Option Addr} {n : Nat} {xs : List Int} (h : Bytes w B A n xs) (hB : B ≤ B') : Bytes w B' A n xs := ⟨h.1, h.2.1, h.2.2.more hB⟩
theorem Bytes.nil (w : World) (B : Nat) (A : Option Addr) : Bytes w B A 0 [] := ⟨rfl, by simp, .inl rfl⟩
theorem Shows.of_owned {w : World} {g : Nat} {t : TypeId} {xs : List Value} (h : Own w g t xs.toArray) {B : Nat} (hB : g < B) : Shows w B (some ⟨g, 0, none⟩) xs :=
  .inr ⟨g, 0, rfl, hB, fun i v hv => by rw [Nat.zero_add]; exact h.cell (by simpa using hv)⟩
theorem Bytes.of_owned {w : World} {g : Nat} {t : TypeId} {xs : List Int} (h : Own w g t (xs.map (Value.int .u8)).toArray) (hr : ∀ x ∈ xs, 0 ≤ x ∧ x ≤ 255) {B : Nat} (hB : g < B) : Bytes w B (some ⟨g, 0, none⟩) xs.length xs :=
  ⟨rfl, hr, Shows.of_owned h hB⟩
end Go.Proofs.YtmcnpkfeipelgaaGreatDoor
