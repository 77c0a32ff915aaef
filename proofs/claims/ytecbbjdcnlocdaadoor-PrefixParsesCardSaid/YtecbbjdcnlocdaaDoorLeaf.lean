/- A cell of a struct or an array that came in, read by the type of its leaf; slices of structs; slices of slices of bytes. -/
import Derived.Test.YtecbbjdcnlocdaaDoorOpen
import Derived.Test.YtecbbjdcnlocdaaDoorCat
import Derived.Test.YtecbbjdcnlocdaaDoorTot
import Derived.Deep.Slices
namespace Go.Proofs.YtecbbjdcnlocdaaDoor
open Go.ChangeShapes Go.WideShapes Go.ChangeAt Go.RowKit Go.Deep

/-- The type of cell i of a value of type t. -/
def leafAt (P : Program) : Nat → TypeId → Nat → Option TypeId
  | 0, _, _ => none
  | n + 1, t, i => match P.underlying t with
    | some (.struct fs) => (fs.toList.find? fun f => decide (f.offset ≤ i ∧ i < f.offset + P.cellsOf f.type)).bind fun f => leafAt P n f.type (i - f.offset)
    | some (.array k e) => if i / P.cellsOf e < k ∧ i % P.cellsOf e < P.cellsOf e then leafAt P n e (i % P.cellsOf e) else none
    | some (.int _) => if i = 0 then some t else none
    | some .bool => if i = 0 then some t else none
    | some .string => if i = 0 then some t else none
    | some (.slice _) => if i = 0 then some t else none
    | _ => none

theorem one_of {cs : List Value} {o s i : Nat} (h1 : o ≤ i) (h2 : i < o + s) : ((((cs.drop o).take s).drop (i - o)).take 1) = (cs.drop i).take 1 := by
  rw [List.drop_take, List.drop_drop, List.take_take, show min 1 (s - (i - o)) = 1 by omega, show o + (i - o) = i by omega]

section
variable {H : Type} {enc : TypeId × Value → H} {P : Program} {w : World} {base : Nat} {spare : Nat → Bool} {held : Bool}
theorem trod_leaf : ∀ (n : Nat) {t : TypeId} {i : Nat} {l : TypeId}, leafAt P n t i = some l → ∀ {fuel : Nat} {cs : List Value} {x : DataW H × List MemPlace}, DataW.trod enc P w base spare held fuel t cs = some x →
    ∃ fuel' y, DataW.trod enc P w base spare held fuel' l ((cs.drop i).take 1) = some y := by
  intro n
  induction n with
  | zero => intro t i l h; simp [leafAt] at h
  | succ n ih =>
    intro t i l h fuel cs x hx
    unfold leafAt at h
    split at h
    · rename_i fs ht
      obtain ⟨f, hf, hlf⟩ := Option.bind_eq_some_iff.1 h
      have hmem := List.mem_of_find?_eq_some hf
      have hp := List.find?_some hf
      simp only [decide_eq_true_eq] at hp
      obtain ⟨xs, m, _, _, hcl, hxl, hg⟩ := DataW.trod_struct ht hx
      obtain ⟨j, hj⟩ := List.getElem?_of_mem hmem
      have hj' : fs[j]? = some f := by rw [← Array.getElem?_toList]; exact hj
      have hjl : j < xs.length := by rw [hxl]; exact (Array.getElem?_eq_some_iff.1 hj').1
      have h1 := hg j f hj'
      rw [List.getElem?_eq_getElem hjl] at h1
      obtain ⟨fuel', y, hy⟩ := ih hlf h1
      rw [one_of hp.1 hp.2] at hy
      exact ⟨fuel', y, hy⟩
    · rename_i k e ht
      split at h
      · rename_i hc
        obtain ⟨xs, m, _, _, hcl, hxl, hg⟩ := DataW.trod_array ht hx
        have h1 := hg (i / P.cellsOf e) hc.1
        rw [List.getElem?_eq_getElem (by rw [hxl]; exact hc.1)] at h1
        obtain ⟨fuel', y, hy⟩ := ih h h1
        have e1 : i % P.cellsOf e = i - i / P.cellsOf e * P.cellsOf e := by rw [Nat.mul_comm]; have := Nat.div_add_mod i (P.cellsOf e); omega
        have e2 : i / P.cellsOf e * P.cellsOf e ≤ i := Nat.div_mul_le_self _ _
        rw [e1, one_of e2 (by have := hc.2; omega)] at hy
        exact ⟨fuel', y, hy⟩
      · cases h
    · rename_i k ht
      split at h
      · rename_i h0
        obtain rfl := Option.some.inj h
        obtain ⟨z, hz, _⟩ := DataW.trod_int ht hx
        subst h0 hz
        exact ⟨fuel, x, hx⟩
      · cases h
    · rename_i ht
      split at h
      · rename_i h0
        obtain rfl := Option.some.inj h
        obtain ⟨z, hz, _⟩ := DataW.trod_bool ht hx
        subst h0 hz
        exact ⟨fuel, x, hx⟩
      · cases h
    · rename_i ht
      split at h
      · rename_i h0
        obtain rfl := Option.some.inj h
        obtain ⟨z, hz, _⟩ := DataW.trod_string ht hx
        subst h0 hz
        exact ⟨fuel, x, hx⟩
      · cases h
    · rename_i e ht
      split at h
      · rename_i h0
        obtain rfl := Option.some.inj h
        subst h0
        rcases DataW.trod_slice ht hx with ⟨rfl, _⟩ | ⟨a, len, cap, elems, rest, m, _, rfl, _⟩ <;> exact ⟨fuel, x, hx⟩
      · cases h
    · cases h

theorem leaf_int {n : Nat} {t : TypeId} {i : Nat} {l : TypeId} {k : IntKind} (hl : leafAt P n t i = some l) (hk : P.underlying l = some (.int k)) {fuel : Nat} {cs : List Value} {x : DataW H × List MemPlace} (hx : DataW.trod enc P w base spare held fuel t cs = some x) :
    ∃ z, cs[i]? = some (.int k z) ∧ (Lit.int k z).wf = true := by
  obtain ⟨f, y, hy⟩ := trod_leaf n hl hx
  obtain ⟨z, hz, _, hw⟩ := DataW.trod_int hk hy
  refine ⟨z, ?_, hw⟩
  have h := congrArg (fun l => l[0]?) hz
  simpa [List.getElem?_take, List.getElem?_drop] using h
theorem leaf_bool {n : Nat} {t : TypeId} {i : Nat} {l : TypeId} (hl : leafAt P n t i = some l) (hk : P.underlying l = some .bool) {fuel : Nat} {cs : List Value} {x : DataW H × List MemPlace} (hx : DataW.trod enc P w base spare held fuel t cs = some x) :
    ∃ z, cs[i]? = some (.bool z) := by
  obtain ⟨f, y, hy⟩ := trod_leaf n hl hx
  obtain ⟨z, hz, _⟩ := DataW.trod_bool hk hy
  refine ⟨z, ?_⟩
  have h := congrArg (fun l => l[0]?) hz
  simpa [List.getElem?_take, List.getElem?_drop] using h
theorem leaf_any {n : Nat} {t : TypeId} {i : Nat} {l : TypeId} {v : Value} (hl : leafAt P n t i = some l) {fuel : Nat} {cs : List Value} {x : DataW H × List MemPlace} (hx : DataW.trod enc P w base spare held fuel t cs = some x) (hv : cs[i]? = some v) :
    ∃ fuel' y, DataW.trod enc P w base spare held fuel' l [v] = some y := by
  obtain ⟨f, y, hy⟩ := trod_leaf n hl hx
  have hi := (List.getElem?_eq_some_iff.1 hv).1
  have e : (cs.drop i).take 1 = [v] := by
    rw [List.drop_eq_getElem_cons hi]
    simp [(List.getElem?_eq_some_iff.1 hv).2]
  rw [e] at hy
  exact ⟨f, y, hy⟩

/-- A list of choices. -/
theorem list_of {α : Type} [Inhabited α] {n : Nat} {p : Nat → α → Prop} (h : ∀ i, i < n → ∃ a, p i a) : ∃ l : List α, l.length = n ∧ ∀ i a, l[i]? = some a → p i a := by
  have h' : ∀ i, ∃ a, i < n → p i a := fun i => by
    by_cases hi : i < n
    · obtain ⟨a, ha⟩ := h i hi
      exact ⟨a, fun _ => ha⟩
    · exact ⟨default, fun hh => absurd hh hi⟩
  obtain ⟨f, hf⟩ := Classical.axiomOfChoice h'
  refine ⟨(List.range n).map f, by simp, fun i a ha => ?_⟩
  rw [List.getElem?_map] at ha
  obtain ⟨j, hj, rfl⟩ := Option.map_eq_some_iff.1 ha
  obtain ⟨hjn, hj2⟩ := List.getElem?_eq_some_iff.1 hj
  simp at hj2 hjn
  subst hj2
  exact hf _ hjn

theorem open_pairs {t e : TypeId} {lt : TypeId} {b0 : Nat} {r : Reach} {v : Value} {d : DataW H} {p : List MemPlace} (ht : P.underlying t = some (.slice e)) (hc : P.cellsOf e = 2) (hi : P.underlying lt = some (.int .i64))
    (h0 : leafAt P 3 e 0 = some lt) (h1 : leafAt P 3 e 1 = some lt) (hv : Value.okWide P w r b0 t v) (h : DataW.Trod enc P w 0 spare held t v d p) :
    ∃ A n c l, v = .slice A n c ∧ n ≤ c ∧ c ≤ maxLen ∧ Pairs w w.heap.size A n l ∧ ∀ x ∈ l, (Lit.int .i64 x.1).wf = true ∧ (Lit.int .i64 x.2).wf = true := by
  obtain ⟨A, n, c, rfl⟩ := okWide_slice ht hv
  obtain ⟨fuel, hf⟩ := h
  rcases open_slice ht hf with ⟨hcs, _⟩ | ⟨a, len, cap, m, n', D, Pl, hcs, _, hl, hm, hmm, _, hx⟩
  · simp [Value.cells] at hcs
    obtain ⟨rfl, rfl, rfl⟩ := hcs
    exact ⟨none, 0, 0, [], rfl, Nat.le_refl _, by unfold maxLen; omega, ⟨rfl, .inl rfl⟩, by simp⟩
  · simp [Value.cells] at hcs
    obtain ⟨rfl, rfl, rfl⟩ := hcs
    rw [hc] at hx
    have hmn : n ≤ m := by rw [hmm]; split <;> omega
    obtain ⟨l, hll, hlp⟩ := list_of (n := n) (p := fun i (z : Int × Int) => w.cell? (a.add (i * 2)) = some (.int .i64 z.1) ∧ w.cell? (a.add (i * 2 + 1)) = some (.int .i64 z.2) ∧ (Lit.int .i64 z.1).wf = true ∧ (Lit.int .i64 z.2).wf = true) (fun i hin => by
      obtain ⟨cs', hcells, htr⟩ := hx i (by omega)
      obtain ⟨_, _, hat⟩ := World.cells?_some hcells
      obtain ⟨x, hx0, hw0⟩ := leaf_int h0 hi htr
      obtain ⟨y, hy0, hw1⟩ := leaf_int h1 hi htr
      have g0 := (hat 0 (by omega)).trans hx0
      have g1 := (hat 1 (by omega)).trans hy0
      rw [Go.Deep.add_add] at g0 g1
      exact ⟨(x, y), by simpa using g0, g1, hw0, hw1⟩)
    refine ⟨some a, n, c, l, rfl, hl, hm, ⟨hll.symm, ?_⟩, fun x hx => ?_⟩
    · rcases l with _ | ⟨z, l⟩
      · exact .inl rfl
      · right
        have hz := (hlp 0 z rfl).1
        have hsp := World.cell?_spot hz
        have hlt := World.block_lt_of_cell? w _ hz
        obtain ⟨b, o, s⟩ := a
        have hs' : s = none := by simpa [Addr.add] using hsp
        subst hs'
        refine ⟨b, o, rfl, by simpa [Addr.add] using hlt, fun i x y hi => ?_⟩
        have := hlp i (x, y) hi
        rw [Addr.add_lit, Addr.add_lit] at this
        exact ⟨this.1, this.2.1⟩
    · obtain ⟨i, hi⟩ := List.getElem?_of_mem hx
      exact (hlp i x hi).2.2

instance : Inhabited Part := ⟨⟨none, 0, 0, []⟩⟩
theorem bytes_of_trod {t e : TypeId} {v : Value} {fuel : Nat} {y : DataW H × List MemPlace} (ht : P.underlying t = some (.slice e)) (he : P.underlying e = some (.int .u8)) (hc : P.cellsOf e = 1)
    (h : DataW.trod enc P w 0 spare held fuel t [v] = some y) (hsp : ∀ b, spare b = true) : ∃ A n c xs, v = .slice A n c ∧ n ≤ c ∧ c ≤ maxLen ∧ Bytes w w.heap.size A n xs := by
  rcases open_ints ht he hc h with ⟨hcs, _⟩ | ⟨a, len, cap, zs, hcs, _, hl, hm, hz, _, hcell, hwf⟩
  · simp at hcs
    subst hcs
    exact ⟨none, 0, 0, [], rfl, Nat.le_refl _, by unfold maxLen; omega, Bytes.nil _ _ _⟩
  · simp at hcs
    subst hcs
    rw [hsp, if_pos rfl] at hz
    refine ⟨_, _, _, zs.take len, rfl, hl, hm, by simp; omega, fun x hx => wf_u8 (hwf x (List.mem_of_mem_take hx)), ?_⟩
    refine shows_of_add fun i v hv => ?_
    rw [List.getElem?_map] at hv
    obtain ⟨x, hx, rfl⟩ := Option.map_eq_some_iff.1 hv
    rw [List.getElem?_take] at hx
    split at hx
    · have hi : i < zs.length := (List.getElem?_eq_some_iff.1 hx).1
      rw [hcell i hi]
      simp [List.getD, hx]
    · cases hx
theorem open_parts {t e q : TypeId} {b0 : Nat} {r : Reach} {v : Value} {d : DataW H} {p : List MemPlace} (ht : P.underlying t = some (.slice e)) (he : P.underlying e = some (.slice q)) (hq : P.underlying q = some (.int .u8)) (hce : P.cellsOf e = 1) (hc : P.cellsOf q = 1)
    (hv : Value.okWide P w r b0 t v) (h : DataW.Trod enc P w 0 spare held t v d p) (hsp : ∀ b, spare b = true) :
    ∃ A n c ps, v = .slice A n c ∧ n ≤ c ∧ c ≤ maxLen ∧ Parts w w.heap.size A n ps ∧ ∀ p ∈ ps, p.n ≤ p.c ∧ p.c ≤ maxLen := by
  obtain ⟨A, n, c, rfl⟩ := okWide_slice ht hv
  obtain ⟨fuel, hf⟩ := h
  rcases open_slice1 ht hce hf with ⟨hcs, _⟩ | ⟨a, len, cap, m, n', V, D, Pl, hcs, _, hl, hm, hmm, _, hx⟩
  · simp [Value.cells] at hcs
    obtain ⟨rfl, rfl, rfl⟩ := hcs
    exact ⟨none, 0, 0, [], rfl, Nat.le_refl _, by unfold maxLen; omega, ⟨rfl, by simp, .inl rfl⟩, by simp⟩
  · simp [Value.cells] at hcs
    obtain ⟨rfl, rfl, rfl⟩ := hcs
    have hmn : n ≤ m := by rw [hmm]; split <;> omega
    obtain ⟨l, hll, hlp⟩ := list_of (n := n) (p := fun i (z : Part) => w.cell? (a.add i) = some z.v ∧ z.n ≤ z.c ∧ z.c ≤ maxLen ∧ z.ok w w.heap.size) (fun i hin => by
      obtain ⟨hcell, htr⟩ := hx i (by omega)
      obtain ⟨A, n, c, xs, hv, h1, h2, h3⟩ := bytes_of_trod he hq hc htr hsp
      exact ⟨⟨A, n, c, xs⟩, by rw [hcell, hv]; rfl, h1, h2, h3⟩)
    refine ⟨some a, n, c, l, rfl, hl, hm, ⟨hll.symm, fun p hp => ?_, shows_of_add fun i v hv => ?_⟩, fun p hp => ?_⟩
    · obtain ⟨i, hi⟩ := List.getElem?_of_mem hp
      exact (hlp i p hi).2.2.2
    · rw [List.getElem?_map] at hv
      obtain ⟨x, hx, rfl⟩ := Option.map_eq_some_iff.1 hv
      exact (hlp i x hx).1
    · obtain ⟨i, hi⟩ := List.getElem?_of_mem hp
      exact ⟨(hlp i p hi).2.1, (hlp i p hi).2.2.1⟩
end
end Go.Proofs.YtecbbjdcnlocdaaDoor
