/- XVsM1: XOpen, XLeaf, XSg, XFew, XSgA, XSgB, XRdrB, XPfxR, XRt, XNb, XSgC in one text -/
import Derived.Test.YtmcnpkfeipelgaaGreatDoorOwn
import Derived.ProofKit
import Derived.OpenShut
import Derived.ChangeOld
import Derived.Test.YtmcnpkfeipelgaaGreatDoorCat
import Derived.Test.YtmcnpkfeipelgaaGreatDoorTot
import Derived.Deep.Slices
import Derived.Test.YtmcnpkfeipelgaaGreatDoorAt
import Derived.Test.YtmcnpkfeipelgaaGreatDoorEq
import Derived.Test.YtmcnpkfeipelgaaGreatDoorNum
import Derived.Test.YtmcnpkfeipelgaaGreatDoorPfxM
import Derived.Test.YtmcnpkfeipelgaaGreatDoorPfxC
import Derived.Test.YtmcnpkfeipelgaaGreatDoorPut
/- Arguments opened to the words of the walks. -/
namespace Go.Proofs.YtmcnpkfeipelgaaGreatDoor
open Go.ChangeShapes Go.WideShapes Go.ChangeAt Go.RowKit

theorem wf_u8 {a : Int} (h : (Lit.int .u8 a).wf = true) : 0 ≤ a ∧ a ≤ 255 := by
  simp only [Lit.wf, Bool.and_eq_true, decide_eq_true_eq] at h
  have h1 : IntKind.u8.min = 0 := rfl
  have h2 : IntKind.u8.max = 255 := rfl
  omega
theorem wf_u32 {a : Int} (h : (Lit.int .u32 a).wf = true) : 0 ≤ a ∧ a < 4294967296 := by
  simp only [Lit.wf, Bool.and_eq_true, decide_eq_true_eq] at h
  have h1 : IntKind.u32.min = 0 := rfl
  have h2 : IntKind.u32.max = 4294967295 := rfl
  omega
theorem wf_i64 {a : Int} (h : (Lit.int .i64 a).wf = true) : -9223372036854775808 ≤ a ∧ a ≤ 9223372036854775807 := by
  simp only [Lit.wf, Bool.and_eq_true, decide_eq_true_eq] at h
  have h1 : IntKind.i64.min = -9223372036854775808 := rfl
  have h2 : IntKind.i64.max = 9223372036854775807 := rfl
  omega

section
variable {H : Type} {enc : TypeId × Value → H} {P : Program} {w : World} {spare : Nat → Bool} {held : Bool}
theorem shows_of_add {a : Addr} {xs : List Value} (h : ∀ i v, xs[i]? = some v → w.cell? (a.add i) = some v) : Shows w w.heap.size (some a) xs := by
  rcases xs with _ | ⟨x, xs⟩
  · exact .inl rfl
  · right
    have h0 := h 0 x rfl
    have hs := World.cell?_spot h0
    have hlt := World.block_lt_of_cell? w _ h0
    obtain ⟨b, o, s⟩ := a
    have hs' : s = none := by simpa [Addr.add] using hs
    subst hs'
    refine ⟨b, o, rfl, by simpa [Addr.add] using hlt, fun i v hv => ?_⟩
    have := h i v hv
    rwa [Addr.add_lit] at this
theorem open_bytes {t e : TypeId} {b0 : Nat} {r : Reach} {v : Value} {d : DataW H} {p : List MemPlace} (ht : P.underlying t = some (.slice e)) (he : P.underlying e = some (.int .u8)) (hc : P.cellsOf e = 1)
    (hv : Value.okWide P w r b0 t v) (h : DataW.Trod enc P w 0 spare held t v d p) (hsp : ∀ b, spare b = true) :
    ∃ A n c xs, v = .slice A n c ∧ n ≤ c ∧ c ≤ maxLen ∧ Bytes w w.heap.size A n xs := by
  obtain ⟨A, n, c, rfl⟩ := okWide_slice ht hv
  obtain ⟨fuel, hf⟩ := h
  rcases open_ints ht he hc hf with ⟨hcs, _⟩ | ⟨a, len, cap, zs, hcs, _, hl, hm, hz, _, hcell, hwf⟩
  · simp [Value.cells] at hcs
    obtain ⟨rfl, rfl, rfl⟩ := hcs
    exact ⟨none, 0, 0, [], rfl, Nat.le_refl _, by unfold maxLen; omega, Bytes.nil _ _ _⟩
  · simp [Value.cells] at hcs
    obtain ⟨rfl, rfl, rfl⟩ := hcs
    rw [hsp, if_pos rfl] at hz
    refine ⟨_, _, _, zs.take n, rfl, hl, hm, by simp; omega, fun x hx => wf_u8 (hwf x (List.mem_of_mem_take hx)), ?_⟩
    refine shows_of_add fun i v hv => ?_
    rw [List.getElem?_map] at hv
    obtain ⟨x, hx, rfl⟩ := Option.map_eq_some_iff.1 hv
    rw [List.getElem?_take] at hx
    split at hx
    · have hi : i < zs.length := (List.getElem?_eq_some_iff.1 hx).1
      rw [hcell i hi]
      simp [List.getD, hx]
    · cases hx
end
end Go.Proofs.YtmcnpkfeipelgaaGreatDoor

/- A cell of a struct or an array that came in, read by the type of its leaf; slices of structs; slices of slices of bytes. -/
namespace Go.Proofs.YtmcnpkfeipelgaaGreatDoor
open Go.ChangeShapes Go.WideShapes Go.ChangeAt Go.RowKit Go.Deep

/-- The type of cell i of a value of type t. -/
def leafAt (P : Program) : Nat → TypeId → Nat → Option TypeId
  | 0, _, _ => none
  | n + 1, t, i => match P.underlying t with
    | some (.struct fs) => (fs.toList.find? fun f => decide (f.offset ≤ i ∧ i < f.offset + P.cellsOf f.type)).bind fun f => leafAt P n f.type (i - f.offset)
    | some (.array k e) => if i / P.cellsOf e < k ∧ i % P.cellsOf e < P.cellsOf e then leafAt P n e (i % P.cellsOf e) else none
    | some (.int _) => if i = 0 then some t else none
    | some .bool => if i = 0 then some t else none
    | some .string => if i = 0 then some t else none
    | some (.slice _) => if i = 0 then some t else none
    | _ => none

theorem one_of {cs : List Value} {o s i : Nat} (h1 : o ≤ i) (h2 : i < o + s) : ((((cs.drop o).take s).drop (i - o)).take 1) = (cs.drop i).take 1 := by
  rw [List.drop_take, List.drop_drop, List.take_take, show min 1 (s - (i - o)) = 1 by omega, show o + (i - o) = i by omega]

section
variable {H : Type} {enc : TypeId × Value → H} {P : Program} {w : World} {base : Nat} {spare : Nat → Bool} {held : Bool}
theorem trod_leaf : ∀ (n : Nat) {t : TypeId} {i : Nat} {l : TypeId}, leafAt P n t i = some l → ∀ {fuel : Nat} {cs : List Value} {x : DataW H × List MemPlace}, DataW.trod enc P w base spare held fuel t cs = some x →
    ∃ fuel' y, DataW.trod enc P w base spare held fuel' l ((cs.drop i).take 1) = some y := by
  intro n
  induction n with
  | zero => intro t i l h; simp [leafAt] at h
  | succ n ih =>
    intro t i l h fuel cs x hx
    unfold leafAt at h
    split at h
    · rename_i fs ht
      obtain ⟨f, hf, hlf⟩ := Option.bind_eq_some_iff.1 h
      have hmem := List.mem_of_find?_eq_some hf
      have hp := List.find?_some hf
      simp only [decide_eq_true_eq] at hp
      obtain ⟨xs, m, _, _, hcl, hxl, hg⟩ := DataW.trod_struct ht hx
      obtain ⟨j, hj⟩ := List.getElem?_of_mem hmem
      have hj' : fs[j]? = some f := by rw [← Array.getElem?_toList]; exact hj
      have hjl : j < xs.length := by rw [hxl]; exact (Array.getElem?_eq_some_iff.1 hj').1
      have h1 := hg j f hj'
      rw [List.getElem?_eq_getElem hjl] at h1
      obtain ⟨fuel', y, hy⟩ := ih hlf h1
      rw [one_of hp.1 hp.2] at hy
      exact ⟨fuel', y, hy⟩
    · rename_i k e ht
      split at h
      · rename_i hc
        obtain ⟨xs, m, _, _, hcl, hxl, hg⟩ := DataW.trod_array ht hx
        have h1 := hg (i / P.cellsOf e) hc.1
        rw [List.getElem?_eq_getElem (by rw [hxl]; exact hc.1)] at h1
        obtain ⟨fuel', y, hy⟩ := ih h h1
        have e1 : i % P.cellsOf e = i - i / P.cellsOf e * P.cellsOf e := by rw [Nat.mul_comm]; have := Nat.div_add_mod i (P.cellsOf e); omega
        have e2 : i / P.cellsOf e * P.cellsOf e ≤ i := Nat.div_mul_le_self _ _
        rw [e1, one_of e2 (by have := hc.2; omega)] at hy
        exact ⟨fuel', y, hy⟩
      · cases h
    · rename_i k ht
      split at h
      · rename_i h0
        obtain rfl := Option.some.inj h
        obtain ⟨z, hz, _⟩ := DataW.trod_int ht hx
        subst h0 hz
        exact ⟨fuel, x, hx⟩
      · cases h
    · rename_i ht
      split at h
      · rename_i h0
        obtain rfl := Option.some.inj h
        obtain ⟨z, hz, _⟩ := DataW.trod_bool ht hx
        subst h0 hz
        exact ⟨fuel, x, hx⟩
      · cases h
    · rename_i ht
      split at h
      · rename_i h0
        obtain rfl := Option.some.inj h
        obtain ⟨z, hz, _⟩ := DataW.trod_string ht hx
        subst h0 hz
        exact ⟨fuel, x, hx⟩
      · cases h
    · rename_i e ht
      split at h
      · rename_i h0
        obtain rfl := Option.some.inj h
        subst h0
        rcases DataW.trod_slice ht hx with ⟨rfl, _⟩ | ⟨a, len, cap, elems, rest, m, _, rfl, _⟩ <;> exact ⟨fuel, x, hx⟩
      · cases h
    · cases h

theorem leaf_int {n : Nat} {t : TypeId} {i : Nat} {l : TypeId} {k : IntKind} (hl : leafAt P n t i = some l) (hk : P.underlying l = some (.int k)) {fuel : Nat} {cs : List Value} {x : DataW H × List MemPlace} (hx : DataW.trod enc P w base spare held fuel t cs = some x) :
    ∃ z, cs[i]? = some (.int k z) ∧ (Lit.int k z).wf = true := by
  obtain ⟨f, y, hy⟩ := trod_leaf n hl hx
  obtain ⟨z, hz, _, hw⟩ := DataW.trod_int hk hy
  refine ⟨z, ?_, hw⟩
  have h := congrArg (fun l => l[0]?) hz
  simpa [List.getElem?_take, List.getElem?_drop] using h
theorem leaf_bool {n : Nat} {t : TypeId} {i : Nat} {l : TypeId} (hl : leafAt P n t i = some l) (hk : P.underlying l = some .bool) {fuel : Nat} {cs : List Value} {x : DataW H × List MemPlace} (hx : DataW.trod enc P w base spare held fuel t cs = some x) :
    ∃ z, cs[i]? = some (.bool z) := by
  obtain ⟨f, y, hy⟩ := trod_leaf n hl hx
  obtain ⟨z, hz, _⟩ := DataW.trod_bool hk hy
  refine ⟨z, ?_⟩
  have h := congrArg (fun l => l[0]?) hz
  simpa [List.getElem?_take, List.getElem?_drop] using h
theorem leaf_any {n : Nat} {t : TypeId} {i : Nat} {l : TypeId} {v : Value} (hl : leafAt P n t i = some l) {fuel : Nat} {cs : List Value} {x : DataW H × List MemPlace} (hx : DataW.trod enc P w base spare held fuel t cs = some x) (hv : cs[i]? = some v) :
    ∃ fuel' y, DataW.trod enc P w base spare held fuel' l [v] = some y := by
  obtain ⟨f, y, hy⟩ := trod_leaf n hl hx
  have hi := (List.getElem?_eq_some_iff.1 hv).1
  have e : (cs.drop i).take 1 = [v] := by
    rw [List.drop_eq_getElem_cons hi]
    simp [(List.getElem?_eq_some_iff.1 hv).2]
  rw [e] at hy
  exact ⟨f, y, hy⟩

/-- A list of choices. -/
theorem list_of {α : Type} [Inhabited α] {n : Nat} {p : Nat → α → Prop} (h : ∀ i, i < n → ∃ a, p i a) : ∃ l : List α, l.length = n ∧ ∀ i a, l[i]? = some a → p i a := by
  have h' : ∀ i, ∃ a, i < n → p i a := fun i => by
    by_cases hi : i < n
    · obtain ⟨a, ha⟩ := h i hi
      exact ⟨a, fun _ => ha⟩
    · exact ⟨default, fun hh => absurd hh hi⟩
  obtain ⟨f, hf⟩ := Classical.axiomOfChoice h'
  refine ⟨(List.range n).map f, by simp, fun i a ha => ?_⟩
  rw [List.getElem?_map] at ha
  obtain ⟨j, hj, rfl⟩ := Option.map_eq_some_iff.1 ha
  obtain ⟨hjn, hj2⟩ := List.getElem?_eq_some_iff.1 hj
  simp at hj2 hjn
  subst hj2
  exact hf _ hjn

theorem open_pairs {t e : TypeId} {lt : TypeId} {b0 : Nat} {r : Reach} {v : Value} {d : DataW H} {p : List MemPlace} (ht : P.underlying t = some (.slice e)) (hc : P.cellsOf e = 2) (hi : P.underlying lt = some (.int .i64))
    (h0 : leafAt P 3 e 0 = some lt) (h1 : leafAt P 3 e 1 = some lt) (hv : Value.okWide P w r b0 t v) (h : DataW.Trod enc P w 0 spare held t v d p) :
    ∃ A n c l, v = .slice A n c ∧ n ≤ c ∧ c ≤ maxLen ∧ Pairs w w.heap.size A n l ∧ ∀ x ∈ l, (Lit.int .i64 x.1).wf = true ∧ (Lit.int .i64 x.2).wf = true := by
  obtain ⟨A, n, c, rfl⟩ := okWide_slice ht hv
  obtain ⟨fuel, hf⟩ := h
  rcases open_slice ht hf with ⟨hcs, _⟩ | ⟨a, len, cap, m, n', D, Pl, hcs, _, hl, hm, hmm, _, hx⟩
  · simp [Value.cells] at hcs
    obtain ⟨rfl, rfl, rfl⟩ := hcs
    exact ⟨none, 0, 0, [], rfl, Nat.le_refl _, by unfold maxLen; omega, ⟨rfl, .inl rfl⟩, by simp⟩
  · simp [Value.cells] at hcs
    obtain ⟨rfl, rfl, rfl⟩ := hcs
    rw [hc] at hx
    have hmn : n ≤ m := by rw [hmm]; split <;> omega
    obtain ⟨l, hll, hlp⟩ := list_of (n := n) (p := fun i (z : Int × Int) => w.cell? (a.add (i * 2)) = some (.int .i64 z.1) ∧ w.cell? (a.add (i * 2 + 1)) = some (.int .i64 z.2) ∧ (Lit.int .i64 z.1).wf = true ∧ (Lit.int .i64 z.2).wf = true) (fun i hin => by
      obtain ⟨cs', hcells, htr⟩ := hx i (by omega)
      obtain ⟨_, _, hat⟩ := World.cells?_some hcells
      obtain ⟨x, hx0, hw0⟩ := leaf_int h0 hi htr
      obtain ⟨y, hy0, hw1⟩ := leaf_int h1 hi htr
      have g0 := (hat 0 (by omega)).trans hx0
      have g1 := (hat 1 (by omega)).trans hy0
      rw [Go.Deep.add_add] at g0 g1
      exact ⟨(x, y), by simpa using g0, g1, hw0, hw1⟩)
    refine ⟨some a, n, c, l, rfl, hl, hm, ⟨hll.symm, ?_⟩, fun x hx => ?_⟩
    · rcases l with _ | ⟨z, l⟩
      · exact .inl rfl
      · right
        have hz := (hlp 0 z rfl).1
        have hsp := World.cell?_spot hz
        have hlt := World.block_lt_of_cell? w _ hz
        obtain ⟨b, o, s⟩ := a
        have hs' : s = none := by simpa [Addr.add] using hsp
        subst hs'
        refine ⟨b, o, rfl, by simpa [Addr.add] using hlt, fun i x y hi => ?_⟩
        have := hlp i (x, y) hi
        rw [Addr.add_lit, Addr.add_lit] at this
        exact ⟨this.1, this.2.1⟩
    · obtain ⟨i, hi⟩ := List.getElem?_of_mem hx
      exact (hlp i x hi).2.2

instance : Inhabited Part := ⟨⟨none, 0, 0, []⟩⟩
theorem bytes_of_trod {t e : TypeId} {v : Value} {fuel : Nat} {y : DataW H × List MemPlace} (ht : P.underlying t = some (.slice e)) (he : P.underlying e = some (.int .u8)) (hc : P.cellsOf e = 1)
    (h : DataW.trod enc P w 0 spare held fuel t [v] = some y) (hsp : ∀ b, spare b = true) : ∃ A n c xs, v = .slice A n c ∧ n ≤ c ∧ c ≤ maxLen ∧ Bytes w w.heap.size A n xs := by
  rcases open_ints ht he hc h with ⟨hcs, _⟩ | ⟨a, len, cap, zs, hcs, _, hl, hm, hz, _, hcell, hwf⟩
  · simp at hcs
    subst hcs
    exact ⟨none, 0, 0, [], rfl, Nat.le_refl _, by unfold maxLen; omega, Bytes.nil _ _ _⟩
  · simp at hcs
    subst hcs
    rw [hsp, if_pos rfl] at hz
    refine ⟨_, _, _, zs.take len, rfl, hl, hm, by simp; omega, fun x hx => wf_u8 (hwf x (List.mem_of_mem_take hx)), ?_⟩
    refine shows_of_add fun i v hv => ?_
    rw [List.getElem?_map] at hv
    obtain ⟨x, hx, rfl⟩ := Option.map_eq_some_iff.1 hv
    rw [List.getElem?_take] at hx
    split at hx
    · have hi : i < zs.length := (List.getElem?_eq_some_iff.1 hx).1
      rw [hcell i hi]
      simp [List.getD, hx]
    · cases hx
theorem open_parts {t e q : TypeId} {b0 : Nat} {r : Reach} {v : Value} {d : DataW H} {p : List MemPlace} (ht : P.underlying t = some (.slice e)) (he : P.underlying e = some (.slice q)) (hq : P.underlying q = some (.int .u8)) (hce : P.cellsOf e = 1) (hc : P.cellsOf q = 1)
    (hv : Value.okWide P w r b0 t v) (h : DataW.Trod enc P w 0 spare held t v d p) (hsp : ∀ b, spare b = true) :
    ∃ A n c ps, v = .slice A n c ∧ n ≤ c ∧ c ≤ maxLen ∧ Parts w w.heap.size A n ps ∧ ∀ p ∈ ps, p.n ≤ p.c ∧ p.c ≤ maxLen := by
  obtain ⟨A, n, c, rfl⟩ := okWide_slice ht hv
  obtain ⟨fuel, hf⟩ := h
  rcases open_slice1 ht hce hf with ⟨hcs, _⟩ | ⟨a, len, cap, m, n', V, D, Pl, hcs, _, hl, hm, hmm, _, hx⟩
  · simp [Value.cells] at hcs
    obtain ⟨rfl, rfl, rfl⟩ := hcs
    exact ⟨none, 0, 0, [], rfl, Nat.le_refl _, by unfold maxLen; omega, ⟨rfl, by simp, .inl rfl⟩, by simp⟩
  · simp [Value.cells] at hcs
    obtain ⟨rfl, rfl, rfl⟩ := hcs
    have hmn : n ≤ m := by rw [hmm]; split <;> omega
    obtain ⟨l, hll, hlp⟩ := list_of (n := n) (p := fun i (z : Part) => w.cell? (a.add i) = some z.v ∧ z.n ≤ z.c ∧ z.c ≤ maxLen ∧ z.ok w w.heap.size) (fun i hin => by
      obtain ⟨hcell, htr⟩ := hx i (by omega)
      obtain ⟨A, n, c, xs, hv, h1, h2, h3⟩ := bytes_of_trod he hq hc htr hsp
      exact ⟨⟨A, n, c, xs⟩, by rw [hcell, hv]; rfl, h1, h2, h3⟩)
    refine ⟨some a, n, c, l, rfl, hl, hm, ⟨hll.symm, fun p hp => ?_, shows_of_add fun i v hv => ?_⟩, fun p hp => ?_⟩
    · obtain ⟨i, hi⟩ := List.getElem?_of_mem hp
      exact (hlp i p hi).2.2.2
    · rw [List.getElem?_map] at hv
      obtain ⟨x, hx, rfl⟩ := Option.map_eq_some_iff.1 hv
      exact (hlp i x hx).1
    · obtain ⟨i, hi⟩ := List.getElem?_of_mem hp
      exact ⟨(hlp i p hi).2.1, (hlp i p hi).2.2.1⟩
end
end Go.Proofs.YtmcnpkfeipelgaaGreatDoor

/- Segments of an attribute; an attribute that came in; peerageref06.Few -/
namespace Go.Proofs.YtmcnpkfeipelgaaGreatDoor
open Go.ChangeShapes Go.WideShapes Go.ChangeAt Go.RowKit Go.Deep

/-- A segment with what its numbers are. -/
structure Sg where
  k : Int
  A : Option Addr
  n : Nat
  c : Nat
  xs : List Int
instance : Inhabited Sg := ⟨⟨0, none, 0, 0, []⟩⟩
def Segs (w : World) (B : Nat) (A : Option Addr) (n : Nat) (ss : List Sg) : Prop :=
  n = ss.length ∧ (∀ s ∈ ss, s.n ≤ s.c ∧ s.c ≤ maxLen ∧ (Lit.int .i64 s.k).wf = true ∧ (∀ x ∈ s.xs, 0 ≤ x ∧ x < 4294967296) ∧ U32s w B s.A s.n s.xs) ∧
  (ss = [] ∨ ∃ b o, A = some ⟨b, o, none⟩ ∧ b < B ∧ ∀ i s, ss[i]? = some s → w.cell? ⟨b, o + i * 2, none⟩ = some (.int .i64 s.k) ∧ w.cell? ⟨b, o + i * 2 + 1, none⟩ = some (.slice s.A s.n s.c))
def sgth (ss : List Sg) (k : Nat) : Sg := ss.getD k default
theorem sgth_some {ss : List Sg} {k : Nat} (h : k < ss.length) : ss[k]? = some (sgth ss k) := by simp [sgth, h]
theorem Segs.at_ {w : World} {B : Nat} {A : Option Addr} {n : Nat} {ss : List Sg} (h : Segs w B A n ss) {k : Nat} (hk : k < n) :
    ∃ b o, A = some ⟨b, o, none⟩ ∧ b < B ∧ w.cell? ⟨b, o + k * 2, none⟩ = some (.int .i64 (sgth ss k).k) ∧ w.cell? ⟨b, o + k * 2 + 1, none⟩ = some (.slice (sgth ss k).A (sgth ss k).n (sgth ss k).c) := by
  obtain ⟨hn, _, h0 | ⟨b, o, hA, hb, hc⟩⟩ := h
  · rw [h0] at hn; simp at hn; omega
  · exact ⟨b, o, hA, hb, hc k _ (sgth_some (by omega))⟩
theorem Segs.below {w w' : World} {B n : Nat} {A : Option Addr} {ss : List Sg} (h : Segs w B A n ss) (hb : Below B w w') : Segs w' B A n ss := by
  obtain ⟨hn, hs, h0⟩ := h
  refine ⟨hn, fun s m => ?_, ?_⟩
  · obtain ⟨a, b, c, d, e⟩ := hs s m
    exact ⟨a, b, c, d, e.below hb⟩
  · rcases h0 with h0 | ⟨b, o, hA, hB, hc⟩
    · exact .inl h0
    · refine .inr ⟨b, o, hA, hB, fun i s hi => ?_⟩
      have h2 := hc i s hi
      rw [hb.cell hB, hb.cell hB]
      exact h2
theorem Segs.more {w : World} {B B' n : Nat} {A : Option Addr} {ss : List Sg} (h : Segs w B A n ss) (hB : B ≤ B') : Segs w B' A n ss := by
  obtain ⟨hn, hs, h0⟩ := h
  refine ⟨hn, fun s m => ?_, ?_⟩
  · obtain ⟨a, b, c, d, e⟩ := hs s m
    exact ⟨a, b, c, d, e.more hB⟩
  · rcases h0 with h0 | ⟨b, o, hA, hb, hc⟩
    · exact .inl h0
    · exact .inr ⟨b, o, hA, by omega, hc⟩

section
variable {H : Type} {enc : TypeId × Value → H} {P : Program} {w : World} {spare : Nat → Bool} {held : Bool}
theorem u32s_of_trod {t e : TypeId} {v : Value} {fuel : Nat} {y : DataW H × List MemPlace} (ht : P.underlying t = some (.slice e)) (he : P.underlying e = some (.int .u32)) (hc : P.cellsOf e = 1)
    (h : DataW.trod enc P w 0 spare held fuel t [v] = some y) (hsp : ∀ b, spare b = true) : ∃ A n c xs, v = .slice A n c ∧ n ≤ c ∧ c ≤ maxLen ∧ (∀ x ∈ xs, 0 ≤ x ∧ x < 4294967296) ∧ U32s w w.heap.size A n xs := by
  rcases open_ints ht he hc h with ⟨hcs, _⟩ | ⟨a, len, cap, zs, hcs, _, hl, hm, hz, _, hcell, hwf⟩
  · simp at hcs
    subst hcs
    exact ⟨none, 0, 0, [], rfl, Nat.le_refl _, by unfold maxLen; omega, by simp, rfl, .inl rfl⟩
  · simp at hcs
    subst hcs
    rw [hsp, if_pos rfl] at hz
    refine ⟨_, _, _, zs.take len, rfl, hl, hm, fun x hx => wf_u32 (hwf x (List.mem_of_mem_take hx)), by simp; omega, ?_⟩
    refine shows_of_add fun i v hv => ?_
    rw [List.getElem?_map] at hv
    obtain ⟨x, hx, rfl⟩ := Option.map_eq_some_iff.1 hv
    rw [List.getElem?_take] at hx
    split at hx
    · have hi : i < zs.length := (List.getElem?_eq_some_iff.1 hx).1
      rw [hcell i hi]
      simp [List.getD, hx]
    · cases hx
theorem segs_of_trod {t e lt l2 q : TypeId} {v : Value} {fuel : Nat} {y : DataW H × List MemPlace} (ht : P.underlying t = some (.slice e)) (hc : P.cellsOf e = 2) (hi : P.underlying lt = some (.int .i64)) (hi2 : P.underlying l2 = some (.slice q)) (hq : P.underlying q = some (.int .u32)) (hcq : P.cellsOf q = 1)
    (h0 : leafAt P 3 e 0 = some lt) (h1 : leafAt P 3 e 1 = some l2) (h : DataW.trod enc P w 0 spare held fuel t [v] = some y) (hsp : ∀ b, spare b = true) :
    ∃ A n c ss, v = .slice A n c ∧ n ≤ c ∧ c ≤ maxLen ∧ Segs w w.heap.size A n ss := by
  rcases open_slice ht h with ⟨hcs, _⟩ | ⟨a, n, c, m, n', D, Pl, hcs, _, hl, hm, hmm, _, hx⟩
  · simp at hcs
    subst hcs
    exact ⟨none, 0, 0, [], rfl, Nat.le_refl _, by unfold maxLen; omega, rfl, by simp, .inl rfl⟩
  · simp at hcs
    subst hcs
    rw [hc] at hx
    have hmn : n ≤ m := by rw [hmm]; split <;> omega
    obtain ⟨l, hll, hlp⟩ := list_of (n := n) (p := fun i (z : Sg) => w.cell? (a.add (i * 2)) = some (.int .i64 z.k) ∧ w.cell? (a.add (i * 2 + 1)) = some (.slice z.A z.n z.c) ∧ z.n ≤ z.c ∧ z.c ≤ maxLen ∧ (Lit.int .i64 z.k).wf = true ∧ (∀ x ∈ z.xs, 0 ≤ x ∧ x < 4294967296) ∧ U32s w w.heap.size z.A z.n z.xs) (fun i hin => by
      obtain ⟨cs', hcells, htr⟩ := hx i (by omega)
      obtain ⟨hz2, _, hat⟩ := World.cells?_some hcells
      obtain ⟨x, hx0, hw0⟩ := leaf_int h0 hi htr
      have hlen : 1 < cs'.length := by first | omega | (have := (List.getElem?_eq_some_iff.1 hx0).1; omega)
      obtain ⟨f2, y2, hy2⟩ := leaf_any h1 htr (List.getElem?_eq_getElem hlen)
      obtain ⟨A, n2, c2, xs, hv, g1, g2, g3, g4⟩ := u32s_of_trod hi2 hq hcq hy2 hsp
      have hy0 : cs'[1]? = some (.slice A n2 c2) := by rw [List.getElem?_eq_getElem hlen, hv]
      have e0 := (hat 0 (by omega)).trans hx0
      have e1 := (hat 1 (by omega)).trans hy0
      rw [Go.Deep.add_add] at e0 e1
      exact ⟨⟨x, A, n2, c2, xs⟩, by simpa using e0, e1, g1, g2, hw0, g3, g4⟩)
    refine ⟨some a, n, c, l, rfl, hl, hm, hll.symm, fun s hs => ?_, ?_⟩
    · obtain ⟨i, hi⟩ := List.getElem?_of_mem hs
      exact (hlp i s hi).2.2
    · rcases l with _ | ⟨z, l⟩
      · exact .inl rfl
      · right
        have hz := (hlp 0 z rfl).1
        have hsp2 := World.cell?_spot hz
        have hlt := World.block_lt_of_cell? w _ hz
        obtain ⟨b, o, s⟩ := a
        have hs' : s = none := by simpa [Addr.add] using hsp2
        subst hs'
        refine ⟨b, o, rfl, by simpa [Addr.add] using hlt, fun i s hi => ?_⟩
        have := hlp i s hi
        rw [Addr.add_lit, Addr.add_lit] at this
        exact ⟨this.1, this.2.1⟩
theorem slice_of_trod {t e : TypeId} {v : Value} {fuel : Nat} {y : DataW H × List MemPlace} (ht : P.underlying t = some (.slice e)) (h : DataW.trod enc P w 0 spare held fuel t [v] = some y) : ∃ A n c, v = .slice A n c ∧ n ≤ c ∧ c ≤ maxLen := by
  rcases open_slice ht h with ⟨hcs, _⟩ | ⟨a, n, c, m, n', D, Pl, hcs, _, hl, hm, _⟩
  · simp at hcs
    exact ⟨none, 0, 0, hcs, Nat.le_refl _, by unfold maxLen; omega⟩
  · simp at hcs
    exact ⟨_, _, _, hcs, hl, hm⟩
theorem arr9 {C : Array Value} {x0 x1 x2 x3 x4 x5 x6 x7 x8 : Value} (h : C.size = 9) (h0 : C.toList[0]? = some x0) (h1 : C.toList[1]? = some x1) (h2 : C.toList[2]? = some x2) (h3 : C.toList[3]? = some x3) (h4 : C.toList[4]? = some x4) (h5 : C.toList[5]? = some x5) (h6 : C.toList[6]? = some x6) (h7 : C.toList[7]? = some x7) (h8 : C.toList[8]? = some x8) : C = #[x0, x1, x2, x3, x4, x5, x6, x7, x8] := by
  obtain ⟨l⟩ := C
  match l, h, h0, h1, h2, h3, h4, h5, h6, h7, h8 with
  | [a, b, c, d, e, f, g, i, j], _, h0, h1, h2, h3, h4, h5, h6, h7, h8 =>
    simp at h0 h1 h2 h3 h4 h5 h6 h7 h8
    subst h0 h1 h2 h3 h4 h5 h6 h7 h8
    rfl
/-- What is known of an attribute that came in. -/
def AtIn (w : World) (a : At) : Prop :=
  (Lit.int .i64 a.k).wf = true ∧ (0 ≤ a.N ∧ a.N < 4294967296) ∧ (0 ≤ a.M ∧ a.M < 4294967296) ∧ (Lit.int .i64 a.f).wf = true ∧
  (a.n1 ≤ a.c1 ∧ a.c1 ≤ maxLen ∧ ∃ ss, Segs w w.heap.size a.A1 a.n1 ss) ∧ (a.n2 ≤ a.c2 ∧ a.c2 ≤ maxLen ∧ ∃ xs, (∀ x ∈ xs, 0 ≤ x ∧ x < 4294967296) ∧ U32s w w.heap.size a.A2 a.n2 xs) ∧
  (a.n3 ≤ a.c3 ∧ a.c3 ≤ maxLen ∧ ∃ xs, Bytes w w.heap.size a.A3 a.n3 xs) ∧ (a.n4 ≤ a.c4 ∧ a.c4 ≤ maxLen)
set_option maxRecDepth 100000 in
theorem open_at {C : Array Value} {fuel : Nat} {x : DataW H × List MemPlace} (hz : C.size = Tryz.prog.cellsOf 37) (hx : DataW.trod enc Tryz.prog w 0 spare held fuel 37 C.toList = some x) (hsp : ∀ b, spare b = true) :
    ∃ a : At, C = atc a ∧ AtIn w a := by
  have hz9 : C.size = 9 := hz.trans (by kernel_rfl)
  have hll : ∀ i, i < 9 → ∃ v, C.toList[i]? = some v := fun i hi => ⟨C.toList[i]'(by rw [Array.length_toList]; omega), List.getElem?_eq_getElem _⟩
  obtain ⟨k, e0, w0⟩ := leaf_int (n := 5) (i := 0) (l := 3) (by kernel_rfl) Tryz.underlying3 hx
  obtain ⟨p, e1⟩ := leaf_bool (n := 5) (i := 1) (l := 4) (by kernel_rfl) Tryz.underlying4 hx
  obtain ⟨N, e2, w2⟩ := leaf_int (n := 5) (i := 2) (l := 32) (by kernel_rfl) Tryz.underlying32 hx
  obtain ⟨M, e3, w3⟩ := leaf_int (n := 5) (i := 3) (l := 32) (by kernel_rfl) Tryz.underlying32 hx
  obtain ⟨f, e7, w7⟩ := leaf_int (n := 5) (i := 7) (l := 3) (by kernel_rfl) Tryz.underlying3 hx
  obtain ⟨v4, e4⟩ := hll 4 (by omega)
  obtain ⟨v5, e5⟩ := hll 5 (by omega)
  obtain ⟨v6, e6⟩ := hll 6 (by omega)
  obtain ⟨v8, e8⟩ := hll 8 (by omega)
  obtain ⟨_, _, t4⟩ := leaf_any (n := 5) (i := 4) (l := 33) (by kernel_rfl) hx e4
  obtain ⟨_, _, t5⟩ := leaf_any (n := 5) (i := 5) (l := 34) (by kernel_rfl) hx e5
  obtain ⟨_, _, t6⟩ := leaf_any (n := 5) (i := 6) (l := 25) (by kernel_rfl) hx e6
  obtain ⟨_, _, t8⟩ := leaf_any (n := 5) (i := 8) (l := 35) (by kernel_rfl) hx e8
  obtain ⟨A1, n1, c1, ss, rfl, g1, g2, g3⟩ := segs_of_trod Tryz.underlying33 (by kernel_rfl) (lt := 3) Tryz.underlying3 (l2 := 34) Tryz.underlying34 Tryz.underlying32 (by kernel_rfl) (by kernel_rfl) (by kernel_rfl) t4 hsp
  obtain ⟨A2, n2, c2, ls, rfl, g4, g5, g6, g7⟩ := u32s_of_trod Tryz.underlying34 Tryz.underlying32 (by kernel_rfl) t5 hsp
  obtain ⟨A3, n3, c3, bs, rfl, g8, g9, g10⟩ := bytes_of_trod Tryz.underlying25 Tryz.underlying5 (by kernel_rfl) t6 hsp
  obtain ⟨A4, n4, c4, rfl, g11, g12⟩ := slice_of_trod Tryz.underlying35 t8
  exact ⟨⟨k, p, N, M, A1, n1, c1, A2, n2, c2, A3, n3, c3, f, A4, n4, c4⟩, arr9 hz9 e0 e1 e2 e3 e4 e5 e6 e7 e8, w0, wf_u32 w2, wf_u32 w3, w7, ⟨g1, g2, ss, g3⟩, ⟨g4, g5, ls, g6, g7⟩, ⟨g8, g9, bs, g10⟩, g11, g12⟩
end
end Go.Proofs.YtmcnpkfeipelgaaGreatDoor

/- peerageref06.Few, small -/
namespace Go.Proofs.YtmcnpkfeipelgaaGreatDoor
open Go.RowKit

def fewTo (ss : List Sg) (k : Nat) : Nat := ((ss.take k).map fun s => min s.n 1000).sum
theorem fewTo_le (ss : List Sg) (k : Nat) : fewTo ss k ≤ 1000 * k := by
  unfold fewTo
  induction k generalizing ss with
  | zero => simp
  | succ k ih =>
    rcases ss with _ | ⟨s, ss⟩
    · simp
    · have := ih ss
      simp only [List.take_succ_cons, List.map_cons, List.sum_cons]
      omega
theorem fewTo_succ {ss : List Sg} {k : Nat} (h : k < ss.length) : fewTo ss (k + 1) = fewTo ss k + min (sgth ss k).n 1000 := by
  unfold fewTo
  rw [List.take_add_one, sgth_some h]
  simp
def fewB (ss : List Sg) : Bool := decide (ss.length ≤ 50 ∧ fewTo ss ss.length ≤ 600)
set_option maxRecDepth 100000 in
theorem sl_segs : SliceOf Tryz.prog 33 51 2 32 := SliceOf.mk Tryz.underlying33 (z := .agg #[.int .i64 0, .slice none 0 0]) (by kernel_rfl) rfl (by decide)
set_option maxRecDepth 100000 in
set_option maxHeartbeats 800000 in
theorem few_any (A : Option Addr) (n c : Nat) (ss : List Sg) (w : World) (hx : Segs w w.heap.size A n ss) (hm : n ≤ maxLen) :
    Calls Tryz.prog 43 #[.slice A n c] w fun e w' => e = .returned (.bool (fewB ss)) ∧ w = w' := by
  unfold maxLen at hm
  have HN := Lib.hid hx.1
  by_cases hn : n ≤ 50
  · go_enter Tryz.func43, Tryz.ntmps43
    go_wp2
    go_loop [3, 4] (fun s i => ∃ k : Nat, k ≤ n ∧ i = .int .i64 k ∧ s = .int .i64 (fewTo ss k : Nat)) (fun _ i => n - (intOf i).toNat)
    case atStart => exact ⟨0, Nat.zero_le _, rfl, rfl⟩
    case round =>
      obtain ⟨k, hk, rfl, rfl⟩ := hrel
      by_cases hlt : k < n
      · obtain ⟨b, o, rfl, hb, hc0, hc1⟩ := hx.at_ hlt
        have hle := fewTo_le ss k
        have hsu := Lib.hid (fewTo_succ (ss := ss) (k := k) (by have := HN.out; omega))
        generalize (sgth ss k).n = m at *
        generalize fewTo ss k = t at *
        go_wp2
        go_round
        case rel => exact ⟨k + 1, by omega, by go_num, by rw [hsu.out]; go_num⟩
        case measure => simp [intOf]; omega
      · obtain rfl : k = n := by omega
        have hle := fewTo_le ss k
        have hO : Hid (fewB ss = decide ((fewTo ss k : Int) ≤ 600)) := Lib.hid (by unfold fewB; rw [← HN.out]; rw [Bool.eq_iff_iff]; simp only [decide_eq_true_eq]; omega)
        generalize fewTo ss k = t at *
        go_wp2
        go_ret
        exact ⟨by rw [hO.out]; rfl, rfl⟩
  · have hO : Hid (fewB ss = false) := Lib.hid (by unfold fewB; rw [← HN.out]; exact decide_eq_false (by omega))
    have dn : decide ((n : Int) ≤ 50) = false := by simp; omega
    go_enter Tryz.func43, Tryz.ntmps43
    go_wp2
    go_loop [3, 4] (fun s i => ∃ k : Nat, k ≤ n ∧ i = .int .i64 k ∧ ∃ z, s = .int .i64 z) (fun _ i => n - (intOf i).toNat)
    case atStart => exact ⟨0, Nat.zero_le _, rfl, _, rfl⟩
    case round =>
      obtain ⟨k, hk, rfl, z, rfl⟩ := hrel
      by_cases hlt : k < n
      · obtain ⟨b, o, rfl, hb, hc0, hc1⟩ := hx.at_ hlt
        generalize (sgth ss k).n = m at *
        go_wp2
        go_round
        case rel => exact ⟨k + 1, by omega, by go_num, _, rfl⟩
        case measure => simp [intOf]; omega
      · obtain rfl : k = n := by omega
        go_wp2
        go_ret
        exact ⟨by rw [hO.out]; rfl, rfl⟩
/-- Whether an attribute is small. -/
def smallB (a : At) (ss : List Sg) : Bool := fewB ss && decide (a.n2 ≤ 300 ∧ a.n3 ≤ 600 ∧ a.n4 ≤ 100)
end Go.Proofs.YtmcnpkfeipelgaaGreatDoor

/- Segments: Length, Valid, Same on both sides (not segment.Same) -/
namespace Go.Proofs.YtmcnpkfeipelgaaGreatDoor
open Go.RowKit

theorem U32s.at_ {w : World} {B n : Nat} {A : Option Addr} {ls : List Int} (h : U32s w B A n ls) {k : Nat} (hk : k < n) : ∃ b o, A = some ⟨b, o, none⟩ ∧ b < B ∧ w.cell? ⟨b, o + k, none⟩ = some (.int .u32 (nth ls k)) :=
  h.2.at_ (k := k) (by rw [List.getElem?_map, nth_some (by rw [← h.1]; exact hk)]; rfl)
theorem sgth_mem {ss : List Sg} {k : Nat} (h : k < ss.length) : sgth ss k ∈ ss := List.mem_of_getElem? (sgth_some h)
theorem take_sgth {ss : List Sg} {k : Nat} (h : k < ss.length) : ss.take (k + 1) = ss.take k ++ [sgth ss k] := by rw [List.take_add_one, sgth_some h]; rfl
def lenS (ss : List Sg) (k : Nat) : Nat := ((ss.take k).map fun s => if s.k = 1 then 1 else if s.k = 2 then s.n else 0).sum
theorem lenS_succ {ss : List Sg} {k : Nat} (h : k < ss.length) : lenS ss (k + 1) = lenS ss k + if (sgth ss k).k = 1 then 1 else if (sgth ss k).k = 2 then (sgth ss k).n else 0 := by
  unfold lenS
  rw [take_sgth h, List.map_append, List.sum_append]
  simp
theorem lenS_le {ss : List Sg} (k : Nat) (h : ∀ s ∈ ss, s.n ≤ 1000) : lenS ss k ≤ 1000 * k := by
  induction k with
  | zero => simp [lenS]
  | succ k ih =>
    by_cases hk : k < ss.length
    · have := h _ (sgth_mem hk)
      rw [lenS_succ hk]
      split
      · omega
      · split <;> omega
    · have e : lenS ss (k + 1) = lenS ss k := by unfold lenS; rw [List.take_of_length_le (by omega), List.take_of_length_le (by omega)]
      omega
/-- Whether all numbers have two bytes. -/
def narB (xs : List Int) : Bool := xs.all fun x => decide (x ≤ 65535)
/-- Whether a segment is valid. -/
def sgOk (wd : Int) (s : Sg) : Bool := decide ((s.k = 1 ∨ s.k = 2) ∧ 1 ≤ s.n ∧ s.n ≤ 255) && (decide (wd ≠ 2) || narB s.xs)
theorem sgall_no {ss : List Sg} {P : Sg → Bool} {k : Nat} (h : k < ss.length) (hp : P (sgth ss k) = false) : ss.all P = false := by
  rw [List.all_eq_false]
  exact ⟨_, sgth_mem h, by simp [hp]⟩
theorem sgall_step {ss : List Sg} {P : Sg → Bool} {k : Nat} (h : k < ss.length) (h0 : (ss.take k).all P = true) (hp : P (sgth ss k) = true) : (ss.take (k + 1)).all P = true := by
  rw [take_sgth h, List.all_append, h0]; simp [hp]
set_option maxRecDepth 100000 in
theorem wide_any (x : Int) (w : World) : Calls Tryz.prog 269 #[.int .u32 x] w fun e w' => e = .returned (.bool (decide (65535 < x))) ∧ w = w' := by
  go_enter Tryz.func269, Tryz.ntmps269
  go_wp2
  go_ret
  exact ⟨rfl, rfl⟩
set_option maxRecDepth 100000 in
theorem u32idx_any (A : Option Addr) (n c : Nat) (xs : List Int) (w : World) (B : Nat) (hx : U32s w B A n xs) (hn : n ≤ 1000) :
    Calls Tryz.prog 270 #[.slice A n c, .func (.func 269) #[] #[]] w fun e w' => w = w' ∧ ((e = .returned (.int .i64 (-1)) ∧ narB xs = true) ∨ ∃ i : Nat, e = .returned (.int .i64 i) ∧ narB xs = false) := by
  have HN := Lib.hid hx.1
  go_enter Tryz.func270, Tryz.ntmps270
  go_wp2
  go_loop [8] (fun i => ∃ k : Nat, k ≤ n ∧ i = .int .i64 k ∧ Hid ((xs.take k).all (fun x => decide (x ≤ 65535)) = true)) (fun i => n - (intOf i).toNat)
  case atStart => exact ⟨0, Nat.zero_le _, rfl, Lib.hid (by simp)⟩
  case round =>
    obtain ⟨k, hk, rfl, HA⟩ := hrel
    by_cases hlt : k < n
    · obtain ⟨b, o, rfl, hb, hc⟩ := hx.at_ hlt
      have hkx := Lib.hid (show k < xs.length by rw [← HN.out]; exact hlt)
      by_cases he : nth xs k ≤ 65535
      · have HE := Lib.hid (show (xs.take (k + 1)).all (fun x => decide (x ≤ 65535)) = true by rw [take_nth hkx.out, List.all_append, HA.out]; simp [he])
        have h1 : ¬ 65535 < nth xs k := by omega
        clear he
        go_wp2_with (go_at_call 269; refine (wide_any _ _).mono ?_; rintro e w' ⟨rfl, rfl⟩)
        go_round
        case rel => exact ⟨k + 1, by omega, by go_num, HE⟩
        case measure => simp [intOf]; omega
      · have HE := Lib.hid (show narB xs = false by unfold narB; rw [List.all_eq_false]; exact ⟨_, nth_mem hkx.out, by simp; omega⟩)
        have h1 : 65535 < nth xs k := by omega
        clear he
        go_wp2_with (go_at_call 269; refine (wide_any _ _).mono ?_; rintro e w' ⟨rfl, rfl⟩)
        go_ret
        exact ⟨rfl, .inr ⟨k, rfl, HE.out⟩⟩
    · have HE := Lib.hid (show narB xs = true by unfold narB; have := HA.out; rwa [List.take_of_length_le (by rw [← HN.out]; omega)] at this)
      go_wp2
      go_ret
      exact ⟨rfl, .inl ⟨rfl, HE.out⟩⟩
set_option maxRecDepth 100000 in
theorem contf_any (A : Option Addr) (n c : Nat) (xs : List Int) (w : World) (B : Nat) (hx : U32s w B A n xs) (hn : n ≤ 1000) :
    Calls Tryz.prog 268 #[.slice A n c, .func (.func 269) #[] #[]] w fun e w' => e = .returned (.bool (!narB xs)) ∧ w = w' := by
  go_enter Tryz.func268, Tryz.ntmps268
  go_wp2_with fail
  refine (u32idx_any A n c xs w B hx hn).mono ?_
  rintro e w' ⟨rfl, ⟨rfl, h⟩ | ⟨i, rfl, h⟩⟩
  · have h2 := Lib.hid h
    clear h
    go_wp2
    go_ret
    exact ⟨by rw [h2.out]; rfl, rfl⟩
  · have h2 := Lib.hid h
    clear h
    have hi : (0 : Int) ≤ (i : Int) := by omega
    go_wp2
    go_ret
    exact ⟨by rw [h2.out]; rfl, rfl⟩
set_option maxRecDepth 100000 in
theorem hasw_any (wd : Int) (w : World) : Calls Tryz.prog 266 #[.int .i64 wd] w fun e w' => e = .returned (.bool (decide (wd = 2 ∨ wd = 4))) ∧ w = w' := by
  by_cases h2 : wd = 2
  · subst h2
    go_enter Tryz.func266, Tryz.ntmps266
    go_wp2
    go_ret
    exact ⟨rfl, rfl⟩
  · by_cases h4 : wd = 4
    · subst h4
      go_enter Tryz.func266, Tryz.ntmps266
      go_wp2
      go_ret
      exact ⟨rfl, rfl⟩
    · have e2 : (wd == 2) = false := by simpa using h2
      have e4 : (wd == 4) = false := by simpa using h4
      have hd := Lib.hid (show decide (wd = 2 ∨ wd = 4) = false by simp [h2, h4])
      clear h2 h4
      go_enter Tryz.func266, Tryz.ntmps266
      go_wp2
      go_ret
      exact ⟨by rw [hd.out]; rfl, rfl⟩
set_option maxRecDepth 100000 in
set_option maxHeartbeats 3200000 in
theorem svalid_yes (wd : Int) (hw : wd = 2 ∨ wd = 4) (A : Option Addr) (n c : Nat) (ss : List Sg) (w : World) (hx : Segs w w.heap.size A n ss) (hn : n ≤ 1000000) :
    Calls Tryz.prog 265 #[.int .i64 wd, .slice A n c] w fun e w' => e = .returned (.bool (ss.all (sgOk wd))) ∧ Below w.heap.size w w' := by
  have HN := Lib.hid hx.1
  have HX := Lib.hid hx
  have hwd := decide_eq_true hw
  have HWd := Lib.hid (hasw_any wd w)
  rw [hwd] at HWd
  clear hx hwd
  go_enter Tryz.func265, Tryz.ntmps265
  go_wp2_with fail
  refine HWd.out.mono ?_
  rintro e w' ⟨rfl, rfl⟩
  go_wp2_with fail
  go_loopw [12] (fun i wr => (∃ k : Nat, k ≤ n ∧ i = .int .i64 k ∧ Hid ((ss.take k).all (sgOk wd) = true)) ∧ Below w.heap.size w wr) (fun i _ => n - (intOf i).toNat)
  case atStart => exact ⟨⟨0, Nat.zero_le _, rfl, Lib.hid (by simp)⟩, bl_refl w⟩
  case round =>
    obtain ⟨⟨k, hk, rfl, hall⟩, hb⟩ := hrel
    by_cases hlt : k < n
    · obtain ⟨b, o, rfl, hbB, hc0, hc1⟩ := (HX.out.below hb).at_ hlt
      have hkl := Lib.hid (show k < ss.length by have := HN.out; omega)
      have hNo := Lib.hid (fun h => sgall_no (P := sgOk wd) hkl.out h)
      have hYe := Lib.hid (fun h => sgall_step (P := sgOk wd) hkl.out hall.out h)
      have hU := (HX.out.2.1 _ (sgth_mem hkl.out)).2.2.2.2
      have hbs := hb.size
      generalize sgth ss k = s at *
      obtain ⟨sk, sA, sn, sc, sx⟩ := s
      dsimp only at hc0 hc1 hU
      unfold sgOk at hNo hYe
      dsimp only at hNo hYe
      by_cases hp : (sk = 1 ∨ sk = 2) ∧ 1 ≤ sn ∧ sn ≤ 255
      · have hb1 := bl_alloc hb (.cells #[.int .i64 sk, .slice sA sn sc] 51)
        have oB := Own.new wr 51 #[.int .i64 sk, .slice sA sn sc]
        have hU1 := Lib.hid ((hU.below hb1).more hb1.size)
        have hCF := Lib.hid (fun W B h => contf_any sA sn sc sx W B h (by omega))
        have hdp := decide_eq_true hp
        rw [hdp] at hNo hYe
        have hn1 : ¬ (sn : Int) < 1 := by omega
        have hn2 : ¬ (255 : Int) < (sn : Int) := by omega
        have hk12 := hp.1
        clear hp hU hdp
        rcases hw with rfl | rfl
        · rcases hk12 with rfl | rfl
          all_goals
            go_wp2_with fail
            refine (hCF.out _ _ hU1.out).mono ?_
            cases hsx : narB sx
            · rw [hsx] at hNo
              have hR := Lib.hid (hNo.out rfl)
              clear hsx
              rintro e w2 ⟨rfl, rfl⟩
              go_wp2
              go_ret
              exact ⟨ret_boolA hR.out.symm, hb1⟩
            · rw [hsx] at hYe
              have hR := Lib.hid (hYe.out rfl)
              clear hsx
              rintro e w2 ⟨rfl, rfl⟩
              go_wp2
              go_roundw
              case rel => exact ⟨⟨k + 1, by omega, by go_num, hR⟩, hb1⟩
              case measure => simp [intOf]; omega
        · have hR := Lib.hid (hYe.out rfl)
          rcases hk12 with rfl | rfl
          all_goals
            go_wp2
            go_roundw
            case rel => exact ⟨⟨k + 1, by omega, by go_num, hR⟩, hb1⟩
            case measure => simp [intOf]; omega
      · have hR := Lib.hid (hNo.out (by rw [decide_eq_false hp]; rfl))
        have hb1 := bl_alloc hb (.cells #[.int .i64 sk, .slice sA sn sc] 51)
        clear hNo hYe hU
        by_cases hk12 : sk = 1 ∨ sk = 2
        · by_cases hs1 : sn < 1
          · obtain rfl : sn = 0 := by omega
            clear hp hs1
            rcases hk12 with rfl | rfl
            all_goals
              go_wp2
              go_ret
              exact ⟨ret_boolA hR.out.symm, hb1⟩
          · have hs2 : (255 : Int) < (sn : Int) := by omega
            have hs3 : ¬ (sn : Int) < 1 := by omega
            clear hp hs1
            rcases hk12 with rfl | rfl
            all_goals
              go_wp2
              go_ret
              exact ⟨ret_boolA hR.out.symm, hb1⟩
        · have h1 : ¬ sk = 1 := fun h => hk12 (.inl h)
          have h2 : ¬ sk = 2 := fun h => hk12 (.inr h)
          have e1 : (sk == 1) = false := by simpa using h1
          have e2 : (sk == 2) = false := by simpa using h2
          clear hp hk12
          go_wp2
          go_ret
          exact ⟨ret_boolA hR.out.symm, hb1⟩
    · have HE := Lib.hid (show ss.all (sgOk wd) = true by have := hall.out; rwa [List.take_of_length_le (by rw [← HN.out]; omega)] at this)
      go_wp2
      go_ret
      exact ⟨ret_boolA HE.out.symm, hb⟩
set_option maxRecDepth 100000 in
theorem svalid_no (wd : Int) (hw : ¬ (wd = 2 ∨ wd = 4)) (A : Option Addr) (n c : Nat) (w : World) :
    Calls Tryz.prog 265 #[.int .i64 wd, .slice A n c] w fun e w' => e = .returned (.bool false) ∧ Below w.heap.size w w' := by
  have HWd := Lib.hid (hasw_any wd w)
  rw [decide_eq_false hw] at HWd
  clear hw
  go_enter Tryz.func265, Tryz.ntmps265
  go_wp2_with fail
  refine HWd.out.mono ?_
  rintro e w' ⟨rfl, rfl⟩
  go_wp2
  go_ret
  exact ⟨rfl, bl_refl _⟩
set_option maxRecDepth 100000 in
theorem svalid_any (wd : Int) (A : Option Addr) (n c : Nat) (ss : List Sg) (w : World) (hx : Segs w w.heap.size A n ss) (hn : n ≤ 1000000) :
    Calls Tryz.prog 265 #[.int .i64 wd, .slice A n c] w fun e w' => e = .returned (.bool (decide (wd = 2 ∨ wd = 4) && ss.all (sgOk wd))) ∧ Below w.heap.size w w' := by
  by_cases hw : wd = 2 ∨ wd = 4
  · rw [decide_eq_true hw, Bool.true_and]
    exact svalid_yes wd hw A n c ss w hx hn
  · rw [decide_eq_false hw, Bool.false_and]
    exact svalid_no wd hw A n c w
end Go.Proofs.YtmcnpkfeipelgaaGreatDoor

/- segment.Same and its reference -/
namespace Go.Proofs.YtmcnpkfeipelgaaGreatDoor
open Go.RowKit

/-- What Same compares of a segment. -/
def sgK (s : Sg) : Int × List Int := (s.k, s.xs)
theorem sgtake_step {ss ts : List Sg} {k : Nat} (hk : k < ss.length) (hk' : k < ts.length) (h : (ss.map sgK).take k = (ts.map sgK).take k) (e : sgK (sgth ss k) = sgK (sgth ts k)) : (ss.map sgK).take (k + 1) = (ts.map sgK).take (k + 1) := by
  rw [List.take_add_one, List.take_add_one, h, List.getElem?_map, List.getElem?_map, sgth_some hk, sgth_some hk', Option.map_some, Option.map_some, e]
theorem sgne {ss ts : List Sg} {k : Nat} (hk : k < ss.length) (hk' : k < ts.length) (e : sgK (sgth ss k) ≠ sgK (sgth ts k)) : ss.map sgK ≠ ts.map sgK := fun h => e (by
  have h2 := congrArg (fun l => l[k]?) h
  simpa [List.getElem?_map, sgth_some hk, sgth_some hk'] using h2)
set_option maxRecDepth 100000 in
theorem u32eq_any (A A' : Option Addr) (n n' c c' : Nat) (xs ys : List Int) (w : World) (B B' : Nat) (hx : U32s w B A n xs) (hy : U32s w B' A' n' ys) (hn : n ≤ 1000000000) (hn' : n' ≤ 1000000000) :
    Calls Tryz.prog 49 #[.slice A n c, .slice A' n' c'] w fun e w' => e = .returned (.bool (decide (xs = ys))) ∧ ∃ m, w.drewN m = w' := by
  have HN := Lib.hid hx.1
  have HN' := Lib.hid hy.1
  by_cases hne : n = n'
  · subst hne
    go_enter Tryz.func49, Tryz.ntmps49
    go_wp2
    go_loopw [4, 5, 13] (fun _ _ i wr => ∃ (k m : Nat), k ≤ n ∧ i = .int .i64 k ∧ xs.take k = ys.take k ∧ wr = w.drewN m) (fun _ _ i _ => n - (intOf i).toNat)
    case atStart => exact ⟨0, 0, Nat.zero_le _, rfl, by simp, rfl⟩
    case round =>
      obtain ⟨k, m, hk, rfl, heq, rfl⟩ := hrel
      have HEQ := Lib.hid heq
      clear heq
      by_cases hlt : k < n
      · obtain ⟨b, o, rfl, hb, hc⟩ := hx.at_ hlt
        obtain ⟨b', o', rfl, hb', hc'⟩ := hy.at_ hlt
        have hkx : k < xs.length := HN.out ▸ hlt
        have hky : k < ys.length := HN'.out ▸ hlt
        by_cases he : nth xs k = nth ys k
        · have he1 : (nth xs k != nth ys k) = false := by simp [he]
          have HE := Lib.hid he
          clear he
          go_wp2
          go_quiet (fail)
          go_wp2
          go_roundw
          case rel => exact ⟨k + 1, _, by omega, by go_num, take_eq_succ hkx hky HEQ.out HE.out, rfl⟩
          case measure => simp [intOf]; omega
        · have he1 : (nth xs k != nth ys k) = true := by simp [he]
          have HE := Lib.hid he
          clear he
          go_wp2
          go_quiet (fail)
          go_wp2
          go_ret
          exact ⟨by rw [decide_eq_false (ne_of_nth HE.out)]; rfl, m + nq, by simp⟩
      · have e : xs = ys := by
          have h1 := HN.out
          have h2 := HN'.out
          have h3 := HEQ.out
          rw [List.take_of_length_le (by omega), List.take_of_length_le (by omega)] at h3
          exact h3
        have HE := Lib.hid e
        clear e
        go_wp2
        go_ret
        exact ⟨by rw [decide_eq_true HE.out]; rfl, _, rfl⟩
  · have he1 : ((n : Int) != (n' : Int)) = true := by rw [bne_iff_ne]; omega
    have e : xs ≠ ys := by
      rintro rfl
      exact hne (HN.out.trans HN'.out.symm)
    clear hne
    go_enter Tryz.func49, Tryz.ntmps49
    go_wp2
    go_ret
    exact ⟨by rw [decide_eq_false e]; rfl, 0, rfl⟩
theorem sgK_ne {k k' : Int} {A A' : Option Addr} {n n' c c' : Nat} {xs xs' : List Int} (h : ¬ (k = k' ∧ xs = xs')) : sgK ⟨k, A, n, c, xs⟩ ≠ sgK ⟨k', A', n', c', xs'⟩ := fun e => h (Prod.mk.injEq .. ▸ e)
theorem sgK_eq {k k' : Int} {A A' : Option Addr} {n n' c c' : Nat} {xs xs' : List Int} (h : k = k' ∧ xs = xs') : sgK ⟨k, A, n, c, xs⟩ = sgK ⟨k', A', n', c', xs'⟩ := by
  obtain ⟨rfl, rfl⟩ := h
  rfl
set_option maxRecDepth 100000 in
set_option maxHeartbeats 1600000 in
theorem ssame1_any (s t : Sg) (w : World) (h1 : U32s w w.heap.size s.A s.n s.xs) (h2 : U32s w w.heap.size t.A t.n t.xs) (n1 : s.n ≤ 1000000000) (n2 : t.n ≤ 1000000000) :
    Calls Tryz.prog 97 #[.agg #[.int .i64 s.k, .slice s.A s.n s.c], .agg #[.int .i64 t.k, .slice t.A t.n t.c]] w fun e w' => e = .returned (.bool (decide (sgK s = sgK t))) ∧ Below w.heap.size w w' := by
  obtain ⟨sk, sA, sn, sc, sx⟩ := s
  obtain ⟨tk, tA, tn, tc, tx⟩ := t
  dsimp only at *
  have hE := Lib.hid (fun W B B' h h' => u32eq_any sA tA sn tn sc tc sx tx W B B' h h' n1 n2)
  have hb2 := bl_alloc (bl_alloc (bl_refl w) (.cells #[.int .i64 sk, .slice sA sn sc] 51)) (.cells #[.int .i64 tk, .slice tA tn tc] 51)
  have H1 := Lib.hid (h1.below hb2)
  have H2 := Lib.hid (h2.below hb2)
  clear h1 h2
  by_cases hk : sk = tk
  · subst hk
    have hD : Hid (decide (sgK ⟨sk, sA, sn, sc, sx⟩ = sgK ⟨sk, tA, tn, tc, tx⟩) = decide (sx = tx)) := Lib.hid (by
      by_cases hx : sx = tx
      · rw [decide_eq_true hx, decide_eq_true (sgK_eq ⟨rfl, hx⟩)]
      · rw [decide_eq_false hx, decide_eq_false (sgK_ne fun h => hx h.2)])
    generalize decide (sgK ⟨sk, sA, sn, sc, sx⟩ = sgK ⟨sk, tA, tn, tc, tx⟩) = D at *
    generalize decide (sx = tx) = D2 at *
    go_enter Tryz.func97, Tryz.ntmps97
    go_wp2_with fail
    refine (hE.out _ _ _ H1.out H2.out).mono ?_
    rintro e w' ⟨rfl, m, rfl⟩
    go_wp2
    go_ret
    exact ⟨ret_boolA hD.out.symm, bl_drewN hb2 m⟩
  · have hD : Hid (decide (sgK ⟨sk, sA, sn, sc, sx⟩ = sgK ⟨tk, tA, tn, tc, tx⟩) = false) := Lib.hid (decide_eq_false (sgK_ne fun h => hk h.1))
    generalize decide (sgK ⟨sk, sA, sn, sc, sx⟩ = sgK ⟨tk, tA, tn, tc, tx⟩) = D at *
    have he : (sk == tk) = false := by simpa using hk
    clear hk
    go_enter Tryz.func97, Tryz.ntmps97
    go_wp2
    go_ret
    exact ⟨ret_boolA hD.out.symm, hb2⟩
theorem segs_u32 {w : World} {B n : Nat} {A : Option Addr} {ss : List Sg} (h : Segs w B A n ss) {k : Nat} (hk : k < ss.length) : U32s w B (sgth ss k).A (sgth ss k).n (sgth ss k).xs := (h.2.1 _ (sgth_mem hk)).2.2.2.2
set_option maxRecDepth 100000 in
set_option maxHeartbeats 3200000 in
theorem efnS_any (A A' : Option Addr) (n n' c c' : Nat) (ss ts : List Sg) (w : World) (h : Segs w w.heap.size A n ss) (h' : Segs w w.heap.size A' n' ts) (hm : n ≤ 1000) (hm' : n' ≤ 1000) (hs : ∀ s ∈ ss, s.n ≤ 1000) (hs' : ∀ s ∈ ts, s.n ≤ 1000) :
    Calls Tryz.prog 96 #[.slice A n c, .slice A' n' c', .func (.func 97) #[] #[]] w fun e w' => e = .returned (.bool (decide (ss.map sgK = ts.map sgK))) ∧ Below w.heap.size w w' := by
  have HV := Lib.hid h
  have HV' := Lib.hid h'
  have HN := Lib.hid h.1
  have HN' := Lib.hid h'.1
  have HS := Lib.hid hs
  have HS' := Lib.hid hs'
  clear h h' hs hs'
  by_cases hne : n = n'
  · subst hne
    go_enter Tryz.func96, Tryz.ntmps96
    go_wp2_with fail
    go_loopw [17] (fun i wr => (∃ j : Nat, j ≤ n ∧ i = .int .i64 j ∧ Hid ((ss.map sgK).take j = (ts.map sgK).take j)) ∧ Below w.heap.size w wr) (fun i _ => n - (intOf i).toNat)
    case atStart => exact ⟨⟨0, Nat.zero_le _, rfl, Lib.hid rfl⟩, bl_refl w⟩
    case round =>
      obtain ⟨⟨j, hj, rfl, HEQ⟩, hbw⟩ := hrel
      by_cases hlt : j < n
      · obtain ⟨b, o, rfl, hbB, e0, e1⟩ := (HV.out.below hbw).at_ hlt
        obtain ⟨b', o', rfl, hbB', f0, f1⟩ := (HV'.out.below hbw).at_ hlt
        have hj1 := Lib.hid (show j < ss.length by rw [← HN.out]; exact hlt)
        have hj2 := Lib.hid (show j < ts.length by rw [← HN'.out]; exact hlt)
        have hbs := hbw.size
        have hlb' : b' < wr.heap.size := by omega
        have hb1 := bl_alloc (bl_alloc hbw (.cells #[.int .i64 (sgth ss j).k, .slice (sgth ss j).A (sgth ss j).n (sgth ss j).c] 51)) (.cells #[.int .i64 (sgth ts j).k, .slice (sgth ts j).A (sgth ts j).n (sgth ts j).c] 51)
        have hC := Lib.hid (ssame1_any (sgth ss j) (sgth ts j) _ (((segs_u32 HV.out hj1.out).below hb1).more hb1.size) (((segs_u32 HV'.out hj2.out).below hb1).more hb1.size) (by have := HS.out _ (sgth_mem hj1.out); omega) (by have := HS'.out _ (sgth_mem hj2.out); omega))
        have hSt := Lib.hid (sgtake_step hj1.out hj2.out HEQ.out)
        have hNe := Lib.hid (sgne hj1.out hj2.out)
        generalize sgth ss j = s at *
        generalize sgth ts j = t at *
        obtain ⟨sk, sA, sn, sc, sx⟩ := s
        obtain ⟨tk, tA, tn, tc, tx⟩ := t
        dsimp only at *
        go_wp2_with fail
        go_at_call 97
        refine hC.out.mono ?_
        by_cases he : sgK ⟨sk, sA, sn, sc, sx⟩ = sgK ⟨tk, tA, tn, tc, tx⟩
        · have hR := Lib.hid (hSt.out he)
          rw [decide_eq_true he]
          clear he hSt hNe e0 e1 f0 f1
          rintro e w2 ⟨rfl, hb2⟩
          have hb3 := bl_trans hb1 hb2
          go_wp2
          go_roundw
          case rel => exact ⟨⟨j + 1, by omega, by go_num, hR⟩, hb3⟩
          case measure => simp [intOf]; omega
        · have hR := Lib.hid (decide_eq_false (hNe.out he))
          rw [decide_eq_false he]
          clear he hSt hNe e0 e1 f0 f1
          rintro e w2 ⟨rfl, hb2⟩
          have hb3 := bl_trans hb1 hb2
          go_wp2
          go_ret
          exact ⟨ret_boolA hR.out.symm, hb3⟩
      · have HE := Lib.hid (show decide (ss.map sgK = ts.map sgK) = true from decide_eq_true (by
          have h1 := HN.out
          have h2 := HN'.out
          have h3 := HEQ.out
          rw [List.take_of_length_le (by rw [List.length_map]; omega), List.take_of_length_le (by rw [List.length_map]; omega)] at h3
          exact h3))
        go_wp2
        go_ret
        exact ⟨ret_boolA HE.out.symm, hbw⟩
  · have he1 : ((n : Int) != (n' : Int)) = true := by rw [bne_iff_ne]; omega
    have HE := Lib.hid (show decide (ss.map sgK = ts.map sgK) = false from decide_eq_false (fun h => hne (by
      have := congrArg List.length h
      rw [List.length_map, List.length_map] at this
      exact HN.out.trans (this.trans HN'.out.symm))))
    clear hne
    go_enter Tryz.func96, Tryz.ntmps96
    go_wp2
    go_ret
    exact ⟨ret_boolA HE.out.symm, bl_refl w⟩
set_option maxRecDepth 100000 in
theorem ssame_any (A A' : Option Addr) (n n' c c' : Nat) (ss ts : List Sg) (w : World) (h : Segs w w.heap.size A n ss) (h' : Segs w w.heap.size A' n' ts) (hm : n ≤ 1000) (hm' : n' ≤ 1000) (hs : ∀ s ∈ ss, s.n ≤ 1000) (hs' : ∀ s ∈ ts, s.n ≤ 1000) :
    Calls Tryz.prog 48 #[.slice A n c, .slice A' n' c'] w fun e w' => e = .returned (.bool (decide (ss.map sgK = ts.map sgK))) ∧ Below w.heap.size w w' := by
  have hC := Lib.hid (efnS_any A A' n n' c c' ss ts w h h' hm hm' hs hs')
  generalize decide (ss.map sgK = ts.map sgK) = D at *
  clear h h' hs hs'
  go_enter Tryz.func48, Tryz.ntmps48
  go_wp2_with fail
  refine hC.out.mono ?_
  rintro e w' ⟨rfl, hb⟩
  go_wp2
  go_ret
  exact ⟨rfl, hb⟩
end Go.Proofs.YtmcnpkfeipelgaaGreatDoor

/- Readers whose bytes lie below a bound -/
namespace Go.Proofs.YtmcnpkfeipelgaaGreatDoor
open Go.RowKit

/-- A reader: block g holds the bytes xs that are left, which lie below the block B, and the offset p. -/
def RdrB (B : Nat) (w : World) (g : Nat) (xs : List Int) (p : Nat) : Prop :=
  ∃ A n c, Own w g 92 #[.slice A n c, .int .i64 p] ∧ n ≤ c ∧ Bytes w B A n xs ∧ B ≤ w.heap.size
theorem Rdr.toB {w : World} {g : Nat} {xs : List Int} {p : Nat} (h : Rdr w g xs p) : RdrB w.heap.size w g xs p := by
  obtain ⟨A, n, c, ho, hc, hB⟩ := h
  exact ⟨A, n, c, ho, hc, hB, Nat.le_refl _⟩
theorem RdrB.rdr {B : Nat} {w : World} {g : Nat} {xs : List Int} {p : Nat} (h : RdrB B w g xs p) : Rdr w g xs p := by
  obtain ⟨A, n, c, ho, hc, hB, hs⟩ := h
  exact ⟨A, n, c, ho, hc, hB.more hs⟩
theorem RdrB.range {B : Nat} {w : World} {g : Nat} {xs : List Int} {p : Nat} (h : RdrB B w g xs p) : ∀ x ∈ xs, 0 ≤ x ∧ x ≤ 255 := h.rdr.range
theorem RdrB.lt {B : Nat} {w : World} {g : Nat} {xs : List Int} {p : Nat} (h : RdrB B w g xs p) : g < w.heap.size := h.rdr.lt
theorem RdrB.size {B : Nat} {w : World} {g : Nat} {xs : List Int} {p : Nat} (h : RdrB B w g xs p) : B ≤ w.heap.size := by obtain ⟨A, n, c, ho, hc, hB, hs⟩ := h; exact hs
/-- What keeps the blocks below B and the reader's own keeps the reader. -/
theorem RdrB.keep {B : Nat} {w w' : World} {g : Nat} {xs : List Int} {p : Nat} (h : RdrB B w g xs p) (hs : w.heap.size ≤ w'.heap.size) (hk : ∀ b, b < B ∨ b = g → w'.heap[b]? = w.heap[b]?) : RdrB B w' g xs p := by
  obtain ⟨A, n, c, ho, hc, hB, hs0⟩ := h
  exact ⟨A, n, c, ho.keep (hk g (.inr rfl)), hc, hB.keep (fun b o hb => World.cell?_of_block (a := ⟨b, o, none⟩) (hk b (.inl hb))), Nat.le_trans hs0 hs⟩
theorem RdrB.below {B : Nat} {w w' : World} {g : Nat} {xs : List Int} {p : Nat} (h : RdrB B w g xs p) (hb : Below w.heap.size w w') : RdrB B w' g xs p :=
  h.keep hb.size (fun b hbB => hb.block b (by rcases hbB with hx | rfl; exact Nat.lt_of_lt_of_le hx h.size; exact h.lt))
theorem RdrB.setRow {B : Nat} {w : World} {g : Nat} {xs : List Int} {p k : Nat} {cs : Array Value} (h : RdrB B w g xs p) (hk : B ≤ k) (hg : k ≠ g) : RdrB B (w.setRow k cs) g xs p :=
  h.keep (by simp) (fun b hbB => setRow_other w k b _ (by rcases hbB with hx | rfl; omega; exact fun e => hg e.symm))
theorem RdrB.setCell {B : Nat} {w : World} {g : Nat} {xs : List Int} {p : Nat} {a : Addr} {v : Value} (h : RdrB B w g xs p) (hk : B ≤ a.block) (hg : a.block ≠ g) : RdrB B (w.setCell a v) g xs p :=
  h.keep (by simp) (fun b hbB => Below.heap_setCell w a v b (by rcases hbB with hx | rfl; omega; exact fun e => hg e.symm))
theorem RdrB.drewN {B : Nat} {w : World} {g : Nat} {xs : List Int} {p : Nat} (h : RdrB B w g xs p) (n : Nat) : RdrB B (w.drewN n) g xs p := h.keep (Nat.le_refl _) (fun _ _ => rfl)

theorem Bytes.onlyB {B : Nat} {w w' : World} {A : Option Addr} {n j p : Nat} {xs ys : List Int} (h : Bytes w B A n xs) (hr : Rdr w j ys p) (hb : w.grownBy w' (some j)) : Bytes w' B A n xs := by
  obtain ⟨A', n', c', ho, _⟩ := hr
  refine ⟨h.1, h.2.1, ?_⟩
  rcases h.2.2 with h0 | ⟨b, o, rfl, hlt, hc⟩
  · exact .inl h0
  · refine .inr ⟨b, o, rfl, hlt, fun i v hv => ?_⟩
    have hcell := hc i v hv
    have hne : b ≠ j := by
      rintro rfl
      have h3 := cell_of_row w b (o + i) _ _ (0, 0) ho
      rw [hcell] at h3
      rw [List.getElem?_map] at hv
      obtain ⟨x, _, rfl⟩ := Option.map_eq_some_iff.1 hv
      match h4 : o + i, h3 with
      | 0, h3 => simp at h3
      | 1, h3 => simp at h3
      | k + 2, h3 => simp at h3
    exact hb.cell hcell (fun e => hne (Option.some.inj e))

theorem next_endB {B : Nat} {w W : World} {g : Nat} {xs : List Int} {p : Nat} {A A' : Option Addr} {n n' c' m : Nat} {q : Int} (hR : RdrB B w g xs p) (hg : Own W g 92 #[.slice A' n' c', .int .i64 q] ∧ w.grownBy W (some g)) (hB : Bytes w B A n xs) (hm : m ≤ n) (hq : q = ((p + m : Nat) : Int))
    (hc : n' ≤ c') (hB' : Bytes w B A' n' (xs.drop m)) :
    Bytes W B A m (xs.take m) ∧ RdrB B W g (xs.drop m) (p + m) ∧ w.grownBy W (some g) := by
  subst hq
  exact ⟨(hB.front hm).onlyB hR.rdr hg.2, ⟨A', n', c', hg.1, hc, hB'.onlyB hR.rdr hg.2, Nat.le_trans hR.size hg.2.size⟩, hg.2⟩

set_option maxRecDepth 100000 in
set_option maxHeartbeats 400000 in
theorem next_yesB (B g : Nat) (xs : List Int) (p : Nat) (k : Int) (w : World) (h : RdrB B w g xs p) (hl : xs.length ≤ 1000000000) (hp : p ≤ 1000000000) (hk0 : 0 ≤ k) (hk : k ≤ (xs.length : Int)) :
    Calls Tryz.prog 83 #[.pointer (some ⟨g, 0, none⟩), .int .i64 k] w fun e w' => ∃ A, e = .returned (.tuple #[.slice A k.toNat k.toNat, .bool true]) ∧
      Bytes w' B A k.toNat (xs.take k.toNat) ∧ RdrB B w' g (xs.drop k.toNat) (p + k.toNat) ∧ w.grownBy w' (some g) := by
  have hR := h
  obtain ⟨A, n, c, ho, hc, hB, hs⟩ := h
  have h0 := ho.cell (i := 0) rfl
  have h1 := ho.cell (i := 1) rfl
  have hf0 := ho.frozen 0
  have hf1 := ho.frozen 1
  have hn := Lib.hid hB.1
  rw [← hB.1] at hk hl
  go_enter Tryz.func83, Tryz.ntmps83
  go_wp2
  · have hck : c = k.toNat := by assumption
    have hB2 := hB.cut (k := k.toNat) (cap := c) (by omega) hc
    rw [if_pos hck] at hB2
    go_ret2
    exact ⟨A, rfl, next_endB hR (own_two ho _ _) hB (by omega) (by omega) (by omega) hB2⟩
  · have hck : ¬ c = k.toNat := by assumption
    have hB2 := hB.cut (k := k.toNat) (cap := c) (by omega) hc
    rw [if_neg hck] at hB2
    go_ret2
    exact ⟨A, rfl, next_endB hR (own_two ho _ _) hB (by omega) (by omega) (by omega) hB2⟩

set_option maxRecDepth 100000 in
set_option maxHeartbeats 400000 in
theorem take_yesB (B g : Nat) (xs : List Int) (p : Nat) (k : Int) (w : World) (h : RdrB B w g xs p) (hl : xs.length ≤ 1000000000) (hp : p ≤ 1000000000) (hk0 : 0 ≤ k) (hk : k ≤ (xs.length : Int)) :
    Calls Tryz.prog 37 #[.pointer (some ⟨g, 0, none⟩), .int .i64 k] w fun e w' => ∃ j, e = .returned (.tuple #[.slice (some ⟨j, 0, none⟩) k.toNat k.toNat, .bool true]) ∧ w.heap.size ≤ j ∧
      Own w' j 5 ((xs.take k.toNat).map (Value.int .u8)).toArray ∧ RdrB B w' g (xs.drop k.toNat) (p + k.toNat) ∧ w.grownBy w' (some g) := by
  have hgl := h.lt
  have hr := h.range
  have hsz := h.size
  go_enter Tryz.func37, Tryz.ntmps37
  go_wp2_with fail
  refine (some_yes _ _).mono ?_
  rintro e w' ⟨rfl, rfl⟩
  go_wp2_with fail
  refine (next_yesB _ _ _ _ _ _ h hl hp hk0 hk).mono ?_
  rintro e w1 ⟨A, rfl, hB, hR, hg⟩
  have hs1 := hg.size
  go_wp2_with fail
  have hpt := parts_one (c := k.toNat) (hB.more hR.size) 25
  have hlen : (flat [(⟨A, k.toNat, k.toNat, xs.take k.toNat⟩ : Part)]).length ≤ 1000000000 := by rw [flat_one]; show (xs.take _).length ≤ _; rw [List.length_take]; omega
  refine (cat_any _ _ _ _ _ hpt (by omega) hlen).mono ?_
  rintro e w2 ⟨rfl, hown, hb⟩
  rw [flat_one] at hown
  have hw : (w1.alloc (Obj.cells #[Value.slice A k.toNat k.toNat] 25)).heap.size = w1.heap.size + 1 := by simp
  rw [hw] at hown hb
  have h1 := hb.size
  rw [hw] at h1
  go_wp2
  rw [flat_one]
  have ho := Own.of_full hown
  have hbb : Below w1.heap.size w1 w2 := ((Below.refl _ _).alloc (Nat.le_refl _) _).trans (hb.mono (by omega))
  have hn : (xs.take k.toNat).length = k.toNat := by rw [List.length_take]; omega
  go_ret2
  refine ⟨w1.heap.size + 1, ?_, by omega, ho, hR.below hbb, only_below hg hbb⟩
  show Ending.returned (.tuple #[.slice _ (xs.take k.toNat).length (xs.take k.toNat).length, _]) = _
  rw [hn]; rfl

set_option maxRecDepth 100000 in
set_option maxHeartbeats 400000 in
theorem number_yesB (B g : Nat) (xs : List Int) (p : Nat) (k : Int) (w : World) (h : RdrB B w g xs p) (hl : xs.length ≤ 1000000000) (hp : p ≤ 1000000000) (h1 : 1 ≤ k) (h4 : k ≤ 4) (hk : k ≤ (xs.length : Int)) :
    Calls Tryz.prog 88 #[.pointer (some ⟨g, 0, none⟩), .int .i64 k] w fun e w' => e = .returned (.tuple #[.int .u32 (big (xs.take k.toNat)), .bool true]) ∧
      RdrB B w' g (xs.drop k.toNat) (p + k.toNat) ∧ w.grownBy w' (some g) := by
  have hgl := h.lt
  have hr := h.range
  go_enter Tryz.func88, Tryz.ntmps88
  go_wp2_with fail
  refine (some_yes _ _).mono ?_
  rintro e w' ⟨rfl, rfl⟩
  go_wp2_with fail
  refine (next_yesB _ _ _ _ _ _ h hl hp (by omega) hk).mono ?_
  rintro e w1 ⟨A, rfl, hB, hR, hg⟩
  go_wp2
  go_loop [8, 10, 30] (fun s _ i => ∃ j : Nat, j ≤ k.toNat ∧ i = .int .i64 j ∧ s = .int .u32 (big ((xs.take k.toNat).take j))) (fun _ _ i => k.toNat - (intOf i).toNat)
  case atStart => exact ⟨0, Nat.zero_le _, rfl, rfl⟩
  case round =>
    obtain ⟨j, hj, rfl, rfl⟩ := hrel
    by_cases hlt : j < k.toNat
    · obtain ⟨b, o, rfl, hb, hc, h0, h1⟩ := hB.at_ hlt
      have hbt := big_take_lt j hr (by omega) hlt
      have hor := Lib.hid (or_byte _ _ hbt.1 hbt.2 h0 h1)
      have hsn := Lib.hid (big_snoc ((xs.take k.toNat).take j) (nth (xs.take k.toNat) j))
      have htk := Lib.hid (take_nth (xs := xs.take k.toNat) (k := j) (by rw [List.length_take]; omega))
      go_wp2
      go_round
      case rel => exact ⟨j + 1, by omega, by go_num, by rw [hor.out, htk.out, hsn.out]⟩
      case measure => simp [intOf]; omega
    · have hjk := Lib.hid (show j = k.toNat by omega)
      go_wp2
      go_ret2
      refine ⟨?_, hR, hg⟩
      show Ending.returned (.tuple #[.int .u32 (big ((xs.take k.toNat).take j)), _]) = _
      rw [hjk.out, List.take_take, Nat.min_self]; rfl
end Go.Proofs.YtmcnpkfeipelgaaGreatDoor

/- prefix.Read -/
namespace Go.Proofs.YtmcnpkfeipelgaaGreatDoor
open Go.RowKit

theorem only_setRow {a w : World} {g k : Nat} {cs : Array Value} (h : a.grownBy w (some g)) (hk : a.heap.size ≤ k) : a.grownBy (w.setRow k cs) (some g) :=
  ⟨h.os, h.tape, h.output, by simpa using h.size, fun i hi hne => (setRow_other w k i _ (by omega)).trans (h.block i hi hne)⟩

set_option maxRecDepth 100000 in
theorem number_one (B g : Nat) (x : Int) (xs : List Int) (p : Nat) (w : World) (h : RdrB B w g (x :: xs) p) (hl : (x :: xs).length ≤ 1000000000) (hp : p ≤ 1000000000) :
    Calls Tryz.prog 88 #[.pointer (some ⟨g, 0, none⟩), .int .i64 1] w fun e w' => e = .returned (.tuple #[.int .u32 x, .bool true]) ∧
      RdrB B w' g xs (p + 1) ∧ w.grownBy w' (some g) := by
  refine (number_yesB B g _ p 1 w h hl hp (by omega) (by omega) (by rw [List.length_cons]; omega)).mono ?_
  rintro e w' ⟨rfl, hr, hg⟩
  refine ⟨?_, hr, hg⟩
  show Ending.returned (.tuple #[.int .u32 (big [x]), _]) = _
  simp [big]

set_option maxHeartbeats 400000 in
set_option maxRecDepth 100000 in
theorem pread_nil (f : Int) (g p : Nat) (w : World) (h : Rdr w g [] p) :
    Calls Tryz.prog 129 #[.int .i64 f, .pointer (some ⟨g, 0, none⟩)] w fun e w' => e = .returned (.tuple #[.agg (pfx 0 0 zero16), .bool false]) ∧ Below w.heap.size w w' := by
  have hz18 : #[.int .i64 0, .int .i64 0, .int .u8 0, .int .u8 0, .int .u8 0, .int .u8 0, .int .u8 0, .int .u8 0, .int .u8 0, .int .u8 0, .int .u8 0, .int .u8 0, .int .u8 0, .int .u8 0, .int .u8 0, .int .u8 0, .int .u8 0, .int .u8 0] = pfx 0 0 zero16 := pfx_zero.symm
  have ho := Own.new w 54 (pfx 0 0 zero16)
  have h1 := h.below (bl_alloc (bl_refl w) (.cells (pfx 0 0 zero16) 54))
  go_enter Tryz.func129, Tryz.ntmps129
  go_wp2_with fail
  refine (number_no g [] p 1 _ h1 (by simp) (by omega) (by omega) (by simp)).mono ?_
  rintro e w' ⟨rfl, rfl⟩
  go_wp2_with (refine wpList_store_row rfl 54 _ _ rfl w.heap.size (pfx 0 0 zero16) rfl rfl 54 (pfx 0 0 zero16) ho (pfx_info rfl) rfl (pfx_one 0 0 zero16) ?_)
  have hfin := ho.setRow (cs' := pfx 0 0 zero16)
  exact bodyPost_ret (results_cell_tmp (p := 4) (t := 5) (fn := Tryz.f129) rfl _ _ w.heap.size 54 (pfx 0 0 zero16) _ rfl hfin pfx_desc rfl (pfx_info rfl)) rfl ⟨rfl, bl_setRow (bl_alloc (bl_refl w) _) (Nat.le_refl _)⟩

set_option maxHeartbeats 400000 in
set_option maxRecDepth 100000 in
theorem pread_bad (B : Nat) (f x : Int) (xs : List Int) (g p : Nat) (w : World) (h : RdrB B w g (x :: xs) p) (hl : (x :: xs).length ≤ 1000000000) (hp : p ≤ 1000000000) (hk : lenOk f x = false) :
    Calls Tryz.prog 129 #[.int .i64 f, .pointer (some ⟨g, 0, none⟩)] w fun e w' => e = .returned (.tuple #[.agg (pfx 0 0 zero16), .bool false]) ∧ RdrB B w' g xs (p + 1) ∧ w.grownBy w' (some g) := by
  have hz18 : #[.int .i64 0, .int .i64 0, .int .u8 0, .int .u8 0, .int .u8 0, .int .u8 0, .int .u8 0, .int .u8 0, .int .u8 0, .int .u8 0, .int .u8 0, .int .u8 0, .int .u8 0, .int .u8 0, .int .u8 0, .int .u8 0, .int .u8 0, .int .u8 0] = pfx 0 0 zero16 := pfx_zero.symm
  have ho := Own.new w 54 (pfx 0 0 zero16)
  have hg0 := h.lt
  have hBs := h.size
  have hb0 := bl_alloc (bl_refl w) (.cells (pfx 0 0 zero16) 54)
  have h1 := h.below hb0
  have hx := h.range x (List.mem_cons_self ..)
  have hx0 := hx.1
  have hx1 := hx.2
  have HL := Lib.hid hk
  clear hk hx
  go_enter Tryz.func129, Tryz.ntmps129
  go_wp2_with fail
  refine (number_one B g x xs p _ h1 hl hp).mono ?_
  rintro e w1 ⟨rfl, hr1, hgr⟩
  have ho1 := ho.grown hgr (fun e => by cases e; omega)
  have hgr1 := only_trans (only_of_below hb0 (some g)) hgr
  clear hb0 h1 ho
  go_wp2_with fail
  refine (hasLength_any f _ _).mono ?_
  rw [HL.out]
  rintro e w' ⟨rfl, rfl⟩
  go_wp2_with (refine wpList_store_row rfl 54 _ _ rfl w.heap.size (pfx 0 0 zero16) rfl rfl 54 (pfx 0 0 zero16) ho1 (pfx_info rfl) rfl (pfx_one 0 0 zero16) ?_)
  have hfin := ho1.setRow (cs' := pfx 0 0 zero16)
  exact bodyPost_ret (results_cell_tmp (p := 4) (t := 5) (fn := Tryz.f129) rfl _ _ w.heap.size 54 (pfx 0 0 zero16) _ rfl hfin pfx_desc rfl (pfx_info rfl)) rfl ⟨rfl, hr1.setRow hBs (by omega), only_setRow hgr1 (Nat.le_refl _)⟩

theorem lenOk_range {f x : Int} (h : lenOk f x = true) : 0 ≤ x ∧ x ≤ 128 := by
  have := width_ge f
  simp only [lenOk, decide_eq_true_eq] at h
  omega
theorem lenOk_make {f x : Int} (h : lenOk f x = true) : makeOk f x (sizeOfBits x).toNat = true := by
  have hr := lenOk_range h
  have hw : widthOf f = 32 ∨ widthOf f = 128 ∨ widthOf f = 0 := by unfold widthOf; split <;> (try split) <;> omega
  simp only [makeOk, h, Bool.true_and, decide_eq_true_eq]
  simp only [lenOk, decide_eq_true_eq] at h
  unfold sizeOfBits
  omega

set_option maxHeartbeats 400000 in
set_option maxRecDepth 100000 in
theorem pread_short (B : Nat) (f x : Int) (xs : List Int) (g p : Nat) (w : World) (h : RdrB B w g (x :: xs) p) (hl : (x :: xs).length ≤ 1000000000) (hp : p ≤ 999999999) (hk : lenOk f x = true) (hs : xs.length < (sizeOfBits x).toNat) :
    Calls Tryz.prog 129 #[.int .i64 f, .pointer (some ⟨g, 0, none⟩)] w fun e w' => e = .returned (.tuple #[.agg (pfx 0 0 zero16), .bool false]) ∧ RdrB B w' g xs (p + 1) ∧ w.grownBy w' (some g) := by
  have hz18 : #[.int .i64 0, .int .i64 0, .int .u8 0, .int .u8 0, .int .u8 0, .int .u8 0, .int .u8 0, .int .u8 0, .int .u8 0, .int .u8 0, .int .u8 0, .int .u8 0, .int .u8 0, .int .u8 0, .int .u8 0, .int .u8 0, .int .u8 0, .int .u8 0] = pfx 0 0 zero16 := pfx_zero.symm
  have ho := Own.new w 54 (pfx 0 0 zero16)
  have hg0 := h.lt
  have hBs := h.size
  have hb0 := bl_alloc (bl_refl w) (.cells (pfx 0 0 zero16) 54)
  have h1 := h.below hb0
  have hx := lenOk_range hk
  have hx0 := hx.1
  have hx1 := hx.2
  have HL := Lib.hid hk
  have HS := Lib.hid hs
  have hl' : xs.length ≤ 1000000000 := by rw [List.length_cons] at hl; omega
  clear hk hx hs
  go_enter Tryz.func129, Tryz.ntmps129
  go_wp2_with fail
  refine (number_one B g x xs p _ h1 hl (by omega)).mono ?_
  rintro e w1 ⟨rfl, hr1, hgr⟩
  have ho1 := ho.grown hgr (fun e => by cases e; omega)
  have hgr1 := only_trans (only_of_below hb0 (some g)) hgr
  clear hb0 h1 ho
  go_wp2_with fail
  refine (hasLength_any f _ _).mono ?_
  rw [HL.out]
  rintro e w' ⟨rfl, rfl⟩
  go_wp2_with fail
  refine (psize_any x _ hx0 (by omega)).mono ?_
  rintro e w' ⟨rfl, rfl⟩
  go_wp2_with fail
  refine (take_no g xs (p + 1) _ _ hr1.rdr hl' (.inr (by have := HS.out; omega))).mono ?_
  rintro e w' ⟨rfl, rfl⟩
  go_wp2_with (refine wpList_store_row rfl 54 _ _ rfl w.heap.size (pfx 0 0 zero16) rfl rfl 54 (pfx 0 0 zero16) ho1 (pfx_info rfl) rfl (pfx_one 0 0 zero16) ?_)
  have hfin := ho1.setRow (cs' := pfx 0 0 zero16)
  exact bodyPost_ret (results_cell_tmp (p := 4) (t := 5) (fn := Tryz.f129) rfl _ _ w.heap.size 54 (pfx 0 0 zero16) _ rfl hfin pfx_desc rfl (pfx_info rfl)) rfl ⟨rfl, hr1.setRow hBs (by omega), only_setRow hgr1 (Nat.le_refl _)⟩

set_option maxHeartbeats 400000 in
set_option maxRecDepth 100000 in
theorem pread_yes (B : Nat) (f x : Int) (xs : List Int) (g p : Nat) (w : World) (h : RdrB B w g (x :: xs) p) (hl : (x :: xs).length ≤ 1000000000) (hp : p ≤ 999999999) (hk : lenOk f x = true) (hs : (sizeOfBits x).toNat ≤ xs.length) :
    Calls Tryz.prog 129 #[.int .i64 f, .pointer (some ⟨g, 0, none⟩)] w fun e w' => e = .returned (.tuple #[.agg (pfx f x (maskL x (padTo (xs.take (sizeOfBits x).toNat)))), .bool true]) ∧ RdrB B w' g (xs.drop (sizeOfBits x).toNat) (p + 1 + (sizeOfBits x).toNat) ∧ w.grownBy w' (some g) := by
  have hz18 : #[.int .i64 0, .int .i64 0, .int .u8 0, .int .u8 0, .int .u8 0, .int .u8 0, .int .u8 0, .int .u8 0, .int .u8 0, .int .u8 0, .int .u8 0, .int .u8 0, .int .u8 0, .int .u8 0, .int .u8 0, .int .u8 0, .int .u8 0, .int .u8 0] = pfx 0 0 zero16 := pfx_zero.symm
  have ho := Own.new w 54 (pfx 0 0 zero16)
  have hg0 := h.lt
  have hBs := h.size
  have hb0 := bl_alloc (bl_refl w) (.cells (pfx 0 0 zero16) 54)
  have h1 := h.below hb0
  have hx := lenOk_range hk
  have hx0 := hx.1
  have hx1 := hx.2
  have hsz : 0 ≤ sizeOfBits x ∧ sizeOfBits x ≤ 16 := by unfold sizeOfBits; omega
  have hs0 := hsz.1
  have hs1 := hsz.2
  have hlen : (xs.take (sizeOfBits x).toNat).length ≤ 16 := by rw [List.length_take]; omega
  have hpl : IsAddr (padTo (xs.take (sizeOfBits x).toNat)) := padTo_addr hlen (fun y hy => h.range y (List.mem_cons_of_mem _ (List.mem_of_mem_take hy)))
  have hma := maskL_addr x hpl
  have HR := Lib.hid (fun (y : Int) (hy : y ∈ xs.take (sizeOfBits x).toNat) => h.range y (List.mem_cons_of_mem _ (List.mem_of_mem_take hy)))
  have HK := Lib.hid (lenOk_make hk)
  have HL := Lib.hid hk
  have HS := Lib.hid hs
  have HN := Lib.hid (show (xs.take (sizeOfBits x).toNat).length = (sizeOfBits x).toNat by rw [List.length_take]; omega)
  have hl' : xs.length ≤ 1000000000 := by rw [List.length_cons] at hl; omega
  clear hk hx hs hsz hlen
  go_enter Tryz.func129, Tryz.ntmps129
  go_wp2_with fail
  refine (number_one B g x xs p _ h1 hl (by omega)).mono ?_
  rintro e w1 ⟨rfl, hr1, hgr⟩
  have ho1 := ho.grown hgr (fun e => by cases e; omega)
  have hgr1 := only_trans (only_of_below hb0 (some g)) hgr
  clear hb0 h1 ho
  go_wp2_with fail
  refine (hasLength_any f _ _).mono ?_
  rw [HL.out]
  rintro e w' ⟨rfl, rfl⟩
  go_wp2_with fail
  refine (psize_any x _ hx0 (by omega)).mono ?_
  rintro e w' ⟨rfl, rfl⟩
  go_wp2_with fail
  refine (take_yesB B g xs (p + 1) _ _ hr1 hl' (by omega) hs0 (by have := HS.out; omega)).mono ?_
  rintro e w2 ⟨j, rfl, hj, hoj, hr2, hgr2⟩
  have ho2 := ho1.grown hgr2 (fun e => by cases e; omega)
  have hgr3 := only_trans hgr1 hgr2
  have hby := Bytes.of_owned hoj HR.out hoj.lt
  rw [HN.out] at hby
  have hsz1 := hgr1.size
  clear hgr hgr1 hgr2 ho1 hr1 hoj
  go_wp2_with fail
  refine (pmake_yes f x _ _ _ _ _ hby HK.out).mono ?_
  rintro e w3 ⟨rfl, hb3⟩
  have ho3 := ho2.step hb3
  have hr3 := hr2.below hb3
  have hgr4 := only_below hgr3 hb3
  have hi3 := Lib.hid (pfx_info (f := f) (l := x) hma.1)
  clear ho2 hr2 hgr3 hby
  go_wp2_with (refine wpList_store_row rfl 54 _ _ rfl w.heap.size (pfx f x (maskL x (padTo (xs.take (sizeOfBits x).toNat)))) rfl rfl 54 (pfx 0 0 zero16) ho3 hi3.out (by rw [pfx_size hma.1]; rfl) (pfx_one _ _ _) ?_)
  have hfin := ho3.setRow (cs' := pfx f x (maskL x (padTo (xs.take (sizeOfBits x).toNat))))
  exact bodyPost_ret (results_cell_tmp (p := 4) (t := 5) (fn := Tryz.f129) rfl _ _ w.heap.size 54 (pfx f x (maskL x (padTo (xs.take (sizeOfBits x).toNat)))) _ rfl hfin pfx_desc rfl hi3.out) rfl ⟨rfl, hr3.setRow hBs (by omega), only_setRow hgr4 (Nat.le_refl _)⟩
end Go.Proofs.YtmcnpkfeipelgaaGreatDoor

/- Routes in memory -/
namespace Go.Proofs.YtmcnpkfeipelgaaGreatDoor
open Go.RowKit

/-- A guarded load of a struct, its guard met. -/
theorem wpList_load_on {P : Program} {ops : Array Oper} {rest : List Oper} {op : Oper} {a : Act} {w : World} {Q : Exit → Act → World → Prop} (hw : Region.wanted op (yielded ops a.tmps) = true) (ty : TypeId) (x : Operand) (ho : op.op = .load ty x)
    (b o : Nat) (hx : a.eval x = .pointer (some ⟨b, o, none⟩)) (cs : List Value) (d : TypeDesc) (hc : w.rangeAt b o cs)
    (hu : P.underlying ty = some d) (hd : d.isRow = true) (hi : (P.info? ty).map (·.size) = some cs.length)
    (h : wpList P ops Q rest (a.put op.dst (.agg cs.toArray)) w) : wpList P ops Q (op :: rest) a w :=
  wpList_step fun K hK => by
    simp only [hw, if_true]
    exact wp_load_mid ty x ho b o hx cs d hc hu hd hi (hK _ _ h)

/-- A route. -/
structure Rt where
  p : Int
  f : Int
  l : Int
  a : List Int
def Rt.Ok (r : Rt) : Prop := IsAddr r.a ∧ 0 ≤ r.p ∧ r.p ≤ 4294967295
def rt (r : Rt) : Array Value := #[.int .u32 r.p] ++ pfx r.f r.l r.a
theorem rt_size {r : Rt} (h : r.a.length = 16) : (rt r).size = 19 := by simp [rt, pfx_size h]
theorem rt_0 (r : Rt) : (rt r)[0]? = some (.int .u32 r.p) := by unfold rt; rw [Array.getElem?_append_left (by simp)]; rfl
theorem rt_at (r : Rt) (j : Nat) : (rt r)[1 + j]? = (pfx r.f r.l r.a)[j]? := by
  unfold rt
  rw [Array.getElem?_append_right (by simp)]
  simp
theorem rt_1 (r : Rt) : (rt r)[1]? = some (.int .i64 r.f) := (rt_at r 0).trans (pfx_0 _ _ _)
theorem rt_2 (r : Rt) : (rt r)[2]? = some (.int .i64 r.l) := (rt_at r 1).trans (pfx_1 _ _ _)
theorem rt_one (r : Rt) : (rt r).all (·.oneCell') = true := by
  unfold rt
  rw [Array.all_append, pfx_one, Bool.and_true, Array.all_eq_true_iff_forall_mem]
  intro x hx
  simp only [List.mem_toArray, List.mem_cons, List.not_mem_nil, or_false] at hx
  subst hx
  simp [Value.oneCell']
set_option maxRecDepth 100000 in
theorem rt_info {r : Rt} (h : r.a.length = 16) : (Tryz.prog.info? 56).map (·.size) = some (rt r).size := by rw [rt_size h]; kernel_rfl
set_option maxRecDepth 100000 in
theorem rt_infol {r : Rt} (h : r.a.length = 16) : (Tryz.prog.info? 56).map (·.size) = some (rt r).toList.length := by rw [Array.length_toList, rt_size h]; kernel_rfl
set_option maxRecDepth 100000 in
theorem rt_desc : Tryz.prog.underlying 56 = some (.struct (Tryz.prog.fieldsOf 56)) := by kernel_rfl
set_option maxRecDepth 100000 in
theorem pfx_infol {f l : Int} {a : List Int} (h : a.length = 16) : (Tryz.prog.info? 54).map (·.size) = some (pfx f l a).toList.length := by rw [Array.length_toList, pfx_size h]; kernel_rfl
def rt0 : Rt := ⟨0, 0, 0, zero16⟩
theorem rt_zero : rt rt0 = #[.int .u32 0, .int .i64 0, .int .i64 0, .int .u8 0, .int .u8 0, .int .u8 0, .int .u8 0, .int .u8 0, .int .u8 0, .int .u8 0, .int .u8 0, .int .u8 0, .int .u8 0, .int .u8 0, .int .u8 0, .int .u8 0, .int .u8 0, .int .u8 0, .int .u8 0] := by
  unfold rt rt0
  rw [pfx_zero]
  rfl

/-- A route's prefix lies in its block from cell 1 on. -/
theorem Own.pfxAt {w : World} {g : Nat} {t : TypeId} {r : Rt} (h : Own w g t (rt r)) : w.rangeAt g 1 (pfx r.f r.l r.a).toList := fun j v hv => by
  have hc := h.cell (i := 1 + j) (v := v) (by rw [rt_at]; simpa using hv)
  exact hc

/-- A list of routes. -/
def Routes (w : World) (B : Nat) (A : Option Addr) (n : Nat) (rs : List Rt) : Prop :=
  n = rs.length ∧ (∀ r ∈ rs, r.Ok) ∧ (rs = [] ∨ ∃ b o, A = some ⟨b, o, none⟩ ∧ b < B ∧ ∀ i r, rs[i]? = some r → w.rangeAt b (o + i * 19) (rt r).toList)
theorem Routes.keep {w w' : World} {B : Nat} {A : Option Addr} {n : Nat} {rs : List Rt} (h : Routes w B A n rs) (hk : ∀ b o, b < B → w'.cell? ⟨b, o, none⟩ = w.cell? ⟨b, o, none⟩) : Routes w' B A n rs := by
  obtain ⟨hn, ho, hr⟩ := h
  refine ⟨hn, ho, ?_⟩
  rcases hr with h0 | ⟨b, o, rfl, hb, hc⟩
  · exact .inl h0
  · exact .inr ⟨b, o, rfl, hb, fun i r hi j v hv => (hk b _ hb).trans (hc i r hi j v hv)⟩
theorem Routes.below {w w' : World} {B : Nat} {A : Option Addr} {n : Nat} {rs : List Rt} (h : Routes w B A n rs) (hb : Below B w w') : Routes w' B A n rs :=
  h.keep fun b o hB => World.cell?_of_block (a := ⟨b, o, none⟩) (hb.block b hB)
theorem Routes.more {w : World} {B B' : Nat} {A : Option Addr} {n : Nat} {rs : List Rt} (h : Routes w B A n rs) (hB : B ≤ B') : Routes w B' A n rs := by
  obtain ⟨hn, ho, hr⟩ := h
  refine ⟨hn, ho, ?_⟩
  rcases hr with h0 | ⟨b, o, rfl, hb, hc⟩
  · exact .inl h0
  · exact .inr ⟨b, o, rfl, by omega, hc⟩
def nthR (rs : List Rt) (i : Nat) : Rt := rs.getD i rt0
theorem nthR_some {rs : List Rt} {i : Nat} (h : i < rs.length) : rs[i]? = some (nthR rs i) := by
  unfold nthR
  rw [List.getD_eq_getElem?_getD, List.getElem?_eq_getElem h]; rfl
theorem nthR_mem {rs : List Rt} {i : Nat} (h : i < rs.length) : nthR rs i ∈ rs := List.mem_of_getElem? (nthR_some h)
theorem take_nthR {rs : List Rt} {i : Nat} (h : i < rs.length) : rs.take (i + 1) = rs.take i ++ [nthR rs i] := by
  rw [List.take_add_one, nthR_some h]; rfl
theorem Routes.at_ {w : World} {B : Nat} {A : Option Addr} {n : Nat} {rs : List Rt} (h : Routes w B A n rs) {i : Nat} (hi : i < n) :
    ∃ b o, A = some ⟨b, o, none⟩ ∧ b < B ∧ (nthR rs i).Ok ∧ w.rangeAt b (o + i * 19) (rt (nthR rs i)).toList := by
  obtain ⟨hn, ho, h0 | ⟨b, o, hA, hb, hc⟩⟩ := h
  · subst h0; simp at hn; omega
  · have hi' : i < rs.length := by omega
    exact ⟨b, o, hA, hb, ho _ (nthR_mem hi'), hc i _ (nthR_some hi')⟩

/-- Whether a route is valid. -/
def rtOk (f : Int) (add : Bool) (r : Rt) : Bool := decide (r.f = f) && pfxOk r.f r.l r.a && (add || decide (r.p = 0))
theorem all_no {rs : List Rt} {P : Rt → Bool} {i : Nat} (h : i < rs.length) (hp : P (nthR rs i) = false) : rs.all P = false := by
  rw [List.all_eq_false]
  exact ⟨_, nthR_mem h, by simp [hp]⟩
theorem all_step {rs : List Rt} {P : Rt → Bool} {i : Nat} (h : i < rs.length) (h0 : (rs.take i).all P = true) (hp : P (nthR rs i) = true) : (rs.take (i + 1)).all P = true := by
  rw [take_nthR h, List.all_append, h0]; simp [hp]

set_option maxHeartbeats 1600000 in
set_option maxRecDepth 100000 in
theorem nvalid_t (f : Int) (A : Option Addr) (n c : Nat) (rs : List Rt) (w : World) (h : Routes w w.heap.size A n rs) (hn : n ≤ 1000000000) :
    Calls Tryz.prog 218 #[.int .i64 f, .bool true, .slice A n c] w fun e w' => e = .returned (.bool (rs.all (rtOk f true))) ∧ Below w.heap.size w w' := by
  have hz19 : #[.int .u32 0, .int .i64 0, .int .i64 0, .int .u8 0, .int .u8 0, .int .u8 0, .int .u8 0, .int .u8 0, .int .u8 0, .int .u8 0, .int .u8 0, .int .u8 0, .int .u8 0, .int .u8 0, .int .u8 0, .int .u8 0, .int .u8 0, .int .u8 0, .int .u8 0] = rt rt0 := rt_zero.symm
  have HN := Lib.hid h.1
  go_enter Tryz.func218, Tryz.ntmps218
  go_wp2_with fail
  go_loopw [11] (fun i wr => (∃ j : Nat, j ≤ n ∧ i = .int .i64 j ∧ (rs.take j).all (rtOk f true) = true) ∧ Below w.heap.size w wr) (fun i _ => n - (intOf i).toNat)
  case atStart => exact ⟨⟨0, Nat.zero_le _, rfl, by simp⟩, bl_refl w⟩
  case round =>
    obtain ⟨⟨j, hj, rfl, hall⟩, hbw⟩ := hrel
    by_cases hlt : j < n
    · obtain ⟨b, o, rfl, hbB, hok, hrg⟩ := (h.below hbw).at_ hlt
      have hrl := hok.1.1
      have hi19 := Lib.hid (rt_infol hrl)
      have hi18 := Lib.hid (pfx_infol (f := (nthR rs j).f) (l := (nthR rs j).l) hrl)
      have hi20 := Lib.hid (rt_info hrl)
      have hj' := Lib.hid (show j < rs.length by have := HN.out; omega)
      have ho' := (Own.new wr 56 (rt rt0))
      have ho := ho'.setRow (cs' := rt (nthR rs j))
      have hb1 := bl_setRow (cs := rt (nthR rs j)) (bl_alloc hbw (.cells (rt rt0) 56)) hbw.size
      have hc0 := ho.cell (rt_0 _)
      have hc1 := ho.cell (rt_1 _)
      have hpx := ho.pfxAt
      by_cases h1 : (nthR rs j).f = f
      · go_wp2_with (first | (refine wpList_load_mid rfl 56 _ rfl b (o + j * 19) rfl (rt (nthR rs j)).toList (.struct (Tryz.prog.fieldsOf 56)) hrg rt_desc rfl hi19.out ?_) | (refine wpList_store_row rfl 56 _ _ rfl wr.heap.size (rt (nthR rs j)) rfl rfl 56 (rt rt0) ho' hi20.out (by rw [rt_size hrl]; rfl) (rt_one _) ?_) | (refine wpList_load_on rfl 54 _ rfl wr.heap.size 1 rfl (pfx (nthR rs j).f (nthR rs j).l (nthR rs j).a).toList (.struct (Tryz.prog.fieldsOf 54)) hpx pfx_desc rfl hi18.out ?_))
        refine (pvalid_any _ (nthR rs j).l (nthR rs j).a _ hok.1).mono ?_
        rintro e w2 ⟨rfl, hb2⟩
        have ho2 := ho.step hb2
        have hb3 := bl_trans hb1 hb2
        have hc02 := ho2.cell (rt_0 _)
        go_wp2_with fail
        all_goals first
          | (go_ret; exact ⟨by rw [all_no hj'.out (by simp_all [rtOk])]; rfl, hb3⟩)
          | (go_roundw
             case rel => exact ⟨⟨j + 1, by omega, by go_num, all_step hj'.out hall (by simp_all [rtOk])⟩, hb3⟩
             case measure => simp [intOf]; omega)
      · go_wp2_with (first | (refine wpList_load_mid rfl 56 _ rfl b (o + j * 19) rfl (rt (nthR rs j)).toList (.struct (Tryz.prog.fieldsOf 56)) hrg rt_desc rfl hi19.out ?_) | (refine wpList_store_row rfl 56 _ _ rfl wr.heap.size (rt (nthR rs j)) rfl rfl 56 (rt rt0) ho' hi20.out (by rw [rt_size hrl]; rfl) (rt_one _) ?_))
        go_ret
        exact ⟨by rw [all_no hj'.out (by simp [rtOk, h1])]; rfl, hb1⟩
    · have hjn := Lib.hid (show j = rs.length by have := HN.out; omega)
      go_wp2
      go_ret
      refine ⟨?_, hbw⟩
      rw [hjn.out, List.take_length] at hall
      rw [hall]; rfl
set_option maxHeartbeats 1600000 in
set_option maxRecDepth 100000 in
theorem nvalid_f (f : Int) (A : Option Addr) (n c : Nat) (rs : List Rt) (w : World) (h : Routes w w.heap.size A n rs) (hn : n ≤ 1000000000) :
    Calls Tryz.prog 218 #[.int .i64 f, .bool false, .slice A n c] w fun e w' => e = .returned (.bool (rs.all (rtOk f false))) ∧ Below w.heap.size w w' := by
  have hz19 : #[.int .u32 0, .int .i64 0, .int .i64 0, .int .u8 0, .int .u8 0, .int .u8 0, .int .u8 0, .int .u8 0, .int .u8 0, .int .u8 0, .int .u8 0, .int .u8 0, .int .u8 0, .int .u8 0, .int .u8 0, .int .u8 0, .int .u8 0, .int .u8 0, .int .u8 0] = rt rt0 := rt_zero.symm
  have HN := Lib.hid h.1
  go_enter Tryz.func218, Tryz.ntmps218
  go_wp2_with fail
  go_loopw [11] (fun i wr => (∃ j : Nat, j ≤ n ∧ i = .int .i64 j ∧ (rs.take j).all (rtOk f false) = true) ∧ Below w.heap.size w wr) (fun i _ => n - (intOf i).toNat)
  case atStart => exact ⟨⟨0, Nat.zero_le _, rfl, by simp⟩, bl_refl w⟩
  case round =>
    obtain ⟨⟨j, hj, rfl, hall⟩, hbw⟩ := hrel
    by_cases hlt : j < n
    · obtain ⟨b, o, rfl, hbB, hok, hrg⟩ := (h.below hbw).at_ hlt
      have hrl := hok.1.1
      have hi19 := Lib.hid (rt_infol hrl)
      have hi18 := Lib.hid (pfx_infol (f := (nthR rs j).f) (l := (nthR rs j).l) hrl)
      have hi20 := Lib.hid (rt_info hrl)
      have hj' := Lib.hid (show j < rs.length by have := HN.out; omega)
      have ho' := (Own.new wr 56 (rt rt0))
      have ho := ho'.setRow (cs' := rt (nthR rs j))
      have hb1 := bl_setRow (cs := rt (nthR rs j)) (bl_alloc hbw (.cells (rt rt0) 56)) hbw.size
      have hc0 := ho.cell (rt_0 _)
      have hc1 := ho.cell (rt_1 _)
      have hpx := ho.pfxAt
      by_cases h1 : (nthR rs j).f = f
      · go_wp2_with (first | (refine wpList_load_mid rfl 56 _ rfl b (o + j * 19) rfl (rt (nthR rs j)).toList (.struct (Tryz.prog.fieldsOf 56)) hrg rt_desc rfl hi19.out ?_) | (refine wpList_store_row rfl 56 _ _ rfl wr.heap.size (rt (nthR rs j)) rfl rfl 56 (rt rt0) ho' hi20.out (by rw [rt_size hrl]; rfl) (rt_one _) ?_) | (refine wpList_load_on rfl 54 _ rfl wr.heap.size 1 rfl (pfx (nthR rs j).f (nthR rs j).l (nthR rs j).a).toList (.struct (Tryz.prog.fieldsOf 54)) hpx pfx_desc rfl hi18.out ?_))
        refine (pvalid_any _ (nthR rs j).l (nthR rs j).a _ hok.1).mono ?_
        rintro e w2 ⟨rfl, hb2⟩
        have ho2 := ho.step hb2
        have hb3 := bl_trans hb1 hb2
        have hc02 := ho2.cell (rt_0 _)
        go_wp2_with fail
        all_goals first
          | (go_ret; exact ⟨by rw [all_no hj'.out (by simp_all [rtOk])]; rfl, hb3⟩)
          | (go_roundw
             case rel => exact ⟨⟨j + 1, by omega, by go_num, all_step hj'.out hall (by simp_all [rtOk])⟩, hb3⟩
             case measure => simp [intOf]; omega)
      · go_wp2_with (first | (refine wpList_load_mid rfl 56 _ rfl b (o + j * 19) rfl (rt (nthR rs j)).toList (.struct (Tryz.prog.fieldsOf 56)) hrg rt_desc rfl hi19.out ?_) | (refine wpList_store_row rfl 56 _ _ rfl wr.heap.size (rt (nthR rs j)) rfl rfl 56 (rt rt0) ho' hi20.out (by rw [rt_size hrl]; rfl) (rt_one _) ?_))
        go_ret
        exact ⟨by rw [all_no hj'.out (by simp [rtOk, h1])]; rfl, hb1⟩
    · have hjn := Lib.hid (show j = rs.length by have := HN.out; omega)
      go_wp2
      go_ret
      refine ⟨?_, hbw⟩
      rw [hjn.out, List.take_length] at hall
      rw [hall]; rfl
set_option maxRecDepth 100000 in
theorem nvalid_any (f : Int) (add : Bool) (A : Option Addr) (n c : Nat) (rs : List Rt) (w : World) (h : Routes w w.heap.size A n rs) (hn : n ≤ 1000000000) :
    Calls Tryz.prog 218 #[.int .i64 f, .bool add, .slice A n c] w fun e w' => e = .returned (.bool (rs.all (rtOk f add))) ∧ Below w.heap.size w w' := by
  cases add
  · exact nvalid_f f A n c rs w h hn
  · exact nvalid_t f A n c rs w h hn
end Go.Proofs.YtmcnpkfeipelgaaGreatDoor

/- nlri.Bytes -/
namespace Go.Proofs.YtmcnpkfeipelgaaGreatDoor
open Go.RowKit

set_option maxRecDepth 100000 in
theorem sl_slices : SliceOf Tryz.prog 131 25 1 24 := SliceOf.mk Tryz.underlying131 (z := .slice none 0 0) (by kernel_rfl) rfl (by decide)
theorem own_below {w w' : World} {base : Nat} {e : TypeId} {size n : Nat} {v : Value} {xs : List Value} (h : w.ownsRow base e size v n xs) (hb : Below w.heap.size w w') : w'.ownsRow base e size v n xs :=
  h.kept (row := none) ⟨hb.os, hb.tape, hb.output, hb.size, fun k hk _ => hb.block k hk⟩ (by cases hv : v.ownBlock <;> simp)

/-- A part whose bytes are a block of their own. -/
def PT (w : World) (p : Part) : Prop := p.n = p.xs.length ∧ (∀ x ∈ p.xs, 0 ≤ x ∧ x ≤ 255) ∧ ∃ g, p.a = some ⟨g, 0, none⟩ ∧ Own w g 5 (p.xs.map (Value.int .u8)).toArray
theorem PT.ok {w : World} {p : Part} (h : PT w p) : p.ok w w.heap.size := by
  obtain ⟨hn, hr, g, ha, ho⟩ := h
  unfold Part.ok
  rw [hn, ha]
  exact Bytes.of_owned ho hr ho.lt
theorem PT.step {w w' : World} {p : Part} (h : PT w p) (hb : Below w.heap.size w w') : PT w' p := by
  obtain ⟨hn, hr, g, ha, ho⟩ := h
  exact ⟨hn, hr, g, ha, ho.step hb⟩
theorem PT.grown {w w' : World} {p : Part} {base n : Nat} {v : Value} {xs : List Value} (h : PT w p) (hown : w.ownsRow base 25 1 v n xs) (hg : w.grownBy w' v.ownBlock) : PT w' p := by
  obtain ⟨hn, hr, g, ha, ho⟩ := h
  exact ⟨hn, hr, g, ha, ho.grown hg (fun e => own_blk hown ho (by decide) e.symm)⟩
theorem pt_parts {w : World} {base : Nat} {v : Value} {ps : List Part} (hown : w.ownsRow base 25 1 v ps.length (ps.map Part.v)) (hp : ∀ p ∈ ps, PT w p) :
    ∃ A c, v = .slice A ps.length c ∧ Parts w w.heap.size A ps.length ps := by
  obtain ⟨A, c, rfl, _, hs⟩ := own_val hown
  exact ⟨A, c, rfl, rfl, fun p h => (hp p h).ok, hs⟩
/-- What is so before an append of one more part: the parts so far. -/
def Pile (W w : World) (v : Value) (ps : List Part) : Prop := w.ownsRow W.heap.size 25 1 v ps.length (ps.map Part.v) ∧ (∀ p ∈ ps, PT w p) ∧ Below W.heap.size W w
theorem Pile.step {W w w' : World} {v : Value} {ps : List Part} (h : Pile W w v ps) (hb : Below w.heap.size w w') : Pile W w' v ps :=
  ⟨own_below h.1 hb, fun p hp => (h.2.1 p hp).step hb, bl_trans h.2.2 hb⟩
theorem Pile.more {W w w' : World} {v v' : Value} {ps : List Part} {q : Part} (h : Pile W w v ps) (hq : PT w q) {o : Obj} (hown : w'.ownsRow W.heap.size 25 1 v' (ps.length + 1) (ps.map Part.v ++ [q.v])) (hg : (w.alloc o).grownBy w' v.ownBlock) : Pile W w' v' (ps ++ [q]) := by
  have ha : Below w.heap.size w (w.alloc o) := bl_alloc (bl_refl w) o
  have h1 := h.step ha
  refine ⟨by simpa using hown, ?_, ?_⟩
  · intro p hp
    rcases List.mem_append.1 hp with hp | hp
    · exact (h1.2.1 p hp).grown h1.1 hg
    · rw [List.mem_singleton] at hp
      subst hp
      exact (hq.step ha).grown h1.1 hg
  · exact h1.2.2.grown hg h1.2.2.size (own_base h1.1)
theorem Pile.own {W w w' : World} {v : Value} {ps : List Part} {g : Nat} {t : TypeId} {cs : Array Value} (h : Pile W w v ps) (ho : Own w g t cs) (hne : 25 ≠ t) {o : Obj} (hg : (w.alloc o).grownBy w' v.ownBlock) : Own w' g t cs :=
  (ho.alloc o).grown hg (fun e => own_blk (h.step (bl_alloc (bl_refl w) o)).1 (ho.alloc o) hne e.symm)
theorem Routes.step {w w' : World} {W : World} {A : Option Addr} {n : Nat} {rs : List Rt} (h : Routes W W.heap.size A n rs) (_ : Below W.heap.size W w) (hb : Below W.heap.size W w') : Routes w' W.heap.size A n rs := h.below hb

/-- The form of a route. -/
def rtForm (add : Bool) (r : Rt) : List Int := (if add then digitsOf 4 r.p else []) ++ pfxForm r.l r.a
def formAll (add : Bool) (rs : List Rt) : List Int := rs.flatMap (rtForm add)
theorem formAll_take {add : Bool} {rs : List Rt} {j : Nat} (h : j < rs.length) : formAll add (rs.take (j + 1)) = formAll add (rs.take j) ++ rtForm add (nthR rs j) := by
  unfold formAll
  rw [take_nthR h, List.flatMap_append]; simp
theorem rtForm_len {add : Bool} {r : Rt} {f : Int} (h : pfxOk f r.l r.a = true) : (rtForm add r).length ≤ 21 := by
  have := pfxOk_range h
  unfold rtForm pfxForm
  have h4 := digitsOf_len 4 r.p
  have h5 : (sizeOfBits r.l).toNat ≤ 16 := by unfold sizeOfBits; omega
  cases add <;> simp [h4] <;> omega
theorem formAll_len {add : Bool} {f : Int} {rs : List Rt} (h : rs.all (rtOk f add) = true) : (formAll add rs).length ≤ 21 * rs.length := by
  induction rs with
  | nil => simp [formAll]
  | cons r rs ih =>
    rw [List.all_cons, Bool.and_eq_true] at h
    have h1 := ih h.2
    have h2 : (rtForm add r).length ≤ 21 := rtForm_len (f := r.f) (by have := h.1; simp only [rtOk, Bool.and_eq_true] at this; exact this.1.2)
    unfold formAll at *
    rw [List.flatMap_cons, List.length_append, List.length_cons]
    omega

set_option maxHeartbeats 400000 in
set_option maxRecDepth 100000 in
theorem nbytes_no (f : Int) (add : Bool) (A : Option Addr) (n c : Nat) (rs : List Rt) (w : World) (h : Routes w w.heap.size A n rs) (hn : n ≤ 1000000000) (hk : rs.all (rtOk f add) = false) :
    Calls Tryz.prog 216 #[.int .i64 f, .bool add, .slice A n c] w fun e w' => e = .returned (.tuple #[.slice none 0 0, .bool false]) ∧ Below w.heap.size w w' := by
  go_enter Tryz.func216, Tryz.ntmps216
  go_wp2_with fail
  refine (nvalid_any f add _ _ _ rs _ h hn).mono ?_
  rw [hk]
  rintro e w1 ⟨rfl, hb⟩
  go_wp2
  go_ret2
  exact ⟨rfl, hb⟩

set_option maxHeartbeats 3200000 in
set_option maxRecDepth 100000 in
theorem nbytes_false (f : Int) (A : Option Addr) (n c : Nat) (rs : List Rt) (w : World) (h : Routes w w.heap.size A n rs) (hn : n ≤ 1000000) (hk : rs.all (rtOk f false) = true) :
    Calls Tryz.prog 216 #[.int .i64 f, .bool false, .slice A n c] w fun e w' => ∃ g, e = .returned (.tuple #[.slice (some ⟨g, 0, none⟩) (formAll false rs).length (formAll false rs).length, .bool true]) ∧ w.heap.size ≤ g ∧ Own w' g 5 ((formAll false rs).map (Value.int .u8)).toArray ∧ Below w.heap.size w w' := by
  have hz19 : #[.int .u32 0, .int .i64 0, .int .i64 0, .int .u8 0, .int .u8 0, .int .u8 0, .int .u8 0, .int .u8 0, .int .u8 0, .int .u8 0, .int .u8 0, .int .u8 0, .int .u8 0, .int .u8 0, .int .u8 0, .int .u8 0, .int .u8 0, .int .u8 0, .int .u8 0] = rt rt0 := rt_zero.symm
  have HN := Lib.hid h.1
  have HF := Lib.hid (formAll_len hk)
  have HK := Lib.hid hk
  clear hk
  go_enter Tryz.func216, Tryz.ntmps216
  go_wp2_with fail
  refine (nvalid_any f false _ _ _ rs _ h (by omega)).mono ?_
  rw [HK.out]
  rintro e w1 ⟨rfl, hb0⟩
  go_wp2_with fail
  go_loopw [8, 22] (fun v i wr => ∃ (j : Nat) (ps : List Part), j ≤ n ∧ i = .int .i64 j ∧ Pile w wr v ps ∧ flat ps = formAll false (rs.take j) ∧ ps.length ≤ 2 * j) (fun _ i _ => n - (intOf i).toNat)
  case atStart => exact ⟨0, [], Nat.zero_le _, rfl, ⟨World.ownsRow_nil _ _ _ _, by simp, hb0⟩, by simp [flat, formAll], Nat.zero_le _⟩
  case round =>
    obtain ⟨j, ps, hj, rfl, hpile, hflat, hpl⟩ := hrel
    by_cases hlt : j < n
    · obtain ⟨b, o, rfl, hbB, hok, hrg⟩ := (h.below hpile.2.2).at_ hlt
      have hrl := hok.1.1
      have hp0 := hok.2.1
      have hp1 := hok.2.2
      have hjl := Lib.hid (show j < rs.length by have := HN.out; omega)
      have hro := Lib.hid (show rtOk f false (nthR rs j) = true from List.all_eq_true.1 HK.out _ (nthR_mem hjl.out))
      have hpk := Lib.hid (show pfxOk (nthR rs j).f (nthR rs j).l (nthR rs j).a = true by have := hro.out; simp only [rtOk, Bool.and_eq_true] at this; exact this.1.2)
      have hi19 := Lib.hid (rt_infol hrl)
      have hi18 := Lib.hid (pfx_infol (f := (nthR rs j).f) (l := (nthR rs j).l) hrl)
      have hi20 := Lib.hid (rt_info hrl)
      have ho' := (Own.new wr 56 (rt rt0))
      have ho := ho'.setRow (cs' := rt (nthR rs j))
      have hb1 : Below wr.heap.size wr _ := bl_setRow (cs := rt (nthR rs j)) (bl_alloc (bl_refl wr) (.cells (rt rt0) 56)) (Nat.le_refl _)
      have hpile1 := hpile.step hb1
      have hc0 := ho.cell (rt_0 _)
      have HFl := Lib.hid hflat
      clear hflat hpile hb1
      go_wp2_with (first | (refine wpList_load_mid rfl 56 _ rfl b (o + j * 19) rfl (rt (nthR rs j)).toList (.struct (Tryz.prog.fieldsOf 56)) hrg rt_desc rfl hi19.out ?_) | (refine wpList_store_row rfl 56 _ _ rfl wr.heap.size (rt (nthR rs j)) rfl rfl 56 (rt rt0) ho' hi20.out (by rw [rt_size hrl]; rfl) (rt_one _) ?_) | (refine wpList_load_mid rfl 54 _ rfl wr.heap.size 1 rfl (pfx (nthR rs j).f (nthR rs j).l (nthR rs j).a).toList (.struct (Tryz.prog.fieldsOf 54)) ho.pfxAt pfx_desc rfl hi18.out ?_))
      refine (pbytes_own _ _ _ _ hok.1 hpk.out).mono ?_
      rintro e w4 ⟨g4, rfl, hg4, ho4, hb4⟩
      have hpile4 := hpile1.step hb4
      have hrng := pfxOk_range hpk.out
      have hq4 : PT w4 ⟨some ⟨g4, 0, none⟩, (pfxForm (nthR rs j).l (nthR rs j).a).length, (pfxForm (nthR rs j).l (nthR rs j).a).length, pfxForm (nthR rs j).l (nthR rs j).a⟩ := ⟨rfl, pfxForm_range hok.1 hrng.1 hrng.2, g4, rfl, ho4⟩
      go_wp2_with (at_builtin; refine wpList_append_grow _ rfl _ _ rfl sl_slices w.heap.size _ _ _ rfl (hpile4.1.alloc _) (w4.heap.size + 1) (some ⟨w4.heap.size, 0, none⟩) 1 1 [_] rfl rfl (Shows.of_owned (Own.new _ _ _) (by simp)) (one1 rfl) (by unfold maxLen; omega) (by omega) (by have := hpile4.2.2.size; simp; omega) ?_; intro v5 w5 hown_w5 hgrow_w5)
      have hpile5 := hpile4.more hq4 hown_w5 hgrow_w5
      go_roundw
      case rel =>
        refine ⟨j + 1, _, by omega, by go_num, hpile5, ?_, by simp; omega⟩
        rw [formAll_take hjl.out, ← HFl.out]
        simp [flat, rtForm]
      case measure => simp [intOf]; omega
    · have hjn := Lib.hid (show j = rs.length by have := HN.out; omega)
      obtain ⟨A2, c2, rfl, hP⟩ := pt_parts hpile.1 hpile.2.1
      have hfl := Lib.hid (show flat ps = formAll false rs by rw [hflat, hjn.out, List.take_length])
      go_wp2_with fail
      refine (cat_own hP (by omega) (by rw [hfl.out]; have := HF.out; have := HN.out; omega)).mono ?_
      rw [hfl.out]
      rintro e w2 ⟨rfl, ho2, hb2⟩
      go_wp2
      go_ret2
      exact ⟨_, rfl, hpile.2.2.size, ho2, bl_trans hpile.2.2 hb2⟩

set_option maxHeartbeats 3200000 in
set_option maxRecDepth 100000 in
theorem nbytes_true (f : Int) (A : Option Addr) (n c : Nat) (rs : List Rt) (w : World) (h : Routes w w.heap.size A n rs) (hn : n ≤ 1000000) (hk : rs.all (rtOk f true) = true) :
    Calls Tryz.prog 216 #[.int .i64 f, .bool true, .slice A n c] w fun e w' => ∃ g, e = .returned (.tuple #[.slice (some ⟨g, 0, none⟩) (formAll true rs).length (formAll true rs).length, .bool true]) ∧ w.heap.size ≤ g ∧ Own w' g 5 ((formAll true rs).map (Value.int .u8)).toArray ∧ Below w.heap.size w w' := by
  have hz19 : #[.int .u32 0, .int .i64 0, .int .i64 0, .int .u8 0, .int .u8 0, .int .u8 0, .int .u8 0, .int .u8 0, .int .u8 0, .int .u8 0, .int .u8 0, .int .u8 0, .int .u8 0, .int .u8 0, .int .u8 0, .int .u8 0, .int .u8 0, .int .u8 0, .int .u8 0] = rt rt0 := rt_zero.symm
  have HN := Lib.hid h.1
  have HF := Lib.hid (formAll_len hk)
  have HK := Lib.hid hk
  clear hk
  go_enter Tryz.func216, Tryz.ntmps216
  go_wp2_with fail
  refine (nvalid_any f true _ _ _ rs _ h (by omega)).mono ?_
  rw [HK.out]
  rintro e w1 ⟨rfl, hb0⟩
  go_wp2_with fail
  go_loopw [8, 22] (fun v i wr => ∃ (j : Nat) (ps : List Part), j ≤ n ∧ i = .int .i64 j ∧ Pile w wr v ps ∧ flat ps = formAll true (rs.take j) ∧ ps.length ≤ 2 * j) (fun _ i _ => n - (intOf i).toNat)
  case atStart => exact ⟨0, [], Nat.zero_le _, rfl, ⟨World.ownsRow_nil _ _ _ _, by simp, hb0⟩, by simp [flat, formAll], Nat.zero_le _⟩
  case round =>
    obtain ⟨j, ps, hj, rfl, hpile, hflat, hpl⟩ := hrel
    by_cases hlt : j < n
    · obtain ⟨b, o, rfl, hbB, hok, hrg⟩ := (h.below hpile.2.2).at_ hlt
      have hrl := hok.1.1
      have hp0 := hok.2.1
      have hp1 := hok.2.2
      have hjl := Lib.hid (show j < rs.length by have := HN.out; omega)
      have hro := Lib.hid (show rtOk f true (nthR rs j) = true from List.all_eq_true.1 HK.out _ (nthR_mem hjl.out))
      have hpk := Lib.hid (show pfxOk (nthR rs j).f (nthR rs j).l (nthR rs j).a = true by have := hro.out; simp only [rtOk, Bool.and_eq_true] at this; exact this.1.2)
      have hi19 := Lib.hid (rt_infol hrl)
      have hi18 := Lib.hid (pfx_infol (f := (nthR rs j).f) (l := (nthR rs j).l) hrl)
      have hi20 := Lib.hid (rt_info hrl)
      have ho' := (Own.new wr 56 (rt rt0))
      have ho := ho'.setRow (cs' := rt (nthR rs j))
      have hb1 : Below wr.heap.size wr _ := bl_setRow (cs := rt (nthR rs j)) (bl_alloc (bl_refl wr) (.cells (rt rt0) 56)) (Nat.le_refl _)
      have hpile1 := hpile.step hb1
      have hc0 := ho.cell (rt_0 _)
      have HFl := Lib.hid hflat
      clear hflat hpile hb1
      go_wp2_with (first | (refine wpList_load_mid rfl 56 _ rfl b (o + j * 19) rfl (rt (nthR rs j)).toList (.struct (Tryz.prog.fieldsOf 56)) hrg rt_desc rfl hi19.out ?_) | (refine wpList_store_row rfl 56 _ _ rfl wr.heap.size (rt (nthR rs j)) rfl rfl 56 (rt rt0) ho' hi20.out (by rw [rt_size hrl]; rfl) (rt_one _) ?_))
      refine (put_yes 4 _ _ (by omega) (by omega) hp0 (by show (nthR rs j).p < 4294967296; omega)).mono ?_
      rintro e w2 ⟨rfl, ho2, hb2⟩
      have hpile2 := hpile1.step hb2
      have hor2 := ho.step hb2
      have hsz : ((wr.alloc (.cells (rt rt0) 56)).setRow wr.heap.size (rt (nthR rs j))).heap.size = wr.heap.size + 1 := by simp
      rw [hsz] at ho2
      clear hsz
      have hq2 : PT w2 ⟨some ⟨wr.heap.size + 1, 0, none⟩, 4, 4, digitsOf 4 (nthR rs j).p⟩ := ⟨(digitsOf_len 4 _).symm, digitsOf_range 4 _, _, rfl, ho2⟩
      clear hpile1 ho hb2
      go_wp2_with (first | (at_builtin; refine wpList_append_grow _ rfl _ _ rfl sl_slices w.heap.size _ _ _ rfl (hpile2.1.alloc _) (w2.heap.size + 1) (some ⟨w2.heap.size, 0, none⟩) 1 1 [_] rfl rfl (Shows.of_owned (Own.new _ _ _) (by simp)) (one1 rfl) (by unfold maxLen; omega) (by omega) (by have := hpile2.2.2.size; simp; omega) ?_; intro v3 w3 hown_w3 hgrow_w3; have hpx := (hpile2.own hor2 (by decide) hgrow_w3).pfxAt) | (refine wpList_load_mid rfl 54 _ rfl wr.heap.size 1 rfl (pfx (nthR rs j).f (nthR rs j).l (nthR rs j).a).toList (.struct (Tryz.prog.fieldsOf 54)) hpx pfx_desc rfl hi18.out ?_))
      have hpile3 := hpile2.more hq2 hown_w3 hgrow_w3
      clear hpile2 hown_w3 hgrow_w3
      refine (pbytes_own _ _ _ _ hok.1 hpk.out).mono ?_
      rintro e w4 ⟨g4, rfl, hg4, ho4, hb4⟩
      have hpile4 := hpile3.step hb4
      have hrng := pfxOk_range hpk.out
      have hq4 : PT w4 ⟨some ⟨g4, 0, none⟩, (pfxForm (nthR rs j).l (nthR rs j).a).length, (pfxForm (nthR rs j).l (nthR rs j).a).length, pfxForm (nthR rs j).l (nthR rs j).a⟩ := ⟨rfl, pfxForm_range hok.1 hrng.1 hrng.2, g4, rfl, ho4⟩
      go_wp2_with (at_builtin; refine wpList_append_grow _ rfl _ _ rfl sl_slices w.heap.size _ _ _ rfl (hpile4.1.alloc _) (w4.heap.size + 1) (some ⟨w4.heap.size, 0, none⟩) 1 1 [_] rfl rfl (Shows.of_owned (Own.new _ _ _) (by simp)) (one1 rfl) (by rw [List.length_append, List.length_singleton]; unfold maxLen; omega) (by rw [List.length_append, List.length_singleton]; omega) (by have := hpile4.2.2.size; simp; omega) ?_; intro v5 w5 hown_w5 hgrow_w5)
      have hpile5 := hpile4.more hq4 hown_w5 hgrow_w5
      go_roundw
      case rel =>
        refine ⟨j + 1, _, by omega, by go_num, hpile5, ?_, by simp; omega⟩
        rw [formAll_take hjl.out, ← HFl.out]
        simp [flat, rtForm]
      case measure => simp [intOf]; omega
    · have hjn := Lib.hid (show j = rs.length by have := HN.out; omega)
      obtain ⟨A2, c2, rfl, hP⟩ := pt_parts hpile.1 hpile.2.1
      have hfl := Lib.hid (show flat ps = formAll true rs by rw [hflat, hjn.out, List.take_length])
      go_wp2_with fail
      refine (cat_own hP (by omega) (by rw [hfl.out]; have := HF.out; have := HN.out; omega)).mono ?_
      rw [hfl.out]
      rintro e w2 ⟨rfl, ho2, hb2⟩
      go_wp2
      go_ret2
      exact ⟨_, rfl, hpile.2.2.size, ho2, bl_trans hpile.2.2 hb2⟩

end Go.Proofs.YtmcnpkfeipelgaaGreatDoor

/- segment.Bytes -/
namespace Go.Proofs.YtmcnpkfeipelgaaGreatDoor
open Go.RowKit

/-- The form of a segment, numbers of K bytes. -/
def sgForm (K : Nat) (s : Sg) : List Int := [s.k, (s.n : Int)] ++ s.xs.flatMap (digitsOf K)
def sgsForm (K : Nat) (ss : List Sg) : List Int := ss.flatMap (sgForm K)
theorem sgsForm_step {K : Nat} {ss : List Sg} {k : Nat} (h : k < ss.length) : sgsForm K (ss.take (k + 1)) = sgsForm K (ss.take k) ++ sgForm K (sgth ss k) := by
  unfold sgsForm
  rw [take_sgth h, List.flatMap_append]; simp
theorem digs_len (K : Nat) (xs : List Int) : (xs.flatMap (digitsOf K)).length = K * xs.length := by
  induction xs with
  | nil => simp
  | cons x xs ih => rw [List.flatMap_cons, List.length_append, ih, digitsOf_len, List.length_cons, Nat.mul_add]; omega
theorem digs_step {K : Nat} {xs : List Int} {k : Nat} (h : k < xs.length) : (xs.take (k + 1)).flatMap (digitsOf K) = (xs.take k).flatMap (digitsOf K) ++ digitsOf K (nth xs k) := by
  rw [take_nth h, List.flatMap_append]; simp
theorem sgsForm_len {K : Nat} (hK : K ≤ 4) {ss : List Sg} (h : ∀ s ∈ ss, s.xs.length ≤ 255) : (sgsForm K ss).length ≤ 1022 * ss.length := by
  induction ss with
  | nil => simp [sgsForm]
  | cons s ss ih =>
    have h1 := ih (fun s hs => h s (List.mem_cons_of_mem _ hs))
    have h2 := h s List.mem_cons_self
    have h3 : (sgForm K s).length ≤ 1022 := by
      unfold sgForm
      rw [List.length_append, digs_len]
      have := Nat.mul_le_mul hK h2
      simp only [List.length_cons, List.length_nil]
      omega
    have e : sgsForm K (s :: ss) = sgForm K s ++ sgsForm K ss := by unfold sgsForm; rw [List.flatMap_cons]
    rw [e, List.length_append, List.length_cons]
    omega
theorem sgOk_iff {wd : Int} {s : Sg} : sgOk wd s = true ↔ ((s.k = 1 ∨ s.k = 2) ∧ 1 ≤ s.n ∧ s.n ≤ 255) ∧ (wd = 2 → ∀ x ∈ s.xs, x ≤ 65535) := by
  unfold sgOk narB
  simp only [Bool.and_eq_true, Bool.or_eq_true, decide_eq_true_eq, List.all_eq_true]
  constructor
  · rintro ⟨a, b⟩
    exact ⟨a, fun h => b.resolve_left (fun g => g h)⟩
  · rintro ⟨a, b⟩
    exact ⟨a, by by_cases h : wd = 2
                 · exact .inr (b h)
                 · exact .inl h⟩
set_option maxRecDepth 100000 in
theorem sbytes_no (wd : Int) (A : Option Addr) (n c : Nat) (ss : List Sg) (w : World) (h : Segs w w.heap.size A n ss) (hn : n ≤ 1000) (hk : (decide (wd = 2 ∨ wd = 4) && ss.all (sgOk wd)) = false) :
    Calls Tryz.prog 261 #[.int .i64 wd, .slice A n c] w fun e w' => e = .returned (.tuple #[.slice none 0 0, .bool false]) ∧ Below w.heap.size w w' := by
  have hV := Lib.hid (svalid_any wd A n c ss w h (by omega))
  rw [hk] at hV
  clear hk
  go_enter Tryz.func261, Tryz.ntmps261
  go_wp2_with fail
  refine hV.out.mono ?_
  rintro e w1 ⟨rfl, hb⟩
  go_wp2
  go_ret2
  exact ⟨rfl, hb⟩
set_option maxRecDepth 100000 in
theorem putS (wd : Int) (hw : wd = 2 ∨ wd = 4) (x : Int) (h0 : 0 ≤ x) (h1 : x < 4294967296) (h2 : wd = 2 → x ≤ 65535) (W : World) :
    Calls Tryz.prog 104 #[.int .i64 wd, .int .u32 x] W fun e w' => e = .returned (.tuple #[.slice (some ⟨W.heap.size, 0, none⟩) wd.toNat wd.toNat, .bool true]) ∧ Own w' W.heap.size 5 ((digitsOf wd.toNat x).map (Value.int .u8)).toArray ∧ Below W.heap.size W w' := by
  rcases hw with rfl | rfl
  · have := h2 rfl
    exact put_2 x W h0 (by omega)
  · exact put_4 x W h0 h1
theorem pt_two {W : World} {g : Nat} {a b : Int} (h : Own W g 5 #[.int .u8 a, .int .u8 b]) (ha : 0 ≤ a ∧ a ≤ 255) (hb : 0 ≤ b ∧ b ≤ 255) : PT W ⟨some ⟨g, 0, none⟩, 2, 2, [a, b]⟩ :=
  ⟨rfl, by simp; omega, g, rfl, h⟩
theorem pt_digs {W : World} {g K : Nat} {x : Int} (h : Own W g 5 ((digitsOf K x).map (Value.int .u8)).toArray) : PT W ⟨some ⟨g, 0, none⟩, K, K, digitsOf K x⟩ :=
  ⟨(digitsOf_len K x).symm, digitsOf_range K x, g, rfl, h⟩
theorem flat_app (ps : List Part) (q : Part) : flat (ps ++ [q]) = flat ps ++ q.xs := by unfold flat; rw [List.flatMap_append]; simp
set_option maxRecDepth 100000 in
set_option maxHeartbeats 6400000 in
theorem sbytes_yes (wd : Int) (hw : wd = 2 ∨ wd = 4) (A : Option Addr) (n c : Nat) (ss : List Sg) (w : World) (h : Segs w w.heap.size A n ss) (hn : n ≤ 1000) (hk : ss.all (sgOk wd) = true) :
    Calls Tryz.prog 261 #[.int .i64 wd, .slice A n c] w fun e w' => ∃ g, e = .returned (.tuple #[.slice (some ⟨g, 0, none⟩) (sgsForm wd.toNat ss).length (sgsForm wd.toNat ss).length, .bool true]) ∧ w.heap.size ≤ g ∧ Own w' g 5 ((sgsForm wd.toNat ss).map (Value.int .u8)).toArray ∧ Below w.heap.size w w' := by
  have hV := Lib.hid (svalid_yes wd hw A n c ss w h (by omega))
  rw [hk] at hV
  have HV := Lib.hid h
  have HN := Lib.hid h.1
  have HP := Lib.hid (putS wd hw)
  have HK := Lib.hid (fun s hs => sgOk_iff.1 (List.all_eq_true.1 hk s hs))
  have HXL := Lib.hid (fun s (hs : s ∈ ss) => (show s.xs.length ≤ 255 by have h1 := (HK.out s hs).1.2.2; have h2 := (h.2.1 s hs).2.2.2.2.1; omega))
  have HFL := Lib.hid (sgsForm_len (K := wd.toNat) (by rcases hw with rfl | rfl <;> decide) HXL.out)
  generalize wd.toNat = K at *
  clear h hk hw
  go_enter Tryz.func261, Tryz.ntmps261
  go_wp2_with fail
  refine hV.out.mono ?_
  rintro e w1 ⟨rfl, hb0⟩
  go_wp2_with fail
  go_loopw [6, 19] (fun v i wr => ∃ (j : Nat) (ps : List Part), j ≤ n ∧ i = .int .i64 j ∧ Pile w wr v ps ∧ Hid (flat ps = sgsForm K (ss.take j)) ∧ ps.length ≤ 256 * j) (fun _ i _ => n - (intOf i).toNat)
  case atStart => exact ⟨0, [], Nat.zero_le _, rfl, ⟨World.ownsRow_nil _ _ _ _, by simp, hb0⟩, Lib.hid (by simp [flat, sgsForm]), Nat.zero_le _⟩
  case round =>
    obtain ⟨j, ps, hj, rfl, hpile, hflat, hpl⟩ := hrel
    by_cases hlt : j < n
    · obtain ⟨b, o, rfl, hbB, e0, e1⟩ := (HV.out.below hpile.2.2).at_ hlt
      have hj1 := Lib.hid (show j < ss.length by rw [← HN.out]; exact hlt)
      have hSt := Lib.hid (sgsForm_step (K := K) hj1.out)
      have hU := (segs_u32 HV.out hj1.out)
      have hR := Lib.hid ((HV.out.2.1 _ (sgth_mem hj1.out)).2.2.2.1)
      have hOk := HK.out _ (sgth_mem hj1.out)
      generalize sgth ss j = s at *
      obtain ⟨sk, sA, sn, sc, sx⟩ := s
      dsimp only at *
      have HU := Lib.hid hU
      have HL := Lib.hid hU.1
      have hn1 : 1 ≤ sn := hOk.1.2.1
      have hn2 : sn ≤ 255 := hOk.1.2.2
      have hk12 := Lib.hid hOk.1.1
      have hNar := Lib.hid hOk.2
      have hk8 : IntKind.u8.wrap sk = sk := by rcases hOk.1.1 with rfl | rfl <;> rfl
      have hn8 : IntKind.u8.wrap (sn : Int) = (sn : Int) := by rw [IntKind.wrap_u8]; omega
      clear hU hOk
      have hbs := hpile.2.2.size
      obtain ⟨w0, rfl⟩ : ∃ x, x = wr := ⟨_, rfl⟩
      have oS := ((Own.new w0 51 #[.int .i64 sk, .slice sA sn sc]).alloc (.cells #[.int .u8 sk, .int .u8 (sn : Int)] 5))
      have oB := Own.new (w0.alloc (.cells #[.int .i64 sk, .slice sA sn sc] 51)) 5 #[.int .u8 sk, .int .u8 (sn : Int)]
      rw [show (w0.alloc (.cells #[.int .i64 sk, .slice sA sn sc] 51)).heap.size = w0.heap.size + 1 by simp] at oB
      have hb2 : Below w0.heap.size w0 _ := bl_alloc (bl_alloc (bl_refl w0) (.cells #[.int .i64 sk, .slice sA sn sc] 51)) (.cells #[.int .u8 sk, .int .u8 (sn : Int)] 5)
      have hpile2 := hpile.step hb2
      have hq2 := Lib.hid (pt_two oB (by rcases hk12.out with rfl | rfl <;> omega) (by omega))
      have HPl := Lib.hid hpile2
      have HoS := Lib.hid oS
      clear hpile hb2 oB oS hpile2
      go_wp2_with (at_builtin; go_loud (refine wpList_append_grow _ rfl _ _ rfl sl_slices w.heap.size _ _ _ rfl (HPl.out.1.alloc _) (w0.heap.size + 1 + 1 + 1) (some ⟨w0.heap.size + 1 + 1, 0, none⟩) 1 1 [.slice (some ⟨w0.heap.size + 1, 0, none⟩) 2 2] rfl rfl (Shows.of_owned (by have := Own.new ((w0.alloc (.cells #[.int .i64 sk, .slice sA sn sc] 51)).alloc (.cells #[.int .u8 sk, .int .u8 (sn : Int)] 5)) 25 #[.slice (some ⟨w0.heap.size + 1, 0, none⟩) 2 2]; simpa using this) (by omega)) (one1 rfl) (by unfold maxLen; omega) (by omega) (by simp; omega) ?_); intro v5 w5 hown_w5 hgrow_w5; go_loud (have hpile5 := HPl.out.more hq2.out hown_w5 hgrow_w5); go_loud (have oS5 := HPl.out.own HoS.out (by decide) hgrow_w5); clear hown_w5 hgrow_w5; have hF5 := Lib.hid (flat_app ps ⟨some ⟨w0.heap.size + 1, 0, none⟩, 2, 2, [sk, (sn : Int)]⟩); go_loud (have hL5 : (ps ++ [(⟨some ⟨w0.heap.size + 1, 0, none⟩, 2, 2, [sk, (sn : Int)]⟩ : Part)]).length ≤ 256 * j + 1 := by (rw [List.length_append, List.length_singleton]; omega)); go_loud (generalize ps ++ [(⟨some ⟨w0.heap.size + 1, 0, none⟩, 2, 2, [sk, (sn : Int)]⟩ : Part)] = ps5 at *); have hc0 := oS5.cell (i := 0) rfl; have hc1 := oS5.cell (i := 1) rfl)
      have hge := hpile5.2.2.size
      generalize w0.heap.size = g0 at *
      go_loopw [6, 37] (fun v i wr => ∃ (q : Nat) (qs : List Part), q ≤ sn ∧ i = .int .i64 q ∧ Pile w wr v qs ∧ Hid (flat qs = flat ps5 ++ (sx.take q).flatMap (digitsOf K)) ∧ qs.length ≤ 256 * j + 1 + q) (fun _ i _ => sn - (intOf i).toNat)
      case atStart => exact ⟨0, ps5, Nat.zero_le _, rfl, hpile5, Lib.hid (by simp), by omega⟩
      case round =>
        obtain ⟨q, qs, hq, rfl, hpq, hfq, hlq⟩ := hrel
        by_cases hltq : q < sn
        · obtain ⟨b2, o2, rfl, hb2B, hc2⟩ := (HU.out.below hpq.2.2).at_ hltq
          have hq1 := Lib.hid (show q < sx.length by rw [← HL.out]; exact hltq)
          have hD := Lib.hid (digs_step (K := K) hq1.out)
          have hxr := hR.out _ (nth_mem hq1.out)
          have hP := Lib.hid (HP.out (nth sx q) hxr.1 hxr.2 (fun e => hNar.out e _ (nth_mem hq1.out)))
          generalize nth sx q = x at *
          clear hxr
          go_wp2_with fail
          refine (hP.out _).mono ?_
          rintro e w6 ⟨rfl, ho6, hb6⟩
          have hpq6 := Lib.hid (hpq.step hb6)
          have hq6 := Lib.hid (pt_digs ho6)
          have hs6 := hpq6.out.2.2.size
          clear hpq
          go_wp2_with (at_builtin; refine wpList_append_grow _ rfl _ _ rfl sl_slices w.heap.size _ _ _ rfl (hpq6.out.1.alloc _) (w6.heap.size + 1) (some ⟨w6.heap.size, 0, none⟩) 1 1 [_] rfl rfl (Shows.of_owned (Own.new _ _ _) (by simp)) (one1 rfl) (by unfold maxLen; omega) (by omega) (by simp; omega) ?_; intro v7 w7 hown_w7 hgrow_w7)
          have hpile7 := hpq6.out.more hq6.out hown_w7 hgrow_w7
          go_roundw
          case rel =>
            refine ⟨q + 1, _, by omega, by go_num, hpile7, Lib.hid ?_, by rw [List.length_append, List.length_singleton]; omega⟩
            rw [flat_app, hfq.out, hD.out, List.append_assoc]
          case measure => simp [intOf]; omega
        · have hqe := Lib.hid (show q = sx.length by rw [← HL.out]; omega)
          have hFF := Lib.hid (show flat qs = sgsForm K (ss.take (j + 1)) by
            rw [hfq.out, hF5.out, hflat.out, hSt.out, hqe.out, List.take_length]
            unfold sgForm
            rw [List.append_assoc])
          go_wp2
          go_roundw
          case rel => exact ⟨j + 1, qs, by omega, by go_num, hpq, hFF, by omega⟩
          case measure => simp [intOf]; omega
    · have hjn := Lib.hid (show j = ss.length by have := HN.out; omega)
      obtain ⟨A2, c2, rfl, hP⟩ := pt_parts hpile.1 hpile.2.1
      have hfl := Lib.hid (show flat ps = sgsForm K ss by rw [hflat.out, hjn.out, List.take_length])
      go_wp2_with fail
      refine (cat_own hP (by omega) (by rw [hfl.out]; have := HFL.out; have := HN.out; omega)).mono ?_
      rw [hfl.out]
      rintro e w3 ⟨rfl, ho3, hb3⟩
      have hbb := bl_trans hpile.2.2 hb3
      have hle := hpile.2.2.size
      go_wp2
      go_ret2
      exact ⟨_, rfl, hle, ho3, hbb⟩
end Go.Proofs.YtmcnpkfeipelgaaGreatDoor
