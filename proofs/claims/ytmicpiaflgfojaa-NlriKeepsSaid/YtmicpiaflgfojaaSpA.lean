/- NlriSplits: what Split gives; rows of lists of routes -/
import Derived.Test.YtmicpiaflgfojaaConR
import Derived.Test.YtmicpiaflgfojaaNs
import Derived.Test.YtmicpiaflgfojaaApAt
import Derived.Test.YtmicpiaflgfojaaStepG
namespace Go.Proofs.Ytmicpiaflgfojaa
open Go.RowKit

def szR (add : Bool) (r : Rt) : Nat := (rtForm add r).length
def szL (add : Bool) (rs : List Rt) : Nat := (formAll add rs).length
theorem szL_snoc (add : Bool) (rs : List Rt) (r : Rt) : szL add (rs ++ [r]) = szL add rs + szR add r := by
  unfold szL szR formAll
  rw [List.flatMap_append, List.length_append]; simp
/-- Lists so far, and the one that is filled. -/
abbrev SpS := List (List Rt) × List Rt
def spStep (most : Int) (add : Bool) (s : SpS) (r : Rt) : SpS := if most < (szL add s.2 : Int) + szR add r then (s.1 ++ [s.2], [r]) else (s.1, s.2 ++ [r])
def spAt (most : Int) (add : Bool) (rs : List Rt) (k : Nat) : SpS := (rs.take k).foldl (spStep most add) ([], [])
theorem spAt_succ {most : Int} {add : Bool} {rs : List Rt} {k : Nat} (h : k < rs.length) : spAt most add rs (k + 1) = spStep most add (spAt most add rs k) (nthR rs k) := by
  unfold spAt
  rw [take_nthR h, List.foldl_append]; rfl
structure SpOk (most : Int) (add : Bool) (rs : List Rt) (k : Nat) (s : SpS) : Prop where
  fl : s.1.flatten ++ s.2 = rs.take k
  done : ∀ l ∈ s.1, l ≠ [] ∧ (szL add l : Int) ≤ most
  cur : s.2 = [] → s.1 = []
  sz : s.2 ≠ [] → (szL add s.2 : Int) ≤ most
theorem SpOk.zero (most : Int) (add : Bool) (rs : List Rt) : SpOk most add rs 0 (spAt most add rs 0) := ⟨rfl, (fun _ h => by cases h), fun _ => rfl, fun h => absurd rfl h⟩
theorem SpOk.push {most : Int} {add : Bool} {rs : List Rt} {k : Nat} {s : SpS} {r : Rt} (_h : SpOk most add rs k s) (hr : (szR add r : Int) ≤ most) (hp : most < (szL add s.2 : Int) + szR add r) : s.2 ≠ [] := fun e => by
  rw [e] at hp
  have h0 : szL add [] = 0 := rfl
  rw [h0] at hp
  omega
theorem SpOk.step {most : Int} {add : Bool} {rs : List Rt} {k : Nat} {s : SpS} (h : SpOk most add rs k s) (hk : k < rs.length) (hr : (szR add (nthR rs k) : Int) ≤ most) : SpOk most add rs (k + 1) (spStep most add s (nthR rs k)) := by
  unfold spStep
  by_cases hp : most < (szL add s.2 : Int) + szR add (nthR rs k)
  · rw [if_pos hp]
    have hne := h.push hr hp
    refine ⟨?_, fun l hl => ?_, (fun e => by cases e), fun _ => ?_⟩
    · show (s.1 ++ [s.2]).flatten ++ [nthR rs k] = _
      rw [List.flatten_append, take_nthR hk, ← h.fl]; simp
    · rcases List.mem_append.1 hl with hl | hl
      · exact h.done l hl
      · rw [List.mem_singleton] at hl
        subst hl
        exact ⟨hne, h.sz hne⟩
    · have e : szL add [nthR rs k] = szR add (nthR rs k) := by
        have := szL_snoc add [] (nthR rs k)
        have h0 : szL add [] = 0 := rfl
        rw [h0] at this
        simpa using this
      show (szL add [nthR rs k] : Int) ≤ most
      rw [e]
      exact hr
  · rw [if_neg hp]
    refine ⟨?_, h.done, (fun e => ?_), fun _ => ?_⟩
    · show s.1.flatten ++ (s.2 ++ [nthR rs k]) = _
      rw [← List.append_assoc, h.fl, take_nthR hk]
    · have := congrArg List.length e
      simp at this
    · show (szL add (s.2 ++ [nthR rs k]) : Int) ≤ most
      rw [szL_snoc]
      omega
theorem spAt_ok {most : Int} {add : Bool} {rs : List Rt} : ∀ {k : Nat}, k ≤ rs.length → (∀ r ∈ rs.take k, (szR add r : Int) ≤ most) → SpOk most add rs k (spAt most add rs k)
  | 0, _, _ => SpOk.zero most add rs
  | k + 1, hk, hs => by
    rw [spAt_succ (by omega)]
    rw [take_nthR (by omega)] at hs
    exact (spAt_ok (by omega) (fun r hr => hs r (List.mem_append_left _ hr))).step (by omega) (hs _ (by simp))
/-- The lists in the end. -/
def spEnd (s : SpS) : List (List Rt) := if s.2 = [] then s.1 else s.1 ++ [s.2]
def fitsR (most : Int) (add : Bool) (r : Rt) : Bool := decide ((szR add r : Int) ≤ most)
theorem spEnd_flat {most : Int} {add : Bool} {rs : List Rt} (h : SpOk most add rs rs.length (spAt most add rs rs.length)) : (spEnd (spAt most add rs rs.length)).flatten = rs := by
  have h2 := h.fl
  rw [List.take_length] at h2
  unfold spEnd
  split
  · rename_i e
    rw [e, List.append_nil] at h2
    exact h2
  · rw [List.flatten_append]
    simpa using h2
theorem spEnd_done {most : Int} {add : Bool} {rs : List Rt} {k : Nat} {s : SpS} (h : SpOk most add rs k s) : ∀ l ∈ spEnd s, l ≠ [] ∧ (szL add l : Int) ≤ most := by
  intro l hl
  unfold spEnd at hl
  split at hl
  · exact h.done l hl
  · rename_i e
    rcases List.mem_append.1 hl with hl | hl
    · exact h.done l hl
    · rw [List.mem_singleton] at hl
      subst hl
      exact ⟨e, h.sz e⟩

/-- A list that lies in a row of the call's own, below block Bc. -/
def LP (w : World) (base Bc : Nat) (p : RPart) : Prop := w.ownsRow base 31 19 p.v p.n (flatR p.xs) ∧ p.n = p.xs.length ∧ (∀ j, p.v.ownBlock = some j → j < Bc) ∧ ∀ r ∈ p.xs, r.Ok
/-- Lists in a row, and the one that is filled in a row from Bc on. -/
def SW (w0 w : World) (lv cv : Value) (ps : List RPart) (cur : List Rt) (Bc : Nat) : Prop := w.ownsRow w0.heap.size 22 1 lv ps.length (ps.map RPart.v) ∧ (∀ p ∈ ps, LP w w0.heap.size Bc p) ∧ w.ownsRow Bc 31 19 cv cur.length (flatR cur) ∧ (∀ r ∈ cur, r.Ok) ∧ w0.heap.size ≤ Bc ∧ Bc ≤ w.heap.size ∧ Below w0.heap.size w0 w
theorem sp_types : (22 : TypeId) ≠ 31 := by decide
theorem SW.start {w0 w : World} (h : Below w0.heap.size w0 w) : SW w0 w (.slice none 0 0) (.slice none 0 0) [] [] w.heap.size := ⟨World.ownsRow_nil _ _ _ _, (fun _ h => by cases h), World.ownsRow_nil _ _ _ _, (fun _ h => by cases h), h.size, Nat.le_refl _, h⟩
theorem LP.below {w w' : World} {base Bc : Nat} {p : RPart} (h : LP w base Bc p) (hb : Below w.heap.size w w') : LP w' base Bc p := ⟨own_belowG h.1 hb, h.2⟩
theorem LP.rest {w w' : World} {base Bc : Nat} {p : RPart} {P : Nat → Prop} (h : LP w base Bc p) (k : Rest w w' P) (hp : ∀ j, p.v.ownBlock = some j → ¬ P j) : LP w' base Bc p := ⟨row_rest h.1 k hp, h.2⟩
theorem LP.more {w : World} {base Bc Bc' : Nat} {p : RPart} (h : LP w base Bc p) (hb : Bc ≤ Bc') : LP w base Bc' p := ⟨h.1, h.2.1, fun j hj => Nat.lt_of_lt_of_le (h.2.2.1 j hj) hb, h.2.2.2⟩
theorem SW.below {w0 w w' : World} {lv cv : Value} {ps : List RPart} {cur : List Rt} {Bc : Nat} (h : SW w0 w lv cv ps cur Bc) (hb : Below w.heap.size w w') : SW w0 w' lv cv ps cur Bc := by
  obtain ⟨h1, h2, h3, h4, h5, h6, h7⟩ := h
  exact ⟨own_belowG h1 hb, fun p hp => (h2 p hp).below hb, own_belowG h3 hb, h4, h5, Nat.le_trans h6 hb.size, bl_trans h7 hb⟩
theorem SW.low {w0 w : World} {lv cv : Value} {ps : List RPart} {cur : List Rt} {Bc : Nat} (h : SW w0 w lv cv ps cur Bc) : Below w0.heap.size w0 w := by
  obtain ⟨h1, h2, h3, h4, h5, h6, h7⟩ := h
  exact h7
theorem SW.lists {w0 w : World} {lv cv : Value} {ps : List RPart} {cur : List Rt} {Bc : Nat} (h : SW w0 w lv cv ps cur Bc) : w.ownsRow w0.heap.size 22 1 lv ps.length (ps.map RPart.v) := by
  obtain ⟨h1, h2, h3, h4, h5, h6, h7⟩ := h
  exact h1
theorem SW.form {w0 w : World} {lv cv : Value} {ps : List RPart} {cur : List Rt} {Bc : Nat} (h : SW w0 w lv cv ps cur Bc) : (∃ A c, lv = .slice A ps.length c) ∧ ∃ A c, cv = .slice A cur.length c := by
  obtain ⟨h1, h2, h3, h4, h5, h6, h7⟩ := h
  exact ⟨own_form h1, own_form h3⟩
/-- The list is put behind the others. -/
theorem SW.push {w0 w w' : World} {lv lv' : Value} {A : Option Addr} {c Bc : Nat} {ps : List RPart} {cur : List Rt} (h : SW w0 w lv (.slice A cur.length c) ps cur Bc) (hown : w'.ownsRow w0.heap.size 22 1 lv' (ps.length + 1) (ps.map RPart.v ++ [.slice A cur.length c])) (hg : w.grownBy w' lv.ownBlock) :
    SW w0 w' lv' (.slice none 0 0) (ps ++ [⟨A, cur.length, c, cur⟩]) [] w'.heap.size := by
  obtain ⟨h1, h2, h3, h4, h5, h6, h7⟩ := h
  have R := Rest.of_grown hg (P := fun j => lv.ownBlock = some j) (fun j hj => hj)
  have hs := R.size
  refine ⟨by rw [List.length_append, List.map_append]; exact hown, fun p hp => ?_, World.ownsRow_nil _ _ _ _, (fun _ h => by cases h), by omega, Nat.le_refl _, h7.grown hg (by omega) (fun j hj => (row_typed h1 hj).2)⟩
  rcases List.mem_append.1 hp with hp | hp
  · exact ((h2 p hp).rest R (fun j hj e => (row_typed h1 e).1.ne (row_typed (h2 p hp).1 hj).1 sp_types rfl)).more (by omega)
  · rw [List.mem_singleton] at hp
    subst hp
    refine ⟨row_rest (own_leG h3 h5) R (fun j hj e => (row_typed h1 e).1.ne (row_typed h3 hj).1 sp_types rfl), rfl, fun j hj => ?_, h4⟩
    have := (row_typed h3 hj).1.lt
    omega
/-- A route more in the list. -/
theorem SW.add {w0 w w' : World} {lv cv cv' : Value} {ps : List RPart} {cur : List Rt} {r : Rt} {Bc : Nat} (h : SW w0 w lv cv ps cur Bc) (hr : r.Ok) (hown : w'.ownsRow Bc 31 19 cv' (cur.length + 1) (flatR cur ++ (rt r).toList)) (hg : w.grownBy w' cv.ownBlock) : SW w0 w' lv cv' ps (cur ++ [r]) Bc := by
  obtain ⟨h1, h2, h3, h4, h5, h6, h7⟩ := h
  have R := Rest.of_grown hg (P := fun j => cv.ownBlock = some j) (fun j hj => hj)
  refine ⟨row_rest h1 R (fun j hj e => (row_typed h1 hj).1.ne (row_typed h3 e).1 sp_types rfl), fun p hp => (h2 p hp).rest R (fun j hj e => by
    have h8 := (h2 p hp).2.2.1 j hj
    have h9 := (row_typed h3 e).2
    omega), ?_, fun q hq => ?_, h5, Nat.le_trans h6 R.size, h7.grown hg (by omega) (fun j hj => Nat.le_trans h5 (row_typed h3 hj).2)⟩
  · rw [List.length_append, flatR_append]
    simpa [flatR] using hown
  · rcases List.mem_append.1 hq with hq | hq
    · exact h4 q hq
    · rw [List.mem_singleton] at hq
      rw [hq]; exact hr
theorem SW.parts {w0 w : World} {A : Option Addr} {n c Bc : Nat} {cv : Value} {ps : List RPart} {cur : List Rt} (h : SW w0 w (.slice A n c) cv ps cur Bc) : n = ps.length ∧ RParts w w.heap.size A n ps ∧ n ≤ c := by
  obtain ⟨h1, h2, h3, h4, h5, h6, h7⟩ := h
  obtain ⟨A', c', e, hc, hs⟩ := own_val h1
  injection e with e1 e2 e3
  subst e1 e2 e3
  refine ⟨rfl, ⟨rfl, fun p hp => ?_, hs⟩, hc⟩
  obtain ⟨A2, c2, e, _, hr⟩ := own_routes (h2 p hp).1 (h2 p hp).2.2.2 (h2 p hp).2.1
  unfold RPart.v at e
  injection e with e1 e2 e3
  unfold RPart.ok
  rw [e1]
  exact hr
set_option maxRecDepth 100000 in
theorem sl_lists : SliceOf Try.prog 35 22 1 24 := SliceOf.mk Try.underlying35 (z := .slice none 0 0) (by kernel_rfl) rfl (by decide)
/-- What Split gives. -/
def SpR (most : Int) (add : Bool) (rs : List Rt) (w : World) (e : Ending) (w' : World) : Prop :=
  (rs.all (rtOk 2 add) = true ∧ rs.all (fitsR most add) = true ∧ ∃ A c ps, e = .returned (.tuple #[.slice A ps.length c, .bool true]) ∧ RParts w' w'.heap.size A ps.length ps ∧ ps.map RPart.xs = spEnd (spAt most add rs rs.length) ∧ Below w.heap.size w w') ∨
  ((rs.all (rtOk 2 add) && rs.all (fitsR most add)) = false ∧ e = .returned (.tuple #[.slice none 0 0, .bool false]) ∧ Below w.heap.size w w')
end Go.Proofs.Ytmicpiaflgfojaa
