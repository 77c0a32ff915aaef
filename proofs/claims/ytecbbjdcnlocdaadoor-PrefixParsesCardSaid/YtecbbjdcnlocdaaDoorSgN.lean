/- Rows of segments that a walk makes; segment.Narrow; slices.Clone at numbers -/
import Derived.Test.YtecbbjdcnlocdaaDoorSgB
import Derived.Test.YtecbbjdcnlocdaaDoorApAt
import Derived.WalkSpells
namespace Go.Proofs.YtecbbjdcnlocdaaDoor
open Go.RowKit Go.Sort

def nar (x : Int) : Int := if 65535 < x then 23456 else x
set_option maxRecDepth 100000 in
theorem sl_u32 : SliceOf Tryd.prog 52 51 1 4 := SliceOf.mk Tryd.underlying52 (z := .int .u32 0) (by kernel_rfl) rfl (by decide)
def cellsS (ss : List Sg) : List Value := ss.flatMap fun s => [.int .i64 s.k, .slice s.A s.n s.c]
theorem cellsS_get : ∀ {ss : List Sg} {i : Nat} {s : Sg}, ss[i]? = some s → (cellsS ss)[i * 2]? = some (.int .i64 s.k) ∧ (cellsS ss)[i * 2 + 1]? = some (.slice s.A s.n s.c)
  | [], i, s, h => by simp at h
  | x :: ss, 0, s, h => by
    simp only [List.getElem?_cons_zero, Option.some.injEq] at h
    subst h
    exact ⟨rfl, rfl⟩
  | x :: ss, i + 1, s, h => by
    rw [List.getElem?_cons_succ] at h
    obtain ⟨h1, h2⟩ := cellsS_get h
    have e : cellsS (x :: ss) = .int .i64 x.k :: .slice x.A x.n x.c :: cellsS ss := rfl
    rw [e, show (i + 1) * 2 = i * 2 + 1 + 1 by omega, List.getElem?_cons_succ, List.getElem?_cons_succ, List.getElem?_cons_succ, List.getElem?_cons_succ]
    exact ⟨h1, h2⟩
theorem cellsS_snoc (ss : List Sg) (s : Sg) : cellsS (ss ++ [s]) = cellsS ss ++ [.int .i64 s.k, .slice s.A s.n s.c] := by
  unfold cellsS
  rw [List.flatMap_append]; simp
theorem row_caps {w : World} {base : Nat} {e : TypeId} {size n c : Nat} {A : Option Addr} {xs : List Value} (h : w.ownsRow base e size (.slice A n c) n xs) : n ≤ c ∧ c ≤ maxLen := by
  rcases h.2 with ⟨h0, rfl⟩ | ⟨g, cap, cur, h0, _, _, h1, h2, _⟩
  · injection h0 with _ _ h0
    subst h0
    exact ⟨Nat.le_refl _, by unfold maxLen; omega⟩
  · injection h0 with _ _ h0
    subst h0
    exact ⟨h1, h2⟩
/-- A segment whose numbers lie in memory of the call's own. -/
def SD (w : World) (base : Nat) (s : Sg) : Prop := w.ownsRow base 51 1 (.slice s.A s.n s.c) s.n (s.xs.map (Value.int .u32)) ∧ s.n = s.xs.length ∧ (∀ x ∈ s.xs, 0 ≤ x ∧ x < 4294967296) ∧ (Lit.int .i64 s.k).wf = true
def SRow (w : World) (base : Nat) (v : Value) (ss : List Sg) : Prop := w.ownsRow base 61 2 v ss.length (cellsS ss) ∧ ∀ s ∈ ss, SD w base s
theorem SD.below {w w' : World} {base : Nat} {s : Sg} (h : SD w base s) (hb : Below w.heap.size w w') : SD w' base s := ⟨own_belowG h.1 hb, h.2⟩
theorem SD.lift {w : World} {base b : Nat} {s : Sg} (h : SD w base s) (hb : b ≤ base) : SD w b s := ⟨own_leG h.1 hb, h.2⟩
theorem SRow.below {w w' : World} {base : Nat} {v : Value} {ss : List Sg} (h : SRow w base v ss) (hb : Below w.heap.size w w') : SRow w' base v ss := ⟨own_belowG h.1 hb, fun s hs => (h.2 s hs).below hb⟩
theorem SRow.nil (w : World) (base : Nat) : SRow w base (.slice none 0 0) [] := ⟨World.ownsRow_nil _ _ _ _, fun _ h => by cases h⟩
theorem seg_types : 61 ≠ 51 := by decide
theorem SRow.push {w w' : World} {base : Nat} {v v' : Value} {ss : List Sg} {q : Sg} {o : Obj} (h : SRow w base v ss) (hq : SD w base q) (hown : w'.ownsRow base 61 2 v' (ss.length + 1) (cellsS ss ++ [.int .i64 q.k, .slice q.A q.n q.c])) (hg : (w.alloc o).grownBy w' v.ownBlock) : SRow w' base v' (ss ++ [q]) := by
  have ha := bl_alloc (bl_refl w) o
  have h1 := h.below ha
  have key : ∀ s, SD (w.alloc o) base s → SD w' base s := fun s hs => ⟨row_rest hs.1 (Rest.of_grown hg (P := fun j => v.ownBlock = some j) (fun j hj => hj)) (fun j hj e => ((row_typed h1.1 e).1.ne (row_typed hs.1 hj).1 seg_types) rfl), hs.2⟩
  refine ⟨?_, fun s hs => ?_⟩
  · rw [cellsS_snoc, List.length_append, List.length_singleton]
    exact hown
  · rcases List.mem_append.1 hs with hs | hs
    · exact key s (h1.2 s hs)
    · rw [List.mem_singleton] at hs
      subst hs
      exact key _ (hq.below ha)
theorem SD.u32s {w : World} {base : Nat} {s : Sg} (h : SD w base s) : U32s w w.heap.size s.A s.n s.xs := by
  obtain ⟨A, c, e, _, hs⟩ := own_val h.1
  injection e with e1 _ e2
  exact ⟨h.2.1, by rw [e1]; exact hs⟩
theorem SRow.segs {w : World} {base : Nat} {v : Value} {ss : List Sg} (h : SRow w base v ss) : ∃ A c, v = .slice A ss.length c ∧ Segs w w.heap.size A ss.length ss := by
  obtain ⟨A, c, rfl, hc, hs⟩ := own_val h.1
  refine ⟨A, c, rfl, rfl, fun s m => ?_, ?_⟩
  · have hd := h.2 s m
    exact ⟨(row_caps hd.1).1, (row_caps hd.1).2, hd.2.2.2, hd.2.2.1, hd.u32s⟩
  · rcases hs with h0 | ⟨b, o, hA, hb, hcell⟩
    · cases ss with
      | nil => exact .inl rfl
      | cons x r => simp [cellsS] at h0
    · exact .inr ⟨b, o, hA, hb, fun i s hi => ⟨hcell _ _ (cellsS_get hi).1, hcell _ _ (cellsS_get hi).2⟩⟩
theorem oneS (k : Int) (A : Option Addr) (n c : Nat) : ∀ u ∈ [(.int .i64 k : Value), .slice A n c], u.oneCell' = true := by
  intro u hu
  simp only [List.mem_cons, List.not_mem_nil, or_false] at hu
  rcases hu with rfl | rfl <;> rfl
def narK (s : Sg) : Int × List Int := (s.k, s.xs.map nar)
theorem nar_take {xs : List Int} {k : Nat} (h : k < xs.length) : ((xs.take (k + 1)).map nar).map (Value.int .u32) = ((xs.take k).map nar).map (Value.int .u32) ++ [.int .u32 (nar (nth xs k))] := by
  rw [take_nth h]; simp
theorem narK_take {ss : List Sg} {k : Nat} (h : k < ss.length) : (ss.take (k + 1)).map narK = (ss.take k).map narK ++ [narK (sgth ss k)] := by
  rw [take_sgth h]; simp
theorem nar_range {x : Int} (h : 0 ≤ x ∧ x < 4294967296) : 0 ≤ nar x ∧ nar x < 4294967296 := by unfold nar; split <;> omega
end Go.Proofs.YtecbbjdcnlocdaaDoor
