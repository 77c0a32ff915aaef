/- capability.Family, capability.Mode -/
import Derived.Test.YtniheakafkakhaaCqG
import Derived.Test.YtniheakafkakhaaRfD
import Derived.Maps.OwnIn
import Derived.Maps.Views
import Derived.Carry
namespace Go.Proofs.Ytniheakafkakhaa
open Go.RowKit Go.Shelf Go.Maps

attribute [local go_sem] Oper.semAt_some

def famF (q : Q4) : Int := famOf (q.a * 256 + q.b) q.d
def famM (q : Q4) : Int := famOf (q.a * 256 + q.b) q.c
theorem famOf_cases (a c : Int) : famOf a c = 0 ∨ famOf a c = 1 ∨ famOf a c = 2 := by unfold famOf; split <;> omega
theorem famOf_wf (a c : Int) : (Lit.int .i64 (famOf a c)).wf = true := by rcases famOf_cases a c with h | h | h <;> rw [h] <;> rfl
/-- A region whose operations but the last ones leave all as it is, met in a round of a range over a function. -/
theorem round_still_tail {P : Program} {id l₀ k : Nat} {Q : Exit → Act → World → Prop} {a : Act} {w : World} {l : List Oper} (n : Nat) (hm : P.follows .mixedOrders = true) (hB : Region.lexTailB .any l.toArray n = true) (hQ : ¬ LetsOut Q) (hd : noDefer l.toArray = true)
    (h : wpStill P l.toArray w.drew (fun a' => wpList P l.toArray Q (l.drop n) a' w.drew) (l.take n) a) : (Code.region id l.toArray true).wpIn (Fence.wide.inRound l₀) k P Q a w := by
  simp only [Region.lexTailB, Bool.and_eq_true, decide_eq_true_eq] at hB
  obtain ⟨⟨⟨⟨h1, h2⟩, h3⟩, h4⟩, h5⟩ := hB
  have hl : n < l.length := by simpa using h2
  have ht : (l.take n).length = n := by simp; omega
  have hs : (l.drop n).length = l.toArray.size - n := by simp
  have hi : HeadInv .any l.toArray n (Array.replicate l.toArray.size false) :=
    ⟨by simp, fun j oj _ hj => (by rw [getD_replicate_false] at hj; cases hj), fun t _ hj => getD_in (by simpa using hj) (getD_replicate_false _ _)⟩
  have H := wpAnyL_lex (md := .any) (g := l.toArray.size - n) h1 h3 h4 h2 (l.take n) 0 _ a (fun j hj => by
    rw [ht] at hj
    simp [hj]) (by simpa using ht) hi (by rw [ht]; exact h5) h
  have G := wpAny_of_head (Q' := Q) (g := l.toArray.size - n) (fun listed a' hL => by
    have := wpAny_of_seq (md := .any) (Q' := Q) (l.drop n) n listed a' w.drew (fun j => by simp [List.getElem?_drop]) (by rw [hs]; exact hL.1) hL.2
    rwa [hs] at this) _ _ _ H
  rw [ht, show n + (l.toArray.size - n) = l.toArray.size by omega] at G
  exact wpIn_region_any hm (any_round hQ hd _ _ _ _ G)
set_option maxRecDepth 100000 in
theorem map_restC {w w' : World} {P : Nat → Prop} {T : TypeId} {R : Value → Option (DataW Unit × List MemPlace)} {b n : Nat} {D : DataW Unit} (h : w.ownsMap Try.prog T R b n D) (k : Rest w w' P) (hp : ¬ P b) : w'.ownsMap Try.prog T R b n D := by
  have hlt := h.lt
  obtain ⟨es, clock, hb, F, hs, hD⟩ := h
  exact ⟨es, clock, (k.block b hlt hp).trans hb, F, hs, hD⟩
theorem own_cellsC (g : Nat) (t : TypeId) (cs : Array Value) : Go.Own (fun (_ : Unit) W => Own W g t cs) := fun _ _ _ _ hs hg hrow =>
  Own.grown hs hg (fun e => by
    obtain ⟨o, ho, hc⟩ := hrow g e.symm
    rw [show _ = _ from hs] at ho
    cases ho
    cases hc)
set_option maxRecDepth 100000 in
theorem int_keyC : Keyed Try.prog 3 := int_keyed Try.underlying3
/-- Whether a family is named. -/
def famK (f : Int) (L : List (Int × List Int)) : Bool := decide (f ≠ 0) && (quads 1 L).any (fun q => decide (famF q = f))
def modStep (f : Int) (m : Int) (q : Q4) : Int := if famM q = f ∧ 1 ≤ q.d ∧ q.d ≤ 3 then q.d else m
def modQ (f : Int) (L : List Q4) : Int := L.foldl (modStep f) 0
theorem modQ_snoc (f : Int) (L : List Q4) (q : Q4) : modQ f (L ++ [q]) = modStep f (modQ f L) q := by unfold modQ; rw [List.foldl_append]; rfl
/-- How a family uses identifiers. -/
def modK (f : Int) (L : List (Int × List Int)) : Int := if f = 0 then 0 else modQ f (quads 69 L)
def MetF (D : DataW Unit) (pre : List Q4) : Prop := IsMap D ∧ ∀ t : Int, D.atKey (.int .i64 t) (.lit (.bool false)) = .lit (.bool (pre.any (fun q => decide (famF q = t))))
def MetM (D : DataW Unit) (pre : List Q4) : Prop := IsMap D ∧ ∀ t : Int, D.atKey (.int .i64 t) (.lit (.int .i64 0)) = .lit (.int .i64 (modQ t pre))
theorem isKeyI (t : Int) : WideAt.IsKeyLit (.int .i64 t) := trivial
theorem MetF.put {D : DataW Unit} {pre : List Q4} (h : MetF D pre) (x : Q4) : MetF (D.put (.int .i64 (famF x)) (.lit (.bool true))) (pre ++ [x]) := by
  refine ⟨h.1.put _ _, fun t => ?_⟩
  rw [List.any_append]
  by_cases e : famF x = t
  · rw [← e, atKey_put_same h.1 (isKeyI _)]
    simp
  · rw [atKey_put_other (fun e2 => e (Lit.int.inj e2).2.symm), h.2 t]
    simp [e]
theorem MetM.put {D : DataW Unit} {pre : List Q4} (h : MetM D pre) {x : Q4} (hx : 1 ≤ x.d ∧ x.d ≤ 3) : MetM (D.put (.int .i64 (famM x)) (.lit (.int .i64 x.d))) (pre ++ [x]) := by
  refine ⟨h.1.put _ _, fun t => ?_⟩
  rw [modQ_snoc]
  unfold modStep
  by_cases e : famM x = t
  · rw [← e, atKey_put_same h.1 (isKeyI _), if_pos ⟨rfl, hx⟩]
  · rw [atKey_put_other (fun e2 => e (Lit.int.inj e2).2.symm), h.2 t, if_neg (fun h => e h.1)]
theorem MetM.same {D : DataW Unit} {pre : List Q4} (h : MetM D pre) {x : Q4} (hx : ¬ (1 ≤ x.d ∧ x.d ≤ 3)) : MetM D (pre ++ [x]) := by
  refine ⟨h.1, fun t => ?_⟩
  rw [modQ_snoc, h.2 t]
  unfold modStep
  rw [if_neg (fun h => hx h.2)]
theorem MetF.out {D : DataW Unit} {L : List (Int × List Int)} (h : MetF D (quads 1 L)) (f : Int) : (D.del (.int .i64 0)).atKey (.int .i64 f) (.lit (.bool false)) = .lit (.bool (famK f L)) := by
  unfold famK
  by_cases e : f = 0
  · subst e
    rw [atKey_del_same]
    simp
  · rw [atKey_del_other (fun e2 => e (Lit.int.inj e2).2), h.2 f]
    simp [e]
theorem MetM.out {D : DataW Unit} {L : List (Int × List Int)} (h : MetM D (quads 69 L)) (f : Int) : (D.del (.int .i64 0)).atKey (.int .i64 f) (.lit (.int .i64 0)) = .lit (.int .i64 (modK f L)) := by
  unfold modK
  by_cases e : f = 0
  · subst e
    rw [atKey_del_same, if_pos rfl]
  · rw [atKey_del_other (fun e2 => e (Lit.int.inj e2).2), h.2 f, if_neg e]
theorem quads_bound {code : Int} : ∀ {ss : List Cp}, (∀ s ∈ ss, s.n = s.xs.length ∧ s.n ≤ 100000) → (quads code (ss.map cpK)).length ≤ ss.length * 100000
  | [], _ => by simp [quads]
  | s :: ss, h => by
    have ih := quads_bound (code := code) (ss := ss) (fun z hz => h z (List.mem_cons_of_mem _ hz))
    obtain ⟨h1, h2⟩ := h s List.mem_cons_self
    have e : quads code ((s :: ss).map cpK) = quadsK code (cpK s) ++ quads code (ss.map cpK) := by unfold quads; rw [List.map_cons, List.flatMap_cons]
    have h3 : (quadsK code (cpK s)).length ≤ 100000 := by
      unfold quadsK
      split
      · rw [q4s_length]
        show s.xs.length / 4 ≤ _
        omega
      · simp
    rw [e, List.length_append, List.length_cons, Nat.succ_mul]
    omega
end Go.Proofs.Ytniheakafkakhaa
