/- NlriKeeps: the copy, and what is written afterwards -/
import Derived.Test.YtmicpiaflgfojaaRn
import Derived.Test.YtmicpiaflgfojaaSpK
namespace Go.Proofs.Ytmicpiaflgfojaa
open Go.RowKit

set_option maxRecDepth 100000 in
theorem cloneR_any (A : Option Addr) (n c : Nat) (rs : List Rt) (w : World) (h : Routes w w.heap.size A n rs) (hn : n ≤ 1000000) :
    Calls Try.prog 10 #[.slice A n c] w fun e w' => ∃ v, e = .returned v ∧ w'.ownsRow w.heap.size 31 19 v n (flatR rs) ∧ Below w.heap.size w w' := by
  have HL := Lib.hid h.1
  have hs := h.shows
  have hlen : (flatR rs).length = n * 19 := by rw [flatR_len h.2.1, h.1]
  have heq : ∀ (w : World) (a : Option Addr) (n c n' c' : Nat), (binOp .eql 22 (.slice a n c) (.slice none n' c')).run Try.prog w = .ok (.bool a.isNone) w := fun w a n c n' c' => Lib.run_eql_slice_nil w 22 31 a n c n' c' Try.underlying22
  have h1c : ∀ u ∈ flatR rs, u.oneCell' = true := fun u hu => by
    obtain ⟨r, _, hr⟩ := List.mem_flatMap.1 hu
    exact rt_one_mem u hr
  cases A with
  | none =>
    have h0 := hs.none_
    rw [h0] at hlen ⊢
    have e : n = 0 := by simp at hlen; omega
    subst e
    clear h
    go_enter Try.func10, Try.ntmps10
    go_wp2
    go_ret
    exact ⟨_, rfl, World.ownsRow_nil _ _ _ _, bl_refl _⟩
  | some a =>
    have hb1 := bl_alloc (bl_refl w) (.cells #[] 31)
    have hr : (w.alloc (.cells #[] 31)).ownsRow w.heap.size 31 19 (.slice (some ⟨w.heap.size, 0, none⟩) 0 0) 0 ([] : List Value) := ⟨rfl, .inr ⟨w.heap.size, 0, #[], rfl, Nat.le_refl _, Own.new w 31 #[], Nat.le_refl _, Nat.zero_le _, rfl, rfl⟩⟩
    have hs2 := hs.below hb1
    have HR := Lib.hid hr
    have HB := Lib.hid hb1
    generalize flatR rs = F at *
    clear hr hb1 h HL
    go_enter Try.func10, Try.ntmps10
    go_wp2_with (at_builtin; refine wpList_append_grow _ rfl _ _ rfl sl_routes w.heap.size _ 0 [] rfl HR.out w.heap.size (some a) n c F rfl hlen hs2 h1c (by unfold maxLen; omega) (by omega) (by simp) ?_; intro v3 w3 ho3 hg3; rw [Nat.zero_add, List.nil_append] at ho3; have hb3 := HB.out.grown hg3 (by simp) (fun k hk => by cases hk; exact Nat.le_refl _))
    go_ret
    exact ⟨_, rfl, ho3, hb3⟩
/-- The paths of the routes of a slice can be written. -/
def RW (base : Nat) (w : World) (A : Option Addr) (n : Nat) : Prop :=
  n = 0 ∨ ∃ g cur, A = some ⟨g, 0, none⟩ ∧ base ≤ g ∧ Own w g 31 cur ∧ ∀ j, j < n → ∃ x, cur[j * 19]? = some (.int .u32 x)
theorem rw_row {base : Nat} {w : World} {A : Option Addr} {n c : Nat} {rs : List Rt} (h : w.ownsRow base 31 19 (.slice A n c) n (flatR rs)) (hr : ∀ r ∈ rs, r.Ok) (hn : n = rs.length) : RW base w A n := by
  by_cases h0 : n = 0
  · exact .inl h0
  · obtain ⟨A', c', e, _, hR⟩ := own_routes h hr hn
    cases e
    rcases h.2 with ⟨e, _⟩ | ⟨g, cap, cur, hv, hb, hg, _⟩
    · cases e
      exact absurd rfl h0
    · cases hv
      refine .inr ⟨g, cur, rfl, hb, hg, fun j hj => ?_⟩
      obtain ⟨b, o, e, _, hok, hrg⟩ := hR.at_ hj
      cases e
      have h1 := hrg 0 (.int .u32 (nthR rs j).p) (by rw [Array.getElem?_toList]; exact rt_0 _)
      simp only [Nat.zero_add, Nat.add_zero] at h1
      exact ⟨_, ((cell_of_row w g (j * 19) cur 31 (0, 0) hg).symm.trans h1)⟩
theorem RW.below {base : Nat} {w w' : World} {A : Option Addr} {n : Nat} (h : RW base w A n) (hb : Below w.heap.size w w') : RW base w' A n := by
  rcases h with h | ⟨g, cur, e, hg, ho, hj⟩
  · exact .inl h
  · exact .inr ⟨g, cur, e, hg, ho.step hb, hj⟩
theorem RW.set {base : Nat} {w : World} {A : Option Addr} {n g k : Nat} {y : Int} (h : RW base w A n) : RW base (w.setCell ⟨g, k, none⟩ (.int .u32 y)) A n := by
  rcases h with h | ⟨g', cur, e, hg, ho, hj⟩
  · exact .inl h
  · by_cases hgg : g' = g
    · subst hgg
      refine .inr ⟨g', _, e, hg, ho.set_ k _, fun j hjn => ?_⟩
      obtain ⟨x, hx⟩ := hj j hjn
      rw [Array.getElem?_setIfInBounds]
      split
      · rename_i hk
        subst hk
        have hlt := (Array.getElem?_eq_some_iff.1 hx).1
        exact ⟨y, by simp [hlt]⟩
      · exact ⟨x, hx⟩
    · exact .inr ⟨g', cur, e, hg, ho.far (p := ⟨g, k, none⟩) hgg _, hj⟩
/-- What stands while the results are written. -/
structure NkP (base : Nat) (w0 : World) (Au : Option Addr) (nu : Nat) (Ax : Option Addr) (nx cx : Nat) (ps : List RPart) (w : World) : Prop where
  bel : Below base w0 w
  u : RW base w Au nu
  parts : ∀ p ∈ ps, RW base w p.a p.n
  row : w.ownsRow base 22 1 (.slice Ax nx cx) nx (ps.map RPart.v)
theorem NkP.set {base : Nat} {w0 w : World} {Au Ax : Option Addr} {nu nx cx g k : Nat} {ps : List RPart} {cur : Array Value} (h : NkP base w0 Au nu Ax nx cx ps w) (hg : base ≤ g) (ho : Own w g 31 cur) (y : Int) : NkP base w0 Au nu Ax nx cx ps (w.setCell ⟨g, k, none⟩ (.int .u32 y)) :=
  ⟨h.bel.setCell (p := ⟨g, k, none⟩) hg _, h.u.set, fun p hp => (h.parts p hp).set, row_rest h.row (Rest.setCell w ⟨g, k, none⟩ _) (fun _ hj e => (row_typed h.row hj).1.ne ho.typed sp_types e)⟩
theorem NkP.at_ {base : Nat} {w0 w : World} {Au Ax : Option Addr} {nu nx cx : Nat} {ps : List RPart} (h : NkP base w0 Au nu Ax nx cx ps w) (hn : nx = ps.length) {j : Nat} (hj : j < nx) :
    ∃ b, Ax = some ⟨b, 0, none⟩ ∧ w.cell? ⟨b, j, none⟩ = some (.slice (rpth ps j).a (rpth ps j).n (rpth ps j).c) ∧ RW base w (rpth ps j).a (rpth ps j).n := by
  have hjl : j < ps.length := by omega
  rcases h.row.2 with ⟨e, e0⟩ | ⟨g, cap, cur, hv, hb, hg, h3⟩
  · omega
  · cases hv
    refine ⟨g, rfl, ?_, h.parts _ (rpth_mem hjl)⟩
    have h4 := h3.2.2.2
    rw [Nat.mul_one] at h4
    have h5 := congrArg (fun l => l[j]?) h4
    simp only [List.getElem?_take, hj, if_true, List.getElem?_map, rpth_some hjl, Option.map_some] at h5
    rw [cell_of_row w g j cur 22 (0, 0) hg, ← Array.getElem?_toList]
    exact h5
end Go.Proofs.Ytmicpiaflgfojaa
