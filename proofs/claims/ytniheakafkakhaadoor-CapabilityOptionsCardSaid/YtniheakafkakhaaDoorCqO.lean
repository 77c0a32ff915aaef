/- capability.Of -/
import Derived.Test.YtniheakafkakhaaDoorCqR
import Derived.Test.YtniheakafkakhaaDoorRfE
import Derived.Test.YtniheakafkakhaaDoorOmA
namespace Go.Proofs.YtniheakafkakhaaDoor
open Go.RowKit

theorem CRow.restX {T : TypeId} {w w' : World} {base : Nat} {v : Value} {L : List Cp} {P : Nat → Prop} (h : CRow T w base v L) (k : Rest w w' P) (hp : ∀ j, v.ownBlock = some j → ¬ P j) (hq : ∀ s ∈ L, ∀ j, (Value.slice s.A s.n s.c).ownBlock = some j → ¬ P j) : CRow T w' base v L :=
  ⟨row_rest h.1 k hp, fun s hs => ⟨row_rest (h.2 s hs).1 k (hq s hs), (h.2 s hs).2⟩⟩
/-- A list of capabilities under way, and groups under way, in rows of their own. -/
def OfS (T : TypeId) (B : Nat) (W : World) (v : Value) (L : List (Int × List Int)) (gv : Value) (G : List Int) : Prop :=
  ∃ L', CRow T W B v L' ∧ L'.map cpK = L ∧ (∀ s ∈ L', s.n ≤ 1000) ∧ W.ownsRow B 5 1 gv G.length (G.map (Value.int .u8)) ∧ (∀ s ∈ L', ∀ j, (Value.slice s.A s.n s.c).ownBlock = some j → gv.ownBlock ≠ some j)
theorem OfS.rest {T : TypeId} {B : Nat} {W W' : World} {v gv : Value} {L : List (Int × List Int)} {G : List Int} {P : Nat → Prop} (h : OfS T B W v L gv G) (k : Rest W W' P) (hp : ∀ j t, t = T ∨ t = 5 → B ≤ j → Typed W j t → ¬ P j) : OfS T B W' v L gv G := by
  obtain ⟨L', h1, h2, h3, h4, h5⟩ := h
  exact ⟨L', h1.rest k hp, h2, h3, row_rest h4 k (fun j hj => hp j _ (.inr rfl) (row_typed h4 hj).2 (row_typed h4 hj).1), h5⟩
theorem OfS.below {T : TypeId} {B : Nat} {W W' : World} {v gv : Value} {L : List (Int × List Int)} {G : List Int} (h : OfS T B W v L gv G) (k : Below W.heap.size W W') : OfS T B W' v L gv G :=
  h.rest (Rest.of_below k (fun _ => False)) (fun _ _ _ _ _ f => f)
theorem OfS.nil (T : TypeId) (B : Nat) (W : World) : OfS T B W (.slice none 0 0) [] (.slice none 0 0) [] :=
  ⟨[], CRow.nil _ _ _, rfl, by simp, World.ownsRow_nil _ _ _ _, by simp⟩
theorem ofS_push {T : TypeId} (hT : T ≠ 5) {B : Nat} {W X w' : World} {v v' gv : Value} {L : List (Int × List Int)} {G : List Int} {L' : List Cp} {q : Cp} (h1 : CRow T W B v L') (h2 : L'.map cpK = L) (h3 : ∀ s ∈ L', s.n ≤ 1000) (h4 : W.ownsRow B 5 1 gv G.length (G.map (Value.int .u8))) (h5 : ∀ s ∈ L', ∀ j, (Value.slice s.A s.n s.c).ownBlock = some j → gv.ownBlock ≠ some j)
    (hX : Below W.heap.size W X) (hq : CD X B q) (hqn : q.n ≤ 1000) (hf : ∀ j, (Value.slice q.A q.n q.c).ownBlock = some j → W.heap.size ≤ j) (hown : w'.ownsRow B T 2 v' (L'.length + 1) (cellsP L' ++ [.int .i64 q.k, .slice q.A q.n q.c])) (hgr : X.grownBy w' v.ownBlock) : OfS T B w' v' (L ++ [cpK q]) gv G := by
  have hXr := h1.below hX
  have hXg := own_belowG h4 hX
  refine ⟨L' ++ [q], CRow.push hT hXr hq hown hgr, by rw [List.map_append, h2]; rfl, fun s hs => ?_, row_rest hXg (Rest.of_grown hgr (P := fun j => v.ownBlock = some j) (fun j e => e)) (fun j hj e => (row_typed hXr.1 e).1.ne (row_typed hXg hj).1 hT rfl), fun s hs j hj e => ?_⟩
  · rcases List.mem_append.1 hs with hs | hs
    · exact h3 s hs
    · rw [List.mem_singleton] at hs
      subst hs
      exact hqn
  · rcases List.mem_append.1 hs with hs | hs
    · exact h5 s hs j hj e
    · rw [List.mem_singleton] at hs
      subst hs
      have := hf j hj
      have := (row_typed h4 e).1.lt
      omega
theorem ofS_grow {T : TypeId} (hT : T ≠ 5) {B m : Nat} {W X w' : World} {v gv gv' : Value} {L : List (Int × List Int)} {G zs : List Int} (h : OfS T B W v L gv G) (hX : Below W.heap.size W X)
    (hown : w'.ownsRow B 5 1 gv' (G.length + m) (G.map (Value.int .u8) ++ zs.map (Value.int .u8))) (hm : m = zs.length) (hgr : X.grownBy w' gv.ownBlock) (hat : gv'.ownBlock = gv.ownBlock ∨ gv'.ownBlock = some X.heap.size) : OfS T B w' v L gv' (G ++ zs) := by
  obtain ⟨L', h1, h2, h3, h4, h5⟩ := h
  have hXr := h1.below hX
  have R := Rest.of_grown hgr (P := fun j => gv.ownBlock = some j) (fun j e => e)
  refine ⟨L', hXr.restX R (fun j hj e => (row_typed hXr.1 hj).1.ne (row_typed (own_belowG h4 hX) e).1 hT rfl) (fun s hs j hj e => h5 s hs j hj e), h2, h3, by rw [List.length_append, ← hm, List.map_append]; exact hown, fun s hs j hj e => ?_⟩
  rcases hat with e2 | e2
  · exact h5 s hs j hj (e2.symm.trans e)
  · rw [e2] at e
    cases e
    have := (row_typed (h1.2 s hs).1 hj).1.lt
    have := hX.size
    omega
/-- The walk of capability.Of between two statements. -/
structure OfI (w : World) (opts : Array Value) (W : World) (L : List (Int × List Int)) (gv : Value) (G : List Int) : Prop where
  bel : Below w.heap.size w W
  o1 : Own W w.heap.size 23 opts
  box : ∃ v, Own W (w.heap.size + 1) 25 #[v] ∧ OfS 83 (w.heap.size + 2) W v L gv G
  lo : w.heap.size + 2 ≤ W.heap.size
theorem of_types : 83 ≠ 5 ∧ 83 ≠ 25 ∧ 5 ≠ 25 ∧ 23 ≠ 25 ∧ 23 ≠ 83 ∧ 89 ≠ 5 := by decide
theorem OfI.below {w W X : World} {opts : Array Value} {L : List (Int × List Int)} {gv : Value} {G : List Int} (h : OfI w opts W L gv G) (hb : Below W.heap.size W X) : OfI w opts X L gv G := by
  obtain ⟨h1, h2, ⟨v, h3, h4⟩, h5⟩ := h
  exact ⟨bl_trans h1 hb, h2.step hb, ⟨v, h3.step hb, h4.below hb⟩, Nat.le_trans h5 hb.size⟩
/-- What is neither a list of capabilities nor a box of one lies as it lay. -/
def KeepO (W W' : World) : Prop := ∀ i t cs, Own W i t cs → t ≠ 25 → t ≠ 83 → Own W' i t cs
def ofPut (b : Bool) (code : Int) (xs : List Int) (L : List (Int × List Int)) : List (Int × List Int) := if b then L ++ [(code, xs)] else L
set_option maxRecDepth 100000 in
theorem cput_no (code : Int) (A : Option Addr) (n c g : Nat) (w : World) : Calls Tryd.prog 52 #[.bool false, .int .i64 code, .slice A n c, .pointer (some ⟨g, 0, none⟩)] w fun e w' => (∃ u, e = .returned u) ∧ w = w' := by
  go_enter Tryd.func52, Tryd.ntmps52
  go_wp2
  go_end0
  exact ⟨⟨_, rfl⟩, rfl⟩
/-- What put leaves. -/
def PutR (w : World) (opts : Array Value) (W : World) (L : List (Int × List Int)) (gv : Value) (G : List Int) (W' : World) : Prop := OfI w opts W' L gv G ∧ KeepO W W' ∧ W.heap.size ≤ W'.heap.size
theorem put_end {w W X w5 : World} {opts : Array Value} {L : List (Int × List Int)} {gv v v' : Value} {G : List Int} {L' : List Cp} {q : Cp} (hI : OfI w opts W L gv G) (ob : Own W (w.heap.size + 1) 25 #[v]) (h1 : CRow 83 W (w.heap.size + 2) v L') (h2 : L'.map cpK = L) (h3 : ∀ s ∈ L', s.n ≤ 1000) (h4 : W.ownsRow (w.heap.size + 2) 5 1 gv G.length (G.map (Value.int .u8))) (h5 : ∀ s ∈ L', ∀ j, (Value.slice s.A s.n s.c).ownBlock = some j → gv.ownBlock ≠ some j)
    (hX : Below W.heap.size W X) (hq : CD X (w.heap.size + 2) q) (hqn : q.n ≤ 1000) (hf : ∀ j, (Value.slice q.A q.n q.c).ownBlock = some j → W.heap.size ≤ j) (hown : w5.ownsRow (w.heap.size + 2) 83 2 v' (L'.length + 1) (cellsP L' ++ [.int .i64 q.k, .slice q.A q.n q.c])) (hgr : X.grownBy w5 v.ownBlock) :
    PutR w opts W (L ++ [cpK q]) gv G (w5.setCell ⟨w.heap.size + 1, 0, none⟩ v') := by
  have hS := ofS_push of_types.1 h1 h2 h3 h4 h5 hX hq hqn hf hown hgr
  have hvT : ∀ j, v.ownBlock = some j → Typed W j 83 ∧ w.heap.size + 2 ≤ j := fun j hj => row_typed h1.1 hj
  have R5 : Rest W w5 (fun i => v.ownBlock = some i) := (Rest.of_below hX (fun i => v.ownBlock = some i)).trans (Rest.of_grown hgr (P := fun i => v.ownBlock = some i) (fun j e => e)) (fun i _ h => h)
  have R6 := Rest.setCell w5 ⟨w.heap.size + 1, 0, none⟩ v'
  have R : Rest W (w5.setCell ⟨w.heap.size + 1, 0, none⟩ v') (fun i => i = w.heap.size + 1 ∨ v.ownBlock = some i) := (R5.mono (fun i h => .inr h)).trans R6 (fun i _ h => .inl h)
  have ob5 : Own w5 (w.heap.size + 1) 25 #[v] := R5.own ob (fun e => by have := (hvT _ e).2; omega)
  have ob6 : Own (w5.setCell ⟨w.heap.size + 1, 0, none⟩ v') (w.heap.size + 1) 25 #[v'] := by
    have := ob5.set_ 0 v'
    simpa using this
  refine ⟨⟨hI.bel.trans (R.to_below hI.bel.size (by
    rintro i hi (e | e)
    · omega
    · have := (hvT i e).2; omega)), R.own hI.o1 (by
    rintro (e | e)
    · omega
    · have := (hvT _ e).2; omega), ⟨v', ob6, hS.rest R6 (fun j t ht hB _ e => by dsimp only at e; omega)⟩, Nat.le_trans hI.lo R.size⟩, fun i t cs ho n1 n2 => R.own ho ?_, R.size⟩
  rintro (e | e)
  · subst e
    exact n1 (by
      have h1 : W.heap[w.heap.size + 1]? = some (.cells #[v] 25 (0, 0)) := ob
      have h2 : W.heap[w.heap.size + 1]? = some (.cells cs t (0, 0)) := ho
      rw [h1] at h2
      injection h2 with h2
      injection h2 with _ h2 _
      exact h2.symm)
  · exact (hvT i e).1.ne ho.typed (fun e => n2 e.symm) rfl
set_option maxRecDepth 100000 in
set_option maxHeartbeats 3200000 in
theorem cput_yes (code : Int) (A : Option Addr) (n c : Nat) (xs : List Int) (w W : World) (opts : Array Value) (L : List (Int × List Int)) (gv : Value) (G : List Int) (hI : OfI w opts W L gv G) (hx : Bytes W W.heap.size A n xs) (hn : n ≤ 1000) (hL : L.length ≤ 1000) :
    Calls Tryd.prog 52 #[.bool true, .int .i64 code, .slice A n c, .pointer (some ⟨w.heap.size + 1, 0, none⟩)] W fun e W' => (∃ u, e = .returned u) ∧ PutR w opts W (L ++ [(code, xs)]) gv G W' := by
  have HI := Lib.hid hI
  obtain ⟨v, ob, L', h1, h2, h3, h4, h5⟩ := hI.box
  obtain ⟨A1, c1, rfl⟩ := h1.form
  have hLl : L'.length ≤ 1000 := by rw [← h2, List.length_map] at hL; exact hL
  have HE := Lib.hid (fun (X w5 : World) v' q => put_end (X := X) (w5 := w5) (v' := v') (q := q) hI ob h1 h2 h3 h4 h5)
  have hrow := Lib.hid h1.1
  have hlo := hI.lo
  have hXn := Lib.hid hx.1
  have hXr := Lib.hid hx.2.1
  have hfl : flat [(⟨A, n, c, xs⟩ : Part)] = xs := by simp [flat]
  have hpt := Lib.hid (show Parts (W.alloc (.cells #[.slice A n c] 43)).drew (W.alloc (.cells #[.slice A n c] 43)).drew.heap.size (some ⟨W.heap.size, 0, none⟩) 1 [(⟨A, n, c, xs⟩ : Part)] from parts_one (c := c) hx 43)
  have hC := Lib.hid (fun (X : World) (A0 : Option Addr) (hp : Parts X X.heap.size A0 1 [(⟨A, n, c, xs⟩ : Part)]) => cat_own (c := 1) hp (by omega) (by rw [hfl]; have := hXn.out; omega))
  rw [hfl] at hC
  clear hI h1 h2 h3 h4 h5 hx hL
  go_enter Tryd.func52, Tryd.ntmps52
  go_wp2_with fail
  refine wp_region_held_drew (S := fun _ => True) (by kernel_rfl) trivial (fun hHeld => ?_)
  refine wpAnyH_take (i := 1) (v := ?_) rfl (by kernel_rfl) (by kernel_rfl) (by kernel_rfl) (fun _ _ _ h => h) (Or.inl ⟨by rfl, ?_⟩) (by assumption) ?_
  rotate_left
  · (intro W hSw; have s0 := hSw; go_simp; try with_reducible rfl)
  simp only [Act.put, List.getElem_toArray, List.getElem_cons_zero, List.getElem_cons_succ, List.setIfInBounds_toArray, List.set_cons_zero, List.set_cons_succ]
  refine wpAnyH_take (i := 2) (v := ?_) rfl (by kernel_rfl) (by kernel_rfl) (by kernel_rfl) (fun _ _ _ h => h) (Or.inl ⟨by rfl, ?_⟩) (by assumption) ?_
  rotate_left
  · (intro W hSw; have s0 := hSw; go_simp; try with_reducible rfl)
  simp only [Act.put, List.getElem_toArray, List.getElem_cons_zero, List.getElem_cons_succ, List.setIfInBounds_toArray, List.set_cons_zero, List.set_cons_succ]
  refine wpAnyH_ready (rs := [0, 3]) (by kernel_rfl) (by simp) ?_
  refine AllReadyH.cons rfl (fun K hK => ?_) (AllReadyH.cons rfl (fun K hK => ?_) AllReadyH.nil)
  · skip
    have c0 := ob.drew.cell (i := 0) (v := .slice A1 L'.length c1) rfl
    go_simp
    refine hK.out _ _ trivial (fun hHeld2 => ?_)
    clear hK K hHeld
    have hHeld := hHeld2
    clear hHeld2
    try simp only [Act.put, List.getElem_toArray, List.getElem_cons_zero, List.getElem_cons_succ, List.setIfInBounds_toArray, List.set_cons_zero, List.set_cons_succ]
    clear c0
    refine wpAnyH_ready (rs := [3]) (by kernel_rfl) (by simp) ?_
    refine AllReadyH.cons rfl (fun K hK => ?_) AllReadyH.nil
    go_simp
    refine hK.out _ _ trivial (fun hHeld2 => ?_)
    clear hK K hHeld
    have hHeld := hHeld2
    clear hHeld2
    try simp only [Act.put, List.getElem_toArray, List.getElem_cons_zero, List.getElem_cons_succ, List.setIfInBounds_toArray, List.set_cons_zero, List.set_cons_succ]
    have hb1 : Below W.heap.size W (W.alloc (.cells #[.slice A n c] 43)).drew := bl_drewN (bl_alloc (bl_refl W) _) 1
    have hs1 : (W.alloc (.cells #[.slice A n c] 43)).drew.heap.size = W.heap.size + 1 := by simp
    have ob1 := ob.step hb1
    have hC1 := hC.out _ _ hpt.out
    rw [hs1] at hC1
    generalize hg1 : (W.alloc (.cells #[.slice A n c] 43)).drew = X1 at *
    clear hg1 hpt
    refine wpAnyH_ready (rs := [4]) (by kernel_rfl) (by simp) ?_
    refine AllReadyH.cons rfl (fun K hK => ?_) AllReadyH.nil
    go_simp
    go_at_call 53
    refine hC1.mono ?_
    rintro e w4 ⟨rfl, ho4, hb4⟩
    rw [← hXn.out]
    have hb5 := bl_trans hb1 (by rw [hs1]; exact hb4)
    have ob4 := ob.step hb5
    refine hK.out _ _ trivial (fun hHeld2 => ?_)
    clear hK K hHeld
    have hHeld := hHeld2
    clear hHeld2
    try simp only [Act.put, List.getElem_toArray, List.getElem_cons_zero, List.getElem_cons_succ, List.setIfInBounds_toArray, List.set_cons_zero, List.set_cons_succ]
    refine wpAnyH_ready (rs := [5]) (by kernel_rfl) (by simp) ?_
    refine AllReadyH.cons rfl (fun K hK => ?_) AllReadyH.nil
    go_simp
    refine hK.out _ _ trivial (fun hHeld2 => ?_)
    clear hK K hHeld
    have hHeld := hHeld2
    clear hHeld2
    try simp only [Act.put, List.getElem_toArray, List.getElem_cons_zero, List.getElem_cons_succ, List.setIfInBounds_toArray, List.set_cons_zero, List.set_cons_succ]
    refine wpAnyH_ready (rs := [6]) (by kernel_rfl) (by simp) ?_
    refine AllReadyH.cons rfl (fun K hK => ?_) AllReadyH.nil
    go_simp
    refine hK.out _ _ trivial (fun hHeld2 => ?_)
    clear hK K hHeld
    have hHeld := hHeld2
    clear hHeld2
    try simp only [Act.put, List.getElem_toArray, List.getElem_cons_zero, List.getElem_cons_succ, List.setIfInBounds_toArray, List.set_cons_zero, List.set_cons_succ]
    have hb6 := bl_alloc hb5 (.cells #[.int .i64 code, .slice (some ⟨W.heap.size + 1, 0, none⟩) n n] 83)
    have oC := Own.new w4 83 #[.int .i64 code, .slice (some ⟨W.heap.size + 1, 0, none⟩) n n]
    have oD := ho4.alloc (.cells #[.int .i64 code, .slice (some ⟨W.heap.size + 1, 0, none⟩) n n] 83)
    have hs6 : w4.heap.size < (w4.alloc (.cells #[.int .i64 code, .slice (some ⟨W.heap.size + 1, 0, none⟩) n n] 83)).heap.size := by simp
    have ob6 := ob.step hb6
    have hr6 := own_belowG hrow.out hb6
    have hs7 := hb6.size
    have hCD : CD (w4.alloc (.cells #[.int .i64 code, .slice (some ⟨W.heap.size + 1, 0, none⟩) n n] 83)) (w.heap.size + 2) ⟨code, some ⟨W.heap.size + 1, 0, none⟩, n, n, xs⟩ := ⟨Own.rowC oD hXn.out.symm (by omega) (show n ≤ maxLen by unfold maxLen; omega), hXn.out, hXr.out⟩
    generalize hg6 : w4.alloc (.cells #[.int .i64 code, .slice (some ⟨W.heap.size + 1, 0, none⟩) n n] 83) = X6 at *
    clear hg6
    refine wpAnyH_ready (rs := [7]) (by kernel_rfl) (by simp) ?_
    refine AllReadyH.cons rfl (fun K hK => ?_) AllReadyH.nil
    refine step_append_at _ rfl _ _ rfl sl_cps (w.heap.size + 2) _ _ _ rfl hr6 _ (some ⟨w4.heap.size, 0, none⟩) 1 1 [.int .i64 code, .slice (some ⟨W.heap.size + 1, 0, none⟩) n n] rfl rfl (Shows.of_owned (xs := [.int .i64 code, .slice (some ⟨W.heap.size + 1, 0, none⟩) n n]) oC hs6) (oneP _ _ _ _) (by unfold maxLen; omega) (by omega) (by omega) ?_
    intro v5 w5 ho5 hg5 _
    obtain ⟨A5, c5, rfl⟩ := own_form ho5
    have hfin := HE.out X6 w5 _ ⟨code, some ⟨W.heap.size + 1, 0, none⟩, n, n, xs⟩ hb6 hCD hn (fun j hj => by cases hj; exact Nat.le_succ _) ho5 hg5
    have ob7 : Own w5 (w.heap.size + 1) 25 #[.slice A1 L'.length c1] := ob6.grown hg5 (fun e => by have := (row_typed hr6 e.symm).2; omega)
    have hf7 := ob7.frozen 0
    refine hK.out _ _ trivial (fun hHeld2 => ?_)
    clear hK K hHeld
    have hHeld := hHeld2
    clear hHeld2
    try simp only [Act.put, List.getElem_toArray, List.getElem_cons_zero, List.getElem_cons_succ, List.setIfInBounds_toArray, List.set_cons_zero, List.set_cons_succ]
    refine wpAnyH_ready (rs := [8]) (by kernel_rfl) (by simp) ?_
    refine AllReadyH.cons rfl (fun K hK => ?_) AllReadyH.nil
    have hc7 := ob7.cell (i := 0) (v := .slice A1 L'.length c1) rfl
    go_simp
    refine hK.out _ _ trivial (fun hHeld2 => ?_)
    clear hK K hHeld
    have hHeld := hHeld2
    clear hHeld2
    try simp only [Act.put, List.getElem_toArray, List.getElem_cons_zero, List.getElem_cons_succ, List.setIfInBounds_toArray, List.set_cons_zero, List.set_cons_succ]
    refine wpAnyH_done (by kernel_rfl) ?_ _
    go_wp2
    go_end0
    exact ⟨⟨_, rfl⟩, hfin⟩
  · skip
    go_simp
    refine hK.out _ _ trivial (fun hHeld2 => ?_)
    clear hK K hHeld
    have hHeld := hHeld2
    clear hHeld2
    try simp only [Act.put, List.getElem_toArray, List.getElem_cons_zero, List.getElem_cons_succ, List.setIfInBounds_toArray, List.set_cons_zero, List.set_cons_succ]
    have hb1 : Below W.heap.size W (W.alloc (.cells #[.slice A n c] 43)).drew := bl_drewN (bl_alloc (bl_refl W) _) 1
    have hs1 : (W.alloc (.cells #[.slice A n c] 43)).drew.heap.size = W.heap.size + 1 := by simp
    have ob1 := ob.step hb1
    have hC1 := hC.out _ _ hpt.out
    rw [hs1] at hC1
    generalize hg1 : (W.alloc (.cells #[.slice A n c] 43)).drew = X1 at *
    clear hg1 hpt
    refine wpAnyH_ready (rs := [0, 4]) (by kernel_rfl) (by simp) ?_
    refine AllReadyH.cons rfl (fun K hK => ?_) (AllReadyH.cons rfl (fun K hK => ?_) AllReadyH.nil)
    · skip
      have c0 := ob1.cell (i := 0) (v := .slice A1 L'.length c1) rfl
      go_simp
      refine hK.out _ _ trivial (fun hHeld2 => ?_)
      clear hK K hHeld
      have hHeld := hHeld2
      clear hHeld2
      try simp only [Act.put, List.getElem_toArray, List.getElem_cons_zero, List.getElem_cons_succ, List.setIfInBounds_toArray, List.set_cons_zero, List.set_cons_succ]
      clear c0
      refine wpAnyH_ready (rs := [4]) (by kernel_rfl) (by simp) ?_
      refine AllReadyH.cons rfl (fun K hK => ?_) AllReadyH.nil
      go_simp
      go_at_call 53
      refine hC1.mono ?_
      rintro e w4 ⟨rfl, ho4, hb4⟩
      rw [← hXn.out]
      have hb5 := bl_trans hb1 (by rw [hs1]; exact hb4)
      have ob4 := ob.step hb5
      refine hK.out _ _ trivial (fun hHeld2 => ?_)
      clear hK K hHeld
      have hHeld := hHeld2
      clear hHeld2
      try simp only [Act.put, List.getElem_toArray, List.getElem_cons_zero, List.getElem_cons_succ, List.setIfInBounds_toArray, List.set_cons_zero, List.set_cons_succ]
      refine wpAnyH_ready (rs := [5]) (by kernel_rfl) (by simp) ?_
      refine AllReadyH.cons rfl (fun K hK => ?_) AllReadyH.nil
      go_simp
      refine hK.out _ _ trivial (fun hHeld2 => ?_)
      clear hK K hHeld
      have hHeld := hHeld2
      clear hHeld2
      try simp only [Act.put, List.getElem_toArray, List.getElem_cons_zero, List.getElem_cons_succ, List.setIfInBounds_toArray, List.set_cons_zero, List.set_cons_succ]
      refine wpAnyH_ready (rs := [6]) (by kernel_rfl) (by simp) ?_
      refine AllReadyH.cons rfl (fun K hK => ?_) AllReadyH.nil
      go_simp
      refine hK.out _ _ trivial (fun hHeld2 => ?_)
      clear hK K hHeld
      have hHeld := hHeld2
      clear hHeld2
      try simp only [Act.put, List.getElem_toArray, List.getElem_cons_zero, List.getElem_cons_succ, List.setIfInBounds_toArray, List.set_cons_zero, List.set_cons_succ]
      have hb6 := bl_alloc hb5 (.cells #[.int .i64 code, .slice (some ⟨W.heap.size + 1, 0, none⟩) n n] 83)
      have oC := Own.new w4 83 #[.int .i64 code, .slice (some ⟨W.heap.size + 1, 0, none⟩) n n]
      have oD := ho4.alloc (.cells #[.int .i64 code, .slice (some ⟨W.heap.size + 1, 0, none⟩) n n] 83)
      have hs6 : w4.heap.size < (w4.alloc (.cells #[.int .i64 code, .slice (some ⟨W.heap.size + 1, 0, none⟩) n n] 83)).heap.size := by simp
      have ob6 := ob.step hb6
      have hr6 := own_belowG hrow.out hb6
      have hs7 := hb6.size
      have hCD : CD (w4.alloc (.cells #[.int .i64 code, .slice (some ⟨W.heap.size + 1, 0, none⟩) n n] 83)) (w.heap.size + 2) ⟨code, some ⟨W.heap.size + 1, 0, none⟩, n, n, xs⟩ := ⟨Own.rowC oD hXn.out.symm (by omega) (show n ≤ maxLen by unfold maxLen; omega), hXn.out, hXr.out⟩
      generalize hg6 : w4.alloc (.cells #[.int .i64 code, .slice (some ⟨W.heap.size + 1, 0, none⟩) n n] 83) = X6 at *
      clear hg6
      refine wpAnyH_ready (rs := [7]) (by kernel_rfl) (by simp) ?_
      refine AllReadyH.cons rfl (fun K hK => ?_) AllReadyH.nil
      refine step_append_at _ rfl _ _ rfl sl_cps (w.heap.size + 2) _ _ _ rfl hr6 _ (some ⟨w4.heap.size, 0, none⟩) 1 1 [.int .i64 code, .slice (some ⟨W.heap.size + 1, 0, none⟩) n n] rfl rfl (Shows.of_owned (xs := [.int .i64 code, .slice (some ⟨W.heap.size + 1, 0, none⟩) n n]) oC hs6) (oneP _ _ _ _) (by unfold maxLen; omega) (by omega) (by omega) ?_
      intro v5 w5 ho5 hg5 _
      obtain ⟨A5, c5, rfl⟩ := own_form ho5
      have hfin := HE.out X6 w5 _ ⟨code, some ⟨W.heap.size + 1, 0, none⟩, n, n, xs⟩ hb6 hCD hn (fun j hj => by cases hj; exact Nat.le_succ _) ho5 hg5
      have ob7 : Own w5 (w.heap.size + 1) 25 #[.slice A1 L'.length c1] := ob6.grown hg5 (fun e => by have := (row_typed hr6 e.symm).2; omega)
      have hf7 := ob7.frozen 0
      refine hK.out _ _ trivial (fun hHeld2 => ?_)
      clear hK K hHeld
      have hHeld := hHeld2
      clear hHeld2
      try simp only [Act.put, List.getElem_toArray, List.getElem_cons_zero, List.getElem_cons_succ, List.setIfInBounds_toArray, List.set_cons_zero, List.set_cons_succ]
      refine wpAnyH_ready (rs := [8]) (by kernel_rfl) (by simp) ?_
      refine AllReadyH.cons rfl (fun K hK => ?_) AllReadyH.nil
      have hc7 := ob7.cell (i := 0) (v := .slice A1 L'.length c1) rfl
      go_simp
      refine hK.out _ _ trivial (fun hHeld2 => ?_)
      clear hK K hHeld
      have hHeld := hHeld2
      clear hHeld2
      try simp only [Act.put, List.getElem_toArray, List.getElem_cons_zero, List.getElem_cons_succ, List.setIfInBounds_toArray, List.set_cons_zero, List.set_cons_succ]
      refine wpAnyH_done (by kernel_rfl) ?_ _
      go_wp2
      go_end0
      exact ⟨⟨_, rfl⟩, hfin⟩
    · skip
      go_simp
      go_at_call 53
      refine hC1.mono ?_
      rintro e w4 ⟨rfl, ho4, hb4⟩
      rw [← hXn.out]
      have hb5 := bl_trans hb1 (by rw [hs1]; exact hb4)
      have ob4 := ob.step hb5
      refine hK.out _ _ trivial (fun hHeld2 => ?_)
      clear hK K hHeld
      have hHeld := hHeld2
      clear hHeld2
      try simp only [Act.put, List.getElem_toArray, List.getElem_cons_zero, List.getElem_cons_succ, List.setIfInBounds_toArray, List.set_cons_zero, List.set_cons_succ]
      refine wpAnyH_ready (rs := [0, 5]) (by kernel_rfl) (by simp) ?_
      refine AllReadyH.cons rfl (fun K hK => ?_) (AllReadyH.cons rfl (fun K hK => ?_) AllReadyH.nil)
      · skip
        have c0 := ob4.cell (i := 0) (v := .slice A1 L'.length c1) rfl
        go_simp
        refine hK.out _ _ trivial (fun hHeld2 => ?_)
        clear hK K hHeld
        have hHeld := hHeld2
        clear hHeld2
        try simp only [Act.put, List.getElem_toArray, List.getElem_cons_zero, List.getElem_cons_succ, List.setIfInBounds_toArray, List.set_cons_zero, List.set_cons_succ]
        clear c0
        refine wpAnyH_ready (rs := [5]) (by kernel_rfl) (by simp) ?_
        refine AllReadyH.cons rfl (fun K hK => ?_) AllReadyH.nil
        go_simp
        refine hK.out _ _ trivial (fun hHeld2 => ?_)
        clear hK K hHeld
        have hHeld := hHeld2
        clear hHeld2
        try simp only [Act.put, List.getElem_toArray, List.getElem_cons_zero, List.getElem_cons_succ, List.setIfInBounds_toArray, List.set_cons_zero, List.set_cons_succ]
        refine wpAnyH_ready (rs := [6]) (by kernel_rfl) (by simp) ?_
        refine AllReadyH.cons rfl (fun K hK => ?_) AllReadyH.nil
        go_simp
        refine hK.out _ _ trivial (fun hHeld2 => ?_)
        clear hK K hHeld
        have hHeld := hHeld2
        clear hHeld2
        try simp only [Act.put, List.getElem_toArray, List.getElem_cons_zero, List.getElem_cons_succ, List.setIfInBounds_toArray, List.set_cons_zero, List.set_cons_succ]
        have hb6 := bl_alloc hb5 (.cells #[.int .i64 code, .slice (some ⟨W.heap.size + 1, 0, none⟩) n n] 83)
        have oC := Own.new w4 83 #[.int .i64 code, .slice (some ⟨W.heap.size + 1, 0, none⟩) n n]
        have oD := ho4.alloc (.cells #[.int .i64 code, .slice (some ⟨W.heap.size + 1, 0, none⟩) n n] 83)
        have hs6 : w4.heap.size < (w4.alloc (.cells #[.int .i64 code, .slice (some ⟨W.heap.size + 1, 0, none⟩) n n] 83)).heap.size := by simp
        have ob6 := ob.step hb6
        have hr6 := own_belowG hrow.out hb6
        have hs7 := hb6.size
        have hCD : CD (w4.alloc (.cells #[.int .i64 code, .slice (some ⟨W.heap.size + 1, 0, none⟩) n n] 83)) (w.heap.size + 2) ⟨code, some ⟨W.heap.size + 1, 0, none⟩, n, n, xs⟩ := ⟨Own.rowC oD hXn.out.symm (by omega) (show n ≤ maxLen by unfold maxLen; omega), hXn.out, hXr.out⟩
        generalize hg6 : w4.alloc (.cells #[.int .i64 code, .slice (some ⟨W.heap.size + 1, 0, none⟩) n n] 83) = X6 at *
        clear hg6
        refine wpAnyH_ready (rs := [7]) (by kernel_rfl) (by simp) ?_
        refine AllReadyH.cons rfl (fun K hK => ?_) AllReadyH.nil
        refine step_append_at _ rfl _ _ rfl sl_cps (w.heap.size + 2) _ _ _ rfl hr6 _ (some ⟨w4.heap.size, 0, none⟩) 1 1 [.int .i64 code, .slice (some ⟨W.heap.size + 1, 0, none⟩) n n] rfl rfl (Shows.of_owned (xs := [.int .i64 code, .slice (some ⟨W.heap.size + 1, 0, none⟩) n n]) oC hs6) (oneP _ _ _ _) (by unfold maxLen; omega) (by omega) (by omega) ?_
        intro v5 w5 ho5 hg5 _
        obtain ⟨A5, c5, rfl⟩ := own_form ho5
        have hfin := HE.out X6 w5 _ ⟨code, some ⟨W.heap.size + 1, 0, none⟩, n, n, xs⟩ hb6 hCD hn (fun j hj => by cases hj; exact Nat.le_succ _) ho5 hg5
        have ob7 : Own w5 (w.heap.size + 1) 25 #[.slice A1 L'.length c1] := ob6.grown hg5 (fun e => by have := (row_typed hr6 e.symm).2; omega)
        have hf7 := ob7.frozen 0
        refine hK.out _ _ trivial (fun hHeld2 => ?_)
        clear hK K hHeld
        have hHeld := hHeld2
        clear hHeld2
        try simp only [Act.put, List.getElem_toArray, List.getElem_cons_zero, List.getElem_cons_succ, List.setIfInBounds_toArray, List.set_cons_zero, List.set_cons_succ]
        refine wpAnyH_ready (rs := [8]) (by kernel_rfl) (by simp) ?_
        refine AllReadyH.cons rfl (fun K hK => ?_) AllReadyH.nil
        have hc7 := ob7.cell (i := 0) (v := .slice A1 L'.length c1) rfl
        go_simp
        refine hK.out _ _ trivial (fun hHeld2 => ?_)
        clear hK K hHeld
        have hHeld := hHeld2
        clear hHeld2
        try simp only [Act.put, List.getElem_toArray, List.getElem_cons_zero, List.getElem_cons_succ, List.setIfInBounds_toArray, List.set_cons_zero, List.set_cons_succ]
        refine wpAnyH_done (by kernel_rfl) ?_ _
        go_wp2
        go_end0
        exact ⟨⟨_, rfl⟩, hfin⟩
      · skip
        go_simp
        refine hK.out _ _ trivial (fun hHeld2 => ?_)
        clear hK K hHeld
        have hHeld := hHeld2
        clear hHeld2
        try simp only [Act.put, List.getElem_toArray, List.getElem_cons_zero, List.getElem_cons_succ, List.setIfInBounds_toArray, List.set_cons_zero, List.set_cons_succ]
        refine wpAnyH_ready (rs := [0, 6]) (by kernel_rfl) (by simp) ?_
        refine AllReadyH.cons rfl (fun K hK => ?_) (AllReadyH.cons rfl (fun K hK => ?_) AllReadyH.nil)
        · skip
          have c0 := ob4.cell (i := 0) (v := .slice A1 L'.length c1) rfl
          go_simp
          refine hK.out _ _ trivial (fun hHeld2 => ?_)
          clear hK K hHeld
          have hHeld := hHeld2
          clear hHeld2
          try simp only [Act.put, List.getElem_toArray, List.getElem_cons_zero, List.getElem_cons_succ, List.setIfInBounds_toArray, List.set_cons_zero, List.set_cons_succ]
          clear c0
          refine wpAnyH_ready (rs := [6]) (by kernel_rfl) (by simp) ?_
          refine AllReadyH.cons rfl (fun K hK => ?_) AllReadyH.nil
          go_simp
          refine hK.out _ _ trivial (fun hHeld2 => ?_)
          clear hK K hHeld
          have hHeld := hHeld2
          clear hHeld2
          try simp only [Act.put, List.getElem_toArray, List.getElem_cons_zero, List.getElem_cons_succ, List.setIfInBounds_toArray, List.set_cons_zero, List.set_cons_succ]
          have hb6 := bl_alloc hb5 (.cells #[.int .i64 code, .slice (some ⟨W.heap.size + 1, 0, none⟩) n n] 83)
          have oC := Own.new w4 83 #[.int .i64 code, .slice (some ⟨W.heap.size + 1, 0, none⟩) n n]
          have oD := ho4.alloc (.cells #[.int .i64 code, .slice (some ⟨W.heap.size + 1, 0, none⟩) n n] 83)
          have hs6 : w4.heap.size < (w4.alloc (.cells #[.int .i64 code, .slice (some ⟨W.heap.size + 1, 0, none⟩) n n] 83)).heap.size := by simp
          have ob6 := ob.step hb6
          have hr6 := own_belowG hrow.out hb6
          have hs7 := hb6.size
          have hCD : CD (w4.alloc (.cells #[.int .i64 code, .slice (some ⟨W.heap.size + 1, 0, none⟩) n n] 83)) (w.heap.size + 2) ⟨code, some ⟨W.heap.size + 1, 0, none⟩, n, n, xs⟩ := ⟨Own.rowC oD hXn.out.symm (by omega) (show n ≤ maxLen by unfold maxLen; omega), hXn.out, hXr.out⟩
          generalize hg6 : w4.alloc (.cells #[.int .i64 code, .slice (some ⟨W.heap.size + 1, 0, none⟩) n n] 83) = X6 at *
          clear hg6
          refine wpAnyH_ready (rs := [7]) (by kernel_rfl) (by simp) ?_
          refine AllReadyH.cons rfl (fun K hK => ?_) AllReadyH.nil
          refine step_append_at _ rfl _ _ rfl sl_cps (w.heap.size + 2) _ _ _ rfl hr6 _ (some ⟨w4.heap.size, 0, none⟩) 1 1 [.int .i64 code, .slice (some ⟨W.heap.size + 1, 0, none⟩) n n] rfl rfl (Shows.of_owned (xs := [.int .i64 code, .slice (some ⟨W.heap.size + 1, 0, none⟩) n n]) oC hs6) (oneP _ _ _ _) (by unfold maxLen; omega) (by omega) (by omega) ?_
          intro v5 w5 ho5 hg5 _
          obtain ⟨A5, c5, rfl⟩ := own_form ho5
          have hfin := HE.out X6 w5 _ ⟨code, some ⟨W.heap.size + 1, 0, none⟩, n, n, xs⟩ hb6 hCD hn (fun j hj => by cases hj; exact Nat.le_succ _) ho5 hg5
          have ob7 : Own w5 (w.heap.size + 1) 25 #[.slice A1 L'.length c1] := ob6.grown hg5 (fun e => by have := (row_typed hr6 e.symm).2; omega)
          have hf7 := ob7.frozen 0
          refine hK.out _ _ trivial (fun hHeld2 => ?_)
          clear hK K hHeld
          have hHeld := hHeld2
          clear hHeld2
          try simp only [Act.put, List.getElem_toArray, List.getElem_cons_zero, List.getElem_cons_succ, List.setIfInBounds_toArray, List.set_cons_zero, List.set_cons_succ]
          refine wpAnyH_ready (rs := [8]) (by kernel_rfl) (by simp) ?_
          refine AllReadyH.cons rfl (fun K hK => ?_) AllReadyH.nil
          have hc7 := ob7.cell (i := 0) (v := .slice A1 L'.length c1) rfl
          go_simp
          refine hK.out _ _ trivial (fun hHeld2 => ?_)
          clear hK K hHeld
          have hHeld := hHeld2
          clear hHeld2
          try simp only [Act.put, List.getElem_toArray, List.getElem_cons_zero, List.getElem_cons_succ, List.setIfInBounds_toArray, List.set_cons_zero, List.set_cons_succ]
          refine wpAnyH_done (by kernel_rfl) ?_ _
          go_wp2
          go_end0
          exact ⟨⟨_, rfl⟩, hfin⟩
        · skip
          go_simp
          refine hK.out _ _ trivial (fun hHeld2 => ?_)
          clear hK K hHeld
          have hHeld := hHeld2
          clear hHeld2
          try simp only [Act.put, List.getElem_toArray, List.getElem_cons_zero, List.getElem_cons_succ, List.setIfInBounds_toArray, List.set_cons_zero, List.set_cons_succ]
          have hb6 := bl_alloc hb5 (.cells #[.int .i64 code, .slice (some ⟨W.heap.size + 1, 0, none⟩) n n] 83)
          have oC := Own.new w4 83 #[.int .i64 code, .slice (some ⟨W.heap.size + 1, 0, none⟩) n n]
          have oD := ho4.alloc (.cells #[.int .i64 code, .slice (some ⟨W.heap.size + 1, 0, none⟩) n n] 83)
          have hs6 : w4.heap.size < (w4.alloc (.cells #[.int .i64 code, .slice (some ⟨W.heap.size + 1, 0, none⟩) n n] 83)).heap.size := by simp
          have ob6 := ob.step hb6
          have hr6 := own_belowG hrow.out hb6
          have hs7 := hb6.size
          have hCD : CD (w4.alloc (.cells #[.int .i64 code, .slice (some ⟨W.heap.size + 1, 0, none⟩) n n] 83)) (w.heap.size + 2) ⟨code, some ⟨W.heap.size + 1, 0, none⟩, n, n, xs⟩ := ⟨Own.rowC oD hXn.out.symm (by omega) (show n ≤ maxLen by unfold maxLen; omega), hXn.out, hXr.out⟩
          generalize hg6 : w4.alloc (.cells #[.int .i64 code, .slice (some ⟨W.heap.size + 1, 0, none⟩) n n] 83) = X6 at *
          clear hg6
          refine wpAnyH_ready (rs := [0]) (by kernel_rfl) (by simp) ?_
          refine AllReadyH.cons rfl (fun K hK => ?_) AllReadyH.nil
          have c0 := ob6.cell (i := 0) (v := .slice A1 L'.length c1) rfl
          go_simp
          refine hK.out _ _ trivial (fun hHeld2 => ?_)
          clear hK K hHeld
          have hHeld := hHeld2
          clear hHeld2
          try simp only [Act.put, List.getElem_toArray, List.getElem_cons_zero, List.getElem_cons_succ, List.setIfInBounds_toArray, List.set_cons_zero, List.set_cons_succ]
          clear c0
          refine wpAnyH_ready (rs := [7]) (by kernel_rfl) (by simp) ?_
          refine AllReadyH.cons rfl (fun K hK => ?_) AllReadyH.nil
          refine step_append_at _ rfl _ _ rfl sl_cps (w.heap.size + 2) _ _ _ rfl hr6 _ (some ⟨w4.heap.size, 0, none⟩) 1 1 [.int .i64 code, .slice (some ⟨W.heap.size + 1, 0, none⟩) n n] rfl rfl (Shows.of_owned (xs := [.int .i64 code, .slice (some ⟨W.heap.size + 1, 0, none⟩) n n]) oC hs6) (oneP _ _ _ _) (by unfold maxLen; omega) (by omega) (by omega) ?_
          intro v5 w5 ho5 hg5 _
          obtain ⟨A5, c5, rfl⟩ := own_form ho5
          have hfin := HE.out X6 w5 _ ⟨code, some ⟨W.heap.size + 1, 0, none⟩, n, n, xs⟩ hb6 hCD hn (fun j hj => by cases hj; exact Nat.le_succ _) ho5 hg5
          have ob7 : Own w5 (w.heap.size + 1) 25 #[.slice A1 L'.length c1] := ob6.grown hg5 (fun e => by have := (row_typed hr6 e.symm).2; omega)
          have hf7 := ob7.frozen 0
          refine hK.out _ _ trivial (fun hHeld2 => ?_)
          clear hK K hHeld
          have hHeld := hHeld2
          clear hHeld2
          try simp only [Act.put, List.getElem_toArray, List.getElem_cons_zero, List.getElem_cons_succ, List.setIfInBounds_toArray, List.set_cons_zero, List.set_cons_succ]
          refine wpAnyH_ready (rs := [8]) (by kernel_rfl) (by simp) ?_
          refine AllReadyH.cons rfl (fun K hK => ?_) AllReadyH.nil
          have hc7 := ob7.cell (i := 0) (v := .slice A1 L'.length c1) rfl
          go_simp
          refine hK.out _ _ trivial (fun hHeld2 => ?_)
          clear hK K hHeld
          have hHeld := hHeld2
          clear hHeld2
          try simp only [Act.put, List.getElem_toArray, List.getElem_cons_zero, List.getElem_cons_succ, List.setIfInBounds_toArray, List.set_cons_zero, List.set_cons_succ]
          refine wpAnyH_done (by kernel_rfl) ?_ _
          go_wp2
          go_end0
          exact ⟨⟨_, rfl⟩, hfin⟩
end Go.Proofs.YtniheakafkakhaaDoor
