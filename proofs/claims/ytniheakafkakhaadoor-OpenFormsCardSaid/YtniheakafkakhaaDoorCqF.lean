/- capability.Family, capability.Mode -/
import Derived.Test.YtniheakafkakhaaDoorCqG
import Derived.Test.YtniheakafkakhaaDoorRfD
import Derived.Maps.OwnIn
import Derived.Maps.Views
import Derived.Carry
namespace Go.Proofs.YtniheakafkakhaaDoor
open Go.RowKit Go.Shelf Go.Maps

attribute [local go_sem] Oper.semAt_some

def famF (q : Q4) : Int := famOf (q.a * 256 + q.b) q.d
def famM (q : Q4) : Int := famOf (q.a * 256 + q.b) q.c
theorem famOf_cases (a c : Int) : famOf a c = 0 ∨ famOf a c = 1 ∨ famOf a c = 2 := by unfold famOf; split <;> omega
theorem famOf_wf (a c : Int) : (Lit.int .i64 (famOf a c)).wf = true := by rcases famOf_cases a c with h | h | h <;> rw [h] <;> rfl
set_option maxRecDepth 100000 in
theorem famof_any (a b c : Int) (w : World) (hf : Fams w) (ha : 0 ≤ a ∧ a ≤ 255) (hb : 0 ≤ b ∧ b ≤ 255) (hc : 0 ≤ c ∧ c ≤ 255) :
    Calls Tryd.prog 68 #[.int .u8 a, .int .u8 b, .int .u8 c] w fun e w' => e = .returned (.int .i64 (famOf (a * 256 + b) c)) ∧ w = w' := by
  have w1 : IntKind.u32.wrap a = a := by rw [IntKind.wrap_u32]; omega
  have w2 : IntKind.u32.wrap b = b := by rw [IntKind.wrap_u32]; omega
  have w3 : IntKind.u32.wrap c = c := by rw [IntKind.wrap_u32]; omega
  have w4 : IntKind.u32.wrap (a * 256) = a * 256 := by rw [IntKind.wrap_u32]; omega
  have hor := Lib.hid (or_byte a b ha.1 (by omega) hb.1 hb.2)
  go_enter Tryd.func68, Tryd.ntmps68
  go_wp2_with fail
  rw [hor.out]
  refine (mfamily_any _ _ _ hf).mono ?_
  rintro e w' ⟨rfl, rfl⟩
  go_wp2
  go_ret
  exact ⟨rfl, rfl⟩
/-- A region whose operations but the last ones leave all as it is, met in a round of a range over a function. -/
theorem round_still_tail {P : Program} {id l₀ k : Nat} {Q : Exit → Act → World → Prop} {a : Act} {w : World} {l : List Oper} (n : Nat) (hm : P.follows .mixedOrders = true) (hB : Region.lexTailB .any l.toArray n = true) (hQ : ¬ LetsOut Q) (hd : noDefer l.toArray = true)
    (h : wpStill P l.toArray w.drew (fun a' => wpList P l.toArray Q (l.drop n) a' w.drew) (l.take n) a) : (Code.region id l.toArray true).wpIn (Fence.wide.inRound l₀) k P Q a w := by
  simp only [Region.lexTailB, Bool.and_eq_true, decide_eq_true_eq] at hB
  obtain ⟨⟨⟨⟨h1, h2⟩, h3⟩, h4⟩, h5⟩ := hB
  have hl : n < l.length := by simpa using h2
  have ht : (l.take n).length = n := by simp; omega
  have hs : (l.drop n).length = l.toArray.size - n := by simp
  have hi : HeadInv .any l.toArray n (Array.replicate l.toArray.size false) :=
    ⟨by simp, fun j oj _ hj => (by rw [getD_replicate_false] at hj; cases hj), fun t _ hj => getD_in (by simpa using hj) (getD_replicate_false _ _)⟩
  have H := wpAnyL_lex (md := .any) (g := l.toArray.size - n) h1 h3 h4 h2 (l.take n) 0 _ a (fun j hj => by
    rw [ht] at hj
    simp [hj]) (by simpa using ht) hi (by rw [ht]; exact h5) h
  have G := wpAny_of_head (Q' := Q) (g := l.toArray.size - n) (fun listed a' hL => by
    have := wpAny_of_seq (md := .any) (Q' := Q) (l.drop n) n listed a' w.drew (fun j => by simp [List.getElem?_drop]) (by rw [hs]; exact hL.1) hL.2
    rwa [hs] at this) _ _ _ H
  rw [ht, show n + (l.toArray.size - n) = l.toArray.size by omega] at G
  exact wpIn_region_any hm (any_round hQ hd _ _ _ _ G)
set_option maxRecDepth 100000 in
theorem map_restC {w w' : World} {P : Nat → Prop} {T : TypeId} {R : Value → Option (DataW Unit × List MemPlace)} {b n : Nat} {D : DataW Unit} (h : w.ownsMap Tryd.prog T R b n D) (k : Rest w w' P) (hp : ¬ P b) : w'.ownsMap Tryd.prog T R b n D := by
  have hlt := h.lt
  obtain ⟨es, clock, hb, F, hs, hD⟩ := h
  exact ⟨es, clock, (k.block b hlt hp).trans hb, F, hs, hD⟩
theorem own_cellsC (g : Nat) (t : TypeId) (cs : Array Value) : Go.Own (fun (_ : Unit) W => Own W g t cs) := fun _ _ _ _ hs hg hrow =>
  Own.grown hs hg (fun e => by
    obtain ⟨o, ho, hc⟩ := hrow g e.symm
    rw [show _ = _ from hs] at ho
    cases ho
    cases hc)
set_option maxRecDepth 100000 in
theorem int_keyC : Keyed Tryd.prog 3 := int_keyed Tryd.underlying3
/-- Whether a family is named. -/
def famK (f : Int) (L : List (Int × List Int)) : Bool := decide (f ≠ 0) && (quads 1 L).any (fun q => decide (famF q = f))
def modStep (f : Int) (m : Int) (q : Q4) : Int := if famM q = f ∧ 1 ≤ q.d ∧ q.d ≤ 3 then q.d else m
def modQ (f : Int) (L : List Q4) : Int := L.foldl (modStep f) 0
theorem modQ_snoc (f : Int) (L : List Q4) (q : Q4) : modQ f (L ++ [q]) = modStep f (modQ f L) q := by unfold modQ; rw [List.foldl_append]; rfl
/-- How a family uses identifiers. -/
def modK (f : Int) (L : List (Int × List Int)) : Int := if f = 0 then 0 else modQ f (quads 69 L)
def MetF (D : DataW Unit) (pre : List Q4) : Prop := IsMap D ∧ ∀ t : Int, D.atKey (.int .i64 t) (.lit (.bool false)) = .lit (.bool (pre.any (fun q => decide (famF q = t))))
def MetM (D : DataW Unit) (pre : List Q4) : Prop := IsMap D ∧ ∀ t : Int, D.atKey (.int .i64 t) (.lit (.int .i64 0)) = .lit (.int .i64 (modQ t pre))
theorem isKeyI (t : Int) : WideAt.IsKeyLit (.int .i64 t) := trivial
theorem MetF.put {D : DataW Unit} {pre : List Q4} (h : MetF D pre) (x : Q4) : MetF (D.put (.int .i64 (famF x)) (.lit (.bool true))) (pre ++ [x]) := by
  refine ⟨h.1.put _ _, fun t => ?_⟩
  rw [List.any_append]
  by_cases e : famF x = t
  · rw [← e, atKey_put_same h.1 (isKeyI _)]
    simp
  · rw [atKey_put_other (fun e2 => e (Lit.int.inj e2).2.symm), h.2 t]
    simp [e]
theorem MetM.put {D : DataW Unit} {pre : List Q4} (h : MetM D pre) {x : Q4} (hx : 1 ≤ x.d ∧ x.d ≤ 3) : MetM (D.put (.int .i64 (famM x)) (.lit (.int .i64 x.d))) (pre ++ [x]) := by
  refine ⟨h.1.put _ _, fun t => ?_⟩
  rw [modQ_snoc]
  unfold modStep
  by_cases e : famM x = t
  · rw [← e, atKey_put_same h.1 (isKeyI _), if_pos ⟨rfl, hx⟩]
  · rw [atKey_put_other (fun e2 => e (Lit.int.inj e2).2.symm), h.2 t, if_neg (fun h => e h.1)]
theorem MetM.same {D : DataW Unit} {pre : List Q4} (h : MetM D pre) {x : Q4} (hx : ¬ (1 ≤ x.d ∧ x.d ≤ 3)) : MetM D (pre ++ [x]) := by
  refine ⟨h.1, fun t => ?_⟩
  rw [modQ_snoc, h.2 t]
  unfold modStep
  rw [if_neg (fun h => hx h.2)]
theorem MetF.out {D : DataW Unit} {L : List (Int × List Int)} (h : MetF D (quads 1 L)) (f : Int) : (D.del (.int .i64 0)).atKey (.int .i64 f) (.lit (.bool false)) = .lit (.bool (famK f L)) := by
  unfold famK
  by_cases e : f = 0
  · subst e
    rw [atKey_del_same]
    simp
  · rw [atKey_del_other (fun e2 => e (Lit.int.inj e2).2), h.2 f]
    simp [e]
theorem MetM.out {D : DataW Unit} {L : List (Int × List Int)} (h : MetM D (quads 69 L)) (f : Int) : (D.del (.int .i64 0)).atKey (.int .i64 f) (.lit (.int .i64 0)) = .lit (.int .i64 (modK f L)) := by
  unfold modK
  by_cases e : f = 0
  · subst e
    rw [atKey_del_same, if_pos rfl]
  · rw [atKey_del_other (fun e2 => e (Lit.int.inj e2).2), h.2 f, if_neg e]
theorem quads_bound {code : Int} : ∀ {ss : List Cp}, (∀ s ∈ ss, s.n = s.xs.length ∧ s.n ≤ 100000) → (quads code (ss.map cpK)).length ≤ ss.length * 100000
  | [], _ => by simp [quads]
  | s :: ss, h => by
    have ih := quads_bound (code := code) (ss := ss) (fun z hz => h z (List.mem_cons_of_mem _ hz))
    obtain ⟨h1, h2⟩ := h s List.mem_cons_self
    have e : quads code ((s :: ss).map cpK) = quadsK code (cpK s) ++ quads code (ss.map cpK) := by unfold quads; rw [List.map_cons, List.flatMap_cons]
    have h3 : (quadsK code (cpK s)).length ≤ 100000 := by
      unfold quadsK
      split
      · rw [q4s_length]
        show s.xs.length / 4 ≤ _
        omega
      · simp
    rw [e, List.length_append, List.length_cons, Nat.succ_mul]
    omega
set_option maxRecDepth 100000 in
theorem look_fam {w : World} {b n : Nat} {D : DataW Unit} {V : Bool} {f : Int} (h : w.ownsMap Tryd.prog 3 (plainElem Tryd.prog 4) b n D) (hD : D.atKey (.int .i64 f) (.lit (.bool false)) = .lit (.bool V)) (hf : (Lit.int .i64 f).wf = true) :
    (Instr.lookup 98 (.map (some b)) (.int .i64 f) false).run Tryd.prog w = .ok (.bool V) w := by
  obtain ⟨v, ps, hrun, hv⟩ := h.lookup int_keyC Tryd.underlying98 (z := .bool false) (zd := .lit (.bool false)) (zp := []) (by kernel_rfl) (plainElem_bool Tryd.underlying4 false) (keyOf_int_mk Tryd.underlying3 hf)
  rw [hD] at hv
  unfold plainElem at hv
  rw [Tryd.underlying4] at hv
  cases v <;> simp at hv
  rw [hrun, hv.1]
set_option maxRecDepth 100000 in
theorem look_mod {w : World} {b n : Nat} {D : DataW Unit} {V : Int} {f : Int} (h : w.ownsMap Tryd.prog 3 (plainElem Tryd.prog 3) b n D) (hD : D.atKey (.int .i64 f) (.lit (.int .i64 0)) = .lit (.int .i64 V)) (hf : (Lit.int .i64 f).wf = true) :
    (Instr.lookup 104 (.map (some b)) (.int .i64 f) false).run Tryd.prog w = .ok (.int .i64 V) w := by
  obtain ⟨c, hrun, hat, _⟩ := h.lookup_int int_keyC Tryd.underlying104 Tryd.underlying3 (by kernel_rfl) (keyOf_int_mk Tryd.underlying3 hf)
  rw [hD] at hat
  injection hat with hat
  injection hat with _ hat
  rw [hrun, hat]
/-- Between two rounds of Family. -/
structure FamI (w : World) (D : DataW Unit) (pre : List Q4) (W : World) : Prop where
  map : W.ownsMap Tryd.prog 3 (plainElem Tryd.prog 4) w.heap.size pre.length D
  met : MetF D pre
  box : Boxed W (w.heap.size + 1) 98 (.map (some w.heap.size))
  bel : Below w.heap.size w W
theorem FamI.own {w : World} {B : Nat} (hB : w.heap.size + 2 ≤ B) : OwnFrom B (fun pre W => ∃ D, FamI w D pre W) := by
  rintro s X Y row ⟨D, hI⟩ hg hr
  have R := Rest.of_grown hg (P := fun i => row = some i) (fun j e => e)
  exact ⟨D, map_restC hI.map R (fun e => by have := (hr _ e).1; omega), hI.met, (R.block _ hI.box.lt (fun e => by have := (hr _ e).1; omega)).trans hI.box, ownFrom_below (β := Unit) (Nat.le_refl _) (by omega) () X Y row hI.bel hg hr⟩
theorem FamI.below {w W X : World} {D : DataW Unit} {pre : List Q4} (hI : FamI w D pre W) (hb : Below W.heap.size W X) : FamI w D pre X :=
  ⟨map_restC hI.map (Rest.of_below hb (fun _ => False)) (fun h => h), hI.met, (hb.block _ hI.box.lt).trans hI.box, bl_trans hI.bel hb⟩
set_option maxRecDepth 100000 in
theorem FamI.put {w W w2 : World} {D E : DataW Unit} {pre : List Q4} {x : Q4} {B : Nat} (hB : w.heap.size < B) (hI : FamI w D pre W) (hm : w2.ownsMap Tryd.prog 3 (plainElem Tryd.prog 4) w.heap.size (pre.length + 1) E) (hE : MetF E (pre ++ [x])) (hg : W.drew.grownBy w2 (some w.heap.size)) :
    KeepsFrom B W w2 ∧ KpC w.heap.size W w2 ∧ ∃ D, FamI w D (pre ++ [x]) w2 := by
  have hg' : W.grownBy w2 (some w.heap.size) := ⟨hg.os, hg.tape, hg.output, hg.size, hg.block⟩
  have hb : Below w.heap.size W w2 := ⟨hg.os, hg.tape, hg.output, hg.size, fun i hi => hg.block i (Nat.lt_of_lt_of_le hi hI.bel.size) (fun e => by cases e; omega)⟩
  refine ⟨KeepsFrom.of_grownBy hg' (fun j e => by cases e; exact hB), ⟨hb, fun i o h1 h2 => (hg.block i (Array.getElem?_eq_some_iff.1 h1).1 (fun e => ?_)).trans h1⟩, E, ?_, hE, (hg.block _ hI.box.lt (fun e => by have := Option.some.inj e; omega)).trans hI.box, hI.bel.trans hb⟩
  · cases e
    obtain ⟨es, clock, h3, _⟩ := hI.map
    rw [h3] at h1
    cases h1
    cases h2
  · rw [List.length_append]
    exact hm
set_option maxRecDepth 100000 in
set_option maxHeartbeats 6400000 in
theorem cfamily_any (fam : Int) (hfw : (Lit.int .i64 fam).wf = true) (A : Option Addr) (n c : Nat) (ss : List Cp) (w : World) (h : Caps w w.heap.size A n ss) (hn : n ≤ 1000) (hs : ∀ s ∈ ss, s.n ≤ 100000) (hf : Fams w) :
    Calls Tryd.prog 19 #[.int .i64 fam, .slice A n c] w fun e w' => e = .returned (.bool (famK fam (ss.map cpK))) ∧ Below w.heap.size w w' := by
  have HQ : Hid ((quads 1 (ss.map cpK)).length < maxLen) := Lib.hid (by
    have h1 := quads_bound (code := 1) (fun s m => ⟨(h.2.1 s m).1.1, hs s m⟩)
    have h2 := h.1
    unfold maxLen
    omega)
  have hGr := Lib.hid (fun W => cgroups_any 1 A n c W)
  have hSt := Lib.hid (fun (Bn Cn : Nat) (W : World) (hBn : Boxed W Bn 25 (.slice A n c)) (hCn : Boxed W Cn 3 (.int .i64 1)) (hU : Caps W w.heap.size A n ss) (hn0 : w.heap.size ≤ W.heap.size) => cgroups_stops 8 (by omega) Bn Cn w.heap.size 1 A n c ss (by omega) hs W hBn hCn hU hn0)
  have HU := Lib.hid h
  have HF := Lib.hid hf
  have HW := Lib.hid hfw
  have hO := Lib.hid (fun (D : DataW Unit) (hD : MetF D (quads 1 (ss.map cpK))) => MetF.out (L := ss.map cpK) hD fam)
  generalize famK fam (ss.map cpK) = V at *
  generalize quads 1 (ss.map cpK) = Q at *
  have hMk : ∀ (W : World), (Instr.makeMap 98 none).run Tryd.prog W = .ok (.map (some W.heap.size)) (W.alloc (.map #[] 0)) := fun W => run_makeMap _ W
  clear h hs hf hfw
  refine (callsIn_wide (n := 9)).1 ?_
  refine callsIn_of_wp_marks Tryd.func19 rfl trivial ?_ rfl
  simp only [Tryd.ntmps19, List.size_toArray, List.length_cons, List.length_nil, Nat.reduceAdd, Nat.reduceSub, Array.replicate_succ, Array.replicate_zero, List.push_toArray, List.append_toArray, List.nil_append, List.cons_append]
  gi_wp2_with (refine ⟨trivial, ?_⟩; gi_at_call 67; refine (callsIn_wide.2 (hGr.out _)).mono ?_; rintro e w' ⟨rfl, rfl⟩)
  have hM := (((World.ownsMap_made (H := Unit) w Tryd.prog 3 (plainElem Tryd.prog 4)).alloc (.cells #[.map (some w.heap.size)] 98)).alloc (.cells #[.int .i64 1] 3)).alloc (.cells #[.slice A n c] 25)
  have bM := ((Boxed.new (w.alloc (.map #[] 0)) 98 (.map (some w.heap.size))).alloc (.cells #[.int .i64 1] 3)).alloc (.cells #[.slice A n c] 25)
  have bC := (Boxed.new ((w.alloc (.map #[] 0)).alloc (.cells #[.map (some w.heap.size)] 98)) 3 (.int .i64 1)).alloc (.cells #[.slice A n c] 25)
  have bB := Boxed.new (((w.alloc (.map #[] 0)).alloc (.cells #[.map (some w.heap.size)] 98)).alloc (.cells #[.int .i64 1] 3)) 25 (.slice A n c)
  have hB0 := bl_alloc (bl_alloc (bl_alloc (bl_alloc (bl_refl w) (.map #[] 0)) (.cells #[.map (some w.heap.size)] 98)) (.cells #[.int .i64 1] 3)) (.cells #[.slice A n c] 25)
  have hsz : ((((w.alloc (.map #[] 0)).alloc (.cells #[.map (some w.heap.size)] 98)).alloc (.cells #[.int .i64 1] 3)).alloc (.cells #[.slice A n c] 25)).heap.size = w.heap.size + 4 := by simp
  simp only [World.size_alloc] at bM bC bB
  obtain ⟨W0, hW0⟩ : ∃ W0, (((w.alloc (.map #[] 0)).alloc (.cells #[.map (some w.heap.size)] 98)).alloc (.cells #[.int .i64 1] 3)).alloc (.cells #[.slice A n c] 25) = W0 := ⟨_, rfl⟩
  rw [hW0] at hM bM bC bB hB0 hsz ⊢
  have HSZ := Lib.hid hsz
  clear hW0 hMk hsz
  refine wpIn_rangeFunc_ownH rfl (by omega) (gf := 104) (lb := #[.pointer (some ⟨w.heap.size + 1 + 1 + 1, 0, none⟩), .pointer (some ⟨w.heap.size + 1 + 1, 0, none⟩)]) rfl trivial (enters_of Tryd.func104 (by kernel_rfl) rfl)
    (hSt.out _ _ W0 bB bC (HU.out.below hB0) hB0.size) (fun h k => kpC_t h k) (kpC_b hB0.size) (Below.refl _ _) (fun _ => rfl)
    (fun pre W => ∃ D, FamI w D pre W)
    (fun _ _ _ => False)
    (FamI.own (by have := HSZ.out; omega))
    (fun _ _ _ _ _ hs _ _ => hs)
    ⟨.map [], hM, ⟨⟨_, rfl⟩, fun _ => rfl⟩, bM, hB0⟩
    (fun x a' W => ∃ Bx, Own W Bx 102 #[.int .u8 x.a, .int .u8 x.b, .int .u8 x.c, .int .u8 x.d] ∧ a' = { tmps := #[.int .i64 fam, .slice A n c, undef, undef, .bool false, .pointer (some ⟨w.heap.size + 1, 0, none⟩), .pointer (some ⟨Bx, 0, none⟩), .map (some w.heap.size), .slice A n c, .func (.func 104) #[] #[.pointer (some ⟨w.heap.size + 1 + 1 + 1, 0, none⟩), .pointer (some ⟨w.heap.size + 1 + 1, 0, none⟩)], .agg #[.int .u8 x.a, .int .u8 x.b, .int .u8 x.c, .int .u8 x.d], undef, undef, undef, undef, undef, undef, undef, undef, undef, undef, undef, undef], defers := [] })
    (fun x a' _ X Y row hs hg hr => by obtain ⟨Bx, h1, h2⟩ := hs; exact ⟨Bx, (own_cellsC _ _ _).from _ () X Y row h1 hg hr, h2⟩)
    ?assign ?body ?done ?stop
  case assign =>
    rintro l pre x W K ⟨D, hI⟩ hK
    unfold q4Enc
    gi_wp2
    exact hK _ _ ((KeepsOthers.alloc _ _).from _) (kpC_below (bl_alloc (bl_refl W) _) hI.bel.size) ⟨D, hI.below (bl_alloc (bl_refl W) _)⟩ ⟨W.heap.size, Own.new W _ _, rfl⟩
  case body =>
    rintro l pre x a' W hl _ ⟨D, hI⟩ ⟨Bx, oX, rfl⟩ hlt
    have hb0 : Below w.heap.size w W.drew := bl_drewN hI.bel 1
    have c0 : W.drew.cell? ⟨w.heap.size + 1, 0, none⟩ = some (.map (some w.heap.size)) := hI.box.cell
    have q0 : W.drew.cell? ⟨Bx, 0, none⟩ = some (.int .u8 x.a) := oX.cell (i := 0) (v := .int .u8 x.a) rfl
    have q1 : W.drew.cell? ⟨Bx, 1, none⟩ = some (.int .u8 x.b) := oX.cell (i := 1) (v := .int .u8 x.b) rfl
    have q2 : W.drew.cell? ⟨Bx, 2, none⟩ = some (.int .u8 x.c) := oX.cell (i := 2) (v := .int .u8 x.c) rfl
    have q3 : W.drew.cell? ⟨Bx, 3, none⟩ = some (.int .u8 x.d) := oX.cell (i := 3) (v := .int .u8 x.d) rfl
    have hlq : pre.length < maxLen := by have := HQ.out; omega
    have hF : Hid (Calls Tryd.prog 68 #[.int .u8 x.a, .int .u8 x.b, .int .u8 x.d] W.drew (fun e w' => e = .returned (.int .i64 (famF x)) ∧ w' = W.drew)) := Lib.hid ((famof_any x.a x.b x.d W.drew (HF.out.below hb0) x.ha x.hb x.hd).mono (fun e w' h => ⟨h.1, h.2.symm⟩))
    gi_wp2
    refine round_still_tail 8 (by kernel_rfl) (by kernel_rfl) ?_ (by kernel_rfl) ?_; exact fun ⟨_, _, hq⟩ => hq
    simp only [List.take_succ_cons, List.take_zero, List.drop_succ_cons, List.drop_zero]
    repeat still_step
    still_call hF.out
    refine wpStill_nil ?_
    refine wpList_mapUpdate_own _ rfl _ _ _ 98 rfl 3 4 int_keyC Tryd.underlying98 _ w.heap.size pre.length D rfl (map_restC hI.map (Rest.of_below (bl_drewN (bl_refl W) 1) (fun _ => False)) (fun h => h)) hlq _ _ (.int .i64 (famF x)) rfl rfl (keyOf_int_mk Tryd.underlying3 (famOf_wf _ _)) _ [] (plainElem_bool Tryd.underlying4 true) ?_
    intro w2 hm2 hg2
    refine wpList_nil ?_
    exact hI.put (by have := HSZ.out; omega) hm2 (hI.met.put x) hg2
  case done =>
    rintro D0 zs W hD rfl ⟨D, hI⟩ hK
    have c0 := hI.box.cell
    gi_wp2_with (gi_at_delete; refine wpListIn_delete_own _ rfl _ _ 98 3 rfl 4 int_keyC Tryd.underlying98 _ w.heap.size _ D rfl hI.map _ _ rfl (keyOf_int_mk Tryd.underlying3 rfl) ?_; intro W2 hm2 ht2; have R2 := Rest.of_grown ht2.grown (P := fun i => i = w.heap.size) (fun j e => (Option.some.inj e).symm); have bx2 : Boxed W2 (w.heap.size + 1) 98 (.map (some w.heap.size)) := (R2.block _ hI.box.lt (by omega)).trans hI.box; have c2 := bx2.cell; have hlk := look_fam hm2 (hO.out _ hI.met) HW.out)
    have hK5 := (R2.block D0 (Array.getElem?_eq_some_iff.1 hK).1 (by have := HSZ.out; omega)).trans hK
    refine ⟨by simp, .inl ⟨_, _, rfl, run_takeDeferred hK5, ?_⟩⟩
    exact ⟨_, results_tmp rfl _ _ _, rfl, (hI.bel.trans (R2.to_below hI.bel.size (by omega))).trans (belowK_b (w := W0) hB0.size W2 D0 _ _ hD hK5 rfl rfl)⟩
  case stop =>
    rintro D0 c pre W _ _ h _
    exact h.elim
/-- Between two rounds of Mode. -/
structure ModI (w : World) (D : DataW Unit) (pre : List Q4) (W : World) : Prop where
  map : W.ownsMap Tryd.prog 3 (plainElem Tryd.prog 3) w.heap.size pre.length D
  met : MetM D pre
  box : Boxed W (w.heap.size + 1) 104 (.map (some w.heap.size))
  bel : Below w.heap.size w W
theorem ModI.own {w : World} {B : Nat} (hB : w.heap.size + 2 ≤ B) : OwnFrom B (fun pre W => ∃ D, ModI w D pre W) := by
  rintro s X Y row ⟨D, hI⟩ hg hr
  have R := Rest.of_grown hg (P := fun i => row = some i) (fun j e => e)
  exact ⟨D, map_restC hI.map R (fun e => by have := (hr _ e).1; omega), hI.met, (R.block _ hI.box.lt (fun e => by have := (hr _ e).1; omega)).trans hI.box, ownFrom_below (β := Unit) (Nat.le_refl _) (by omega) () X Y row hI.bel hg hr⟩
theorem ModI.below {w W X : World} {D : DataW Unit} {pre : List Q4} (hI : ModI w D pre W) (hb : Below W.heap.size W X) : ModI w D pre X :=
  ⟨map_restC hI.map (Rest.of_below hb (fun _ => False)) (fun h => h), hI.met, (hb.block _ hI.box.lt).trans hI.box, bl_trans hI.bel hb⟩
set_option maxRecDepth 100000 in
theorem ModI.put {w W w2 : World} {D E : DataW Unit} {pre : List Q4} {x : Q4} {B : Nat} (hB : w.heap.size < B) (hI : ModI w D pre W) (hm : w2.ownsMap Tryd.prog 3 (plainElem Tryd.prog 3) w.heap.size (pre.length + 1) E) (hE : MetM E (pre ++ [x])) (hg : W.drew.grownBy w2 (some w.heap.size)) :
    KeepsFrom B W w2 ∧ KpC w.heap.size W w2 ∧ ∃ D, ModI w D (pre ++ [x]) w2 := by
  have hg' : W.grownBy w2 (some w.heap.size) := ⟨hg.os, hg.tape, hg.output, hg.size, hg.block⟩
  have hb : Below w.heap.size W w2 := ⟨hg.os, hg.tape, hg.output, hg.size, fun i hi => hg.block i (Nat.lt_of_lt_of_le hi hI.bel.size) (fun e => by cases e; omega)⟩
  refine ⟨KeepsFrom.of_grownBy hg' (fun j e => by cases e; exact hB), ⟨hb, fun i o h1 h2 => (hg.block i (Array.getElem?_eq_some_iff.1 h1).1 (fun e => ?_)).trans h1⟩, E, ?_, hE, (hg.block _ hI.box.lt (fun e => by have := Option.some.inj e; omega)).trans hI.box, hI.bel.trans hb⟩
  · cases e
    obtain ⟨es, clock, h3, _⟩ := hI.map
    rw [h3] at h1
    cases h1
    cases h2
  · rw [List.length_append]
    exact hm
set_option maxRecDepth 100000 in
set_option maxHeartbeats 6400000 in
theorem cmode_any (fam : Int) (hfw : (Lit.int .i64 fam).wf = true) (A : Option Addr) (n c : Nat) (ss : List Cp) (w : World) (h : Caps w w.heap.size A n ss) (hn : n ≤ 1000) (hs : ∀ s ∈ ss, s.n ≤ 100000) (hf : Fams w) :
    Calls Tryd.prog 21 #[.int .i64 fam, .slice A n c] w fun e w' => e = .returned (.int .i64 (modK fam (ss.map cpK))) ∧ Below w.heap.size w w' := by
  have HQ : Hid ((quads 69 (ss.map cpK)).length < maxLen) := Lib.hid (by
    have h1 := quads_bound (code := 69) (fun s m => ⟨(h.2.1 s m).1.1, hs s m⟩)
    have h2 := h.1
    unfold maxLen
    omega)
  have hGr := Lib.hid (fun W => cgroups_any 69 A n c W)
  have hSt := Lib.hid (fun (Bn Cn : Nat) (W : World) (hBn : Boxed W Bn 25 (.slice A n c)) (hCn : Boxed W Cn 3 (.int .i64 69)) (hU : Caps W w.heap.size A n ss) (hn0 : w.heap.size ≤ W.heap.size) => cgroups_stops 8 (by omega) Bn Cn w.heap.size 69 A n c ss (by omega) hs W hBn hCn hU hn0)
  have HU := Lib.hid h
  have HF := Lib.hid hf
  have HW := Lib.hid hfw
  have hO := Lib.hid (fun (D : DataW Unit) (hD : MetM D (quads 69 (ss.map cpK))) => MetM.out (L := ss.map cpK) hD fam)
  generalize modK fam (ss.map cpK) = V at *
  generalize quads 69 (ss.map cpK) = Q at *
  have hMk : ∀ (W : World), (Instr.makeMap 104 none).run Tryd.prog W = .ok (.map (some W.heap.size)) (W.alloc (.map #[] 0)) := fun W => run_makeMap _ W
  clear h hs hf hfw
  refine (callsIn_wide (n := 9)).1 ?_
  refine callsIn_of_wp_marks Tryd.func21 rfl trivial ?_ rfl
  simp only [Tryd.ntmps21, List.size_toArray, List.length_cons, List.length_nil, Nat.reduceAdd, Nat.reduceSub, Array.replicate_succ, Array.replicate_zero, List.push_toArray, List.append_toArray, List.nil_append, List.cons_append]
  gi_wp2_with (refine ⟨trivial, ?_⟩; gi_at_call 67; refine (callsIn_wide.2 (hGr.out _)).mono ?_; rintro e w' ⟨rfl, rfl⟩)
  have hM := (((World.ownsMap_made (H := Unit) w Tryd.prog 3 (plainElem Tryd.prog 3)).alloc (.cells #[.map (some w.heap.size)] 104)).alloc (.cells #[.int .i64 69] 3)).alloc (.cells #[.slice A n c] 25)
  have bM := ((Boxed.new (w.alloc (.map #[] 0)) 104 (.map (some w.heap.size))).alloc (.cells #[.int .i64 69] 3)).alloc (.cells #[.slice A n c] 25)
  have bC := (Boxed.new ((w.alloc (.map #[] 0)).alloc (.cells #[.map (some w.heap.size)] 104)) 3 (.int .i64 69)).alloc (.cells #[.slice A n c] 25)
  have bB := Boxed.new (((w.alloc (.map #[] 0)).alloc (.cells #[.map (some w.heap.size)] 104)).alloc (.cells #[.int .i64 69] 3)) 25 (.slice A n c)
  have hB0 := bl_alloc (bl_alloc (bl_alloc (bl_alloc (bl_refl w) (.map #[] 0)) (.cells #[.map (some w.heap.size)] 104)) (.cells #[.int .i64 69] 3)) (.cells #[.slice A n c] 25)
  have hsz : ((((w.alloc (.map #[] 0)).alloc (.cells #[.map (some w.heap.size)] 104)).alloc (.cells #[.int .i64 69] 3)).alloc (.cells #[.slice A n c] 25)).heap.size = w.heap.size + 4 := by simp
  simp only [World.size_alloc] at bM bC bB
  obtain ⟨W0, hW0⟩ : ∃ W0, (((w.alloc (.map #[] 0)).alloc (.cells #[.map (some w.heap.size)] 104)).alloc (.cells #[.int .i64 69] 3)).alloc (.cells #[.slice A n c] 25) = W0 := ⟨_, rfl⟩
  rw [hW0] at hM bM bC bB hB0 hsz ⊢
  have HSZ := Lib.hid hsz
  clear hW0 hMk hsz
  refine wpIn_rangeFunc_ownH rfl (by omega) (gf := 104) (lb := #[.pointer (some ⟨w.heap.size + 1 + 1 + 1, 0, none⟩), .pointer (some ⟨w.heap.size + 1 + 1, 0, none⟩)]) rfl trivial (enters_of Tryd.func104 (by kernel_rfl) rfl)
    (hSt.out _ _ W0 bB bC (HU.out.below hB0) hB0.size) (fun h k => kpC_t h k) (kpC_b hB0.size) (Below.refl _ _) (fun _ => rfl)
    (fun pre W => ∃ D, ModI w D pre W)
    (fun _ _ _ => False)
    (ModI.own (by have := HSZ.out; omega))
    (fun _ _ _ _ _ hs _ _ => hs)
    ⟨.map [], hM, ⟨⟨_, rfl⟩, fun _ => rfl⟩, bM, hB0⟩
    (fun x a' W => ∃ Bx, Own W Bx 102 #[.int .u8 x.a, .int .u8 x.b, .int .u8 x.c, .int .u8 x.d] ∧ a' = { tmps := #[.int .i64 fam, .slice A n c, undef, undef, .int .i64 0, .pointer (some ⟨w.heap.size + 1, 0, none⟩), .pointer (some ⟨Bx, 0, none⟩), undef, .map (some w.heap.size), .slice A n c, .func (.func 104) #[] #[.pointer (some ⟨w.heap.size + 1 + 1 + 1, 0, none⟩), .pointer (some ⟨w.heap.size + 1 + 1, 0, none⟩)], .agg #[.int .u8 x.a, .int .u8 x.b, .int .u8 x.c, .int .u8 x.d], undef, undef, undef, undef, undef, undef, undef, undef, undef, undef, undef, undef, undef, undef, undef, undef, undef, undef, undef, undef, undef, undef], defers := [] })
    (fun x a' _ X Y row hs hg hr => by obtain ⟨Bx, h1, h2⟩ := hs; exact ⟨Bx, (own_cellsC _ _ _).from _ () X Y row h1 hg hr, h2⟩)
    ?assign ?body ?done ?stop
  case assign =>
    rintro l pre x W K ⟨D, hI⟩ hK
    unfold q4Enc
    gi_wp2
    exact hK _ _ ((KeepsOthers.alloc _ _).from _) (kpC_below (bl_alloc (bl_refl W) _) hI.bel.size) ⟨D, hI.below (bl_alloc (bl_refl W) _)⟩ ⟨W.heap.size, Own.new W _ _, rfl⟩
  case body =>
    rintro l pre x a' W hl _ ⟨D, hI⟩ ⟨Bx, oX, rfl⟩ hlt
    have hb0 : Below w.heap.size w W.drew := bl_drewN hI.bel 1
    have c0 : W.drew.cell? ⟨w.heap.size + 1, 0, none⟩ = some (.map (some w.heap.size)) := hI.box.cell
    have q0 : W.drew.cell? ⟨Bx, 0, none⟩ = some (.int .u8 x.a) := oX.cell (i := 0) (v := .int .u8 x.a) rfl
    have q1 : W.drew.cell? ⟨Bx, 1, none⟩ = some (.int .u8 x.b) := oX.cell (i := 1) (v := .int .u8 x.b) rfl
    have q2 : W.drew.cell? ⟨Bx, 2, none⟩ = some (.int .u8 x.c) := oX.cell (i := 2) (v := .int .u8 x.c) rfl
    have q3 : W.drew.cell? ⟨Bx, 3, none⟩ = some (.int .u8 x.d) := oX.cell (i := 3) (v := .int .u8 x.d) rfl
    have hlq : pre.length < maxLen := by have := HQ.out; omega
    have p3 := oX.cell (i := 3) (v := .int .u8 x.d) rfl
    have hM4 : Hid (Calls Tryd.prog 68 #[.int .u8 x.a, .int .u8 x.b, .int .u8 x.c] W.drew (fun e w' => e = .returned (.int .i64 (famM x)) ∧ w' = W.drew)) := Lib.hid ((famof_any x.a x.b x.c W.drew (HF.out.below hb0) x.ha x.hb x.hc).mono (fun e w' h => ⟨h.1, h.2.symm⟩))
    have hwd : IntKind.i64.wrap x.d = x.d := IntWalk.i64_in _ (by have := x.hd; omega)
    have hdr := Lib.hid x.hd
    by_cases h1 : 1 ≤ x.d
    · by_cases h3 : x.d ≤ 3
      · have e1 : decide ((1 : Int) ≤ x.d) = true := decide_eq_true h1
        have e3 : decide (x.d ≤ 3) = true := decide_eq_true h3
        have hx := Lib.hid (And.intro h1 h3)
        gi_wp2
        refine round_still_tail 9 (by kernel_rfl) (by kernel_rfl) ?_ (by kernel_rfl) ?_; exact fun ⟨_, _, hq⟩ => hq
        simp only [List.take_succ_cons, List.take_zero, List.drop_succ_cons, List.drop_zero]
        repeat still_step
        still_call hM4.out
        repeat still_step
        refine wpStill_nil ?_
        refine wpList_mapUpdate_own _ rfl _ _ _ 104 rfl 3 3 int_keyC Tryd.underlying104 _ w.heap.size pre.length D rfl (map_restC hI.map (Rest.of_below (bl_drewN (bl_refl W) 1) (fun _ => False)) (fun h => h)) hlq _ _ (.int .i64 (famM x)) rfl rfl (keyOf_int_mk Tryd.underlying3 (famOf_wf _ _)) _ [] (plainElem_int (a := x.d) Tryd.underlying3 (by
          simp only [Lit.wf, Bool.and_eq_true, decide_eq_true_eq]
          have h1 : IntKind.i64.min = -9223372036854775808 := rfl
          have h2 : IntKind.i64.max = 9223372036854775807 := rfl
          have := hdr.out
          omega)) ?_
        intro w2 hm2 hg2
        refine wpList_nil ?_
        exact hI.put (by have := HSZ.out; omega) hm2 (hI.met.put hx.out) hg2
      · have e1 : decide ((1 : Int) ≤ x.d) = true := decide_eq_true h1
        have e3 : decide (x.d ≤ 3) = false := decide_eq_false h3
        have hmt := hI.met.same (x := x) (fun h => h3 h.2)
        gi_wp2
        exact ⟨KeepsFrom.refl _ _, kpC_refl _ _, _, hI.map.mono (by rw [List.length_append]; omega), hmt, hI.box, hI.bel⟩
    · have e1 : decide ((1 : Int) ≤ x.d) = false := decide_eq_false h1
      have hmt := hI.met.same (x := x) (fun h => h1 h.1)
      gi_wp2
      exact ⟨KeepsFrom.refl _ _, kpC_refl _ _, _, hI.map.mono (by rw [List.length_append]; omega), hmt, hI.box, hI.bel⟩
  case done =>
    rintro D0 zs W hD rfl ⟨D, hI⟩ hK
    have c0 := hI.box.cell
    gi_wp2_with (gi_at_delete; refine wpListIn_delete_own _ rfl _ _ 104 3 rfl 3 int_keyC Tryd.underlying104 _ w.heap.size _ D rfl hI.map _ _ rfl (keyOf_int_mk Tryd.underlying3 rfl) ?_; intro W2 hm2 ht2; have R2 := Rest.of_grown ht2.grown (P := fun i => i = w.heap.size) (fun j e => (Option.some.inj e).symm); have bx2 : Boxed W2 (w.heap.size + 1) 104 (.map (some w.heap.size)) := (R2.block _ hI.box.lt (by omega)).trans hI.box; have c2 := bx2.cell; have hlk := look_mod hm2 (hO.out _ hI.met) HW.out)
    have hK5 := (R2.block D0 (Array.getElem?_eq_some_iff.1 hK).1 (by have := HSZ.out; omega)).trans hK
    refine ⟨by simp, .inl ⟨_, _, rfl, run_takeDeferred hK5, ?_⟩⟩
    exact ⟨_, results_tmp rfl _ _ _, rfl, (hI.bel.trans (R2.to_below hI.bel.size (by omega))).trans (belowK_b (w := W0) hB0.size W2 D0 _ _ hD hK5 rfl rfl)⟩
  case stop =>
    rintro D0 c pre W _ _ h _
    exact h.elim
end Go.Proofs.YtniheakafkakhaaDoor
