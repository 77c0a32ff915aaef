/- FindingKeeps: the walk -/
import Derived.Test.YtmcmhljonkijjaaDoorLgC
namespace Go.Proofs.YtmcmhljonkijjaaDoor
open Go.RowKit Go.Sort

theorem Typed.frozen {w : World} {j : Nat} {t : TypeId} (h : Typed w j t) (i : Nat) : w.frozen? ⟨j, i, none⟩ = false := by
  obtain ⟨cs, h⟩ := h
  exact Own.frozen h i
theorem Typed.setCell {w : World} {j : Nat} {t : TypeId} (h : Typed w j t) (pb po : Nat) (u : Value) : Typed (w.setCell ⟨pb, po, none⟩ u) j t := by
  obtain ⟨cs, h⟩ := h
  by_cases e : j = pb
  · subst e
    exact ⟨cs.setIfInBounds po u, Own.set_ h po u⟩
  · exact ⟨cs, (Below.heap_setCell w ⟨pb, po, none⟩ u j e).trans h⟩
/-- Bytes of whatever value. -/
def ReadB (w : World) (lo hi : Nat) (A : Option Addr) (n : Nat) : Prop := n = 0 ∨ ∃ b o, A = some ⟨b, o, none⟩ ∧ (lo ≤ b ∧ b < hi ∧ Typed w b 5) ∧ ∀ i, i < n → ∃ z, w.cell? ⟨b, o + i, none⟩ = some (.int .u8 z) ∧ 0 ≤ z ∧ z ≤ 255
/-- A row of verdicts of whatever numbers, with bytes of whatever value. -/
def Wild (w : World) (lo hi b n : Nat) (sl : Nat → Option Addr × Nat × Nat) : Prop :=
  (lo ≤ b ∧ b < hi ∧ Typed w b 40) ∧ ∀ i, i < n → (∃ k, w.cell? ⟨b, i * 5, none⟩ = some (.int .i64 k)) ∧ (∃ t, w.cell? ⟨b, i * 5 + 4, none⟩ = some (.int .i64 t)) ∧ w.cell? ⟨b, i * 5 + 3, none⟩ = some (.slice (sl i).1 (sl i).2.1 (sl i).2.2) ∧ (sl i).2.1 ≤ 1000000 ∧ ReadB w lo hi (sl i).1 (sl i).2.1
def WildS (w : World) (lo hi : Nat) (A : Option Addr) (n : Nat) (sl : Nat → Option Addr × Nat × Nat) : Prop := n = 0 ∨ ∃ b, A = some ⟨b, 0, none⟩ ∧ Wild w lo hi b n sl
theorem cell_set_any {w : World} {a p : Addr} {v u : Value} (h : w.cell? a = some v) : (w.setCell p u).cell? a = some (if p = a then u else v) := by
  by_cases e : p = a
  · subst e
    rw [if_pos rfl]
    exact World.cell?_setCell_same _ _ _ h
  · rw [if_neg e]
    exact (World.cell?_setCell_other _ _ _ _ e).trans h
theorem ReadB.set_ {w : World} {lo hi n : Nat} {A : Option Addr} (h : ReadB w lo hi A n) {pb po : Nat} {u : Value} (hp : (∃ t, t ≠ 5 ∧ Typed w pb t) ∨ ∃ y, u = .int .u8 y ∧ 0 ≤ y ∧ y ≤ 255) : ReadB (w.setCell ⟨pb, po, none⟩ u) lo hi A n := by
  rcases h with h0 | ⟨b, o, hA, ⟨h1, h2, h3⟩, hc⟩
  · exact .inl h0
  · refine .inr ⟨b, o, hA, ⟨h1, h2, h3.setCell pb po u⟩, fun i hi => ?_⟩
    obtain ⟨z, hz, hz0, hz1⟩ := hc i hi
    have hs := cell_set_any (p := ⟨pb, po, none⟩) (u := u) hz
    by_cases e : (⟨pb, po, none⟩ : Addr) = ⟨b, o + i, none⟩
    · rw [if_pos e] at hs
      rcases hp with ⟨t, ht, hty⟩ | ⟨y, rfl, hy⟩
      · injection e with e _ _
        exact absurd e (hty.ne h3 ht)
      · exact ⟨y, hs, hy⟩
    · rw [if_neg e] at hs
      exact ⟨z, hs, hz0, hz1⟩
theorem Wild.setInt {w : World} {lo hi b n : Nat} {sl : Nat → Option Addr × Nat × Nat} (h : Wild w lo hi b n sl) {o : Nat} (ho : o % 5 = 0 ∨ o % 5 = 4) (t : Int) : Wild (w.setCell ⟨b, o, none⟩ (.int .i64 t)) lo hi b n sl := by
  obtain ⟨⟨h1, h2, h3⟩, hc⟩ := h
  refine ⟨⟨h1, h2, h3.setCell _ _ _⟩, fun i hi => ?_⟩
  obtain ⟨⟨k, hk⟩, ⟨q, hq⟩, hs, hn, hr⟩ := hc i hi
  refine ⟨?_, ?_, (World.cell?_setCell_other _ _ _ _ (by simp only [ne_eq, Addr.mk.injEq, true_and, and_true]; omega)).trans hs, hn, hr.set_ (.inl ⟨_, log_types.2.2, h3⟩)⟩
  · have := cell_set_any (p := ⟨b, o, none⟩) (u := .int .i64 t) hk
    split at this
    · exact ⟨_, this⟩
    · exact ⟨_, this⟩
  · have := cell_set_any (p := ⟨b, o, none⟩) (u := .int .i64 t) hq
    split at this
    · exact ⟨_, this⟩
    · exact ⟨_, this⟩
theorem Wild.setByte {w : World} {lo hi b n : Nat} {sl : Nat → Option Addr × Nat × Nat} (h : Wild w lo hi b n sl) {b' o : Nat} (ht : Typed w b' 5) {y : Int} (h0 : 0 ≤ y) (h9 : y ≤ 255) : Wild (w.setCell ⟨b', o, none⟩ (.int .u8 y)) lo hi b n sl := by
  obtain ⟨⟨h1, h2, h3⟩, hc⟩ := h
  have hne := h3.ne ht log_types.2.2
  have far : ∀ q, (w.setCell ⟨b', o, none⟩ (.int .u8 y)).cell? ⟨b, q, none⟩ = w.cell? ⟨b, q, none⟩ := fun q => World.cell?_setCell_other _ _ _ _ (by simp only [ne_eq, Addr.mk.injEq]; omega)
  refine ⟨⟨h1, h2, h3.setCell _ _ _⟩, fun i hi => ?_⟩
  obtain ⟨⟨k, hk⟩, ⟨q, hq⟩, hs, hn, hr⟩ := hc i hi
  exact ⟨⟨k, (far _).trans hk⟩, ⟨q, (far _).trans hq⟩, (far _).trans hs, hn, hr.set_ (.inr ⟨y, rfl, h0, h9⟩)⟩
theorem WildS.rest {w w' : World} {lo hi n : Nat} {A : Option Addr} {sl : Nat → Option Addr × Nat × Nat} {P : Nat → Prop} (h : WildS w lo hi A n sl) (k : Rest w w' P) (hp : ∀ j t, t ≠ 80 → Typed w j t → ¬ P j) : WildS w' lo hi A n sl := by
  rcases h with h0 | ⟨b, hA, ⟨h1, h2, h3⟩, hc⟩
  · exact .inl h0
  · have kp : ∀ b t, t ≠ 80 → Typed w b t → ∀ o, w'.cell? ⟨b, o, none⟩ = w.cell? ⟨b, o, none⟩ := fun b t ht hty o => World.cell?_of_block (a := ⟨b, o, none⟩) (k.block b hty.lt (hp b t ht hty))
    refine .inr ⟨b, hA, ⟨h1, h2, h3.rest k (hp _ _ (Ne.symm log_types.1) h3)⟩, fun i hi => ?_⟩
    obtain ⟨⟨q, hq⟩, ⟨t, ht⟩, hs, hn, hr⟩ := hc i hi
    have kb := kp b _ (Ne.symm log_types.1) h3
    refine ⟨⟨q, (kb _).trans hq⟩, ⟨t, (kb _).trans ht⟩, (kb _).trans hs, hn, ?_⟩
    rcases hr with h0 | ⟨b2, o2, hA2, ⟨g1, g2, g3⟩, hc2⟩
    · exact .inl h0
    · refine .inr ⟨b2, o2, hA2, ⟨g1, g2, g3.rest k (hp _ _ (Ne.symm log_types.2.1) g3)⟩, fun m hm => ?_⟩
      obtain ⟨z, hz⟩ := hc2 m hm
      exact ⟨z, (kp b2 _ (Ne.symm log_types.2.1) g3 _).trans hz.1, hz.2⟩
def slV (L : List Vd) (i : Nat) : Option Addr × Nat × Nat := ((nthV L i).A, (nthV L i).n, (nthV L i).cp)
theorem VRow.wild {w : World} {base n c : Nat} {A : Option Addr} {L : List Vd} (h : VRow w base (.slice A n c) L) (hn : L.length = n) : WildS w base w.heap.size A n (slV L) := by
  subst hn
  have h0 := h
  obtain ⟨hr, ha⟩ := h
  rcases hr.2 with ⟨_, h1⟩ | ⟨g, cap, cur, hv, hb, hg, _⟩
  · exact .inl h1
  · injection hv with hA _ _
    subst hA
    obtain ⟨_, _, hv2, hV⟩ := h0.vds
    injection hv2 with hA2 _ _
    subst hA2
    refine .inr ⟨g, rfl, ⟨hb, (Array.getElem?_eq_some_iff.1 hg).1, cur, hg⟩, fun i hi => ?_⟩
    obtain ⟨b, o, hA, _, hok, hrg⟩ := hV.at_ hi
    injection hA with hA
    injection hA with hA1 hA2 _
    subst hA1 hA2
    rw [Nat.zero_add] at hrg
    obtain ⟨d0, _, _, d3, d4⟩ := range5 hrg
    obtain ⟨_, hxn, hxd⟩ := ha _ (nthV_mem hi)
    refine ⟨⟨_, d0⟩, ⟨_, d4⟩, d3, hxn, ?_⟩
    rcases Nat.eq_zero_or_pos (nthV L i).n with hz | hz
    · exact .inl hz
    · obtain ⟨b, o, hA, hbl, _⟩ := hok.1.at_ hz
      have hd := hxd _ hA
      refine .inr ⟨b, o, hA, ⟨hd.1, hbl, hd.2⟩, fun m hm => ?_⟩
      obtain ⟨b', o', hA', _, hcell, hz0, hz1⟩ := hok.1.at_ hm
      have e : b' = b ∧ o' = o := by
        have := hA'.symm.trans hA
        injection this with this
        injection this with h1 h2 _
        exact ⟨h1, h2⟩
      rw [e.1, e.2] at hcell
      exact ⟨_, hcell, hz0, hz1⟩
theorem errV_sg (vs : List Vd) : (errV vs).map sgV = (vs.map sgV).filter fun s => decide (s.1 ≠ 0) := by
  unfold errV
  induction vs with
  | nil => rfl
  | cons x r ih =>
    rw [List.filter_cons, List.map_cons, List.filter_cons]
    by_cases hk : x.k = 0
    · simp [errK, sgV, hk]
      simpa using ih
    · simp [errK, sgV, hk]
      simpa using ih
theorem VRow.rest {w w' : World} {base : Nat} {v : Value} {L : List Vd} {P : Nat → Prop} (h : VRow w base v L) (k : Rest w w' P) (hp : ∀ j t, t ≠ 80 → Typed w j t → ¬ P j) : VRow w' base v L :=
  ⟨row_rest h.1 k (fun j hj => hp j _ (Ne.symm log_types.1) (row_typed h.1 hj).1), fun x hx => by
    obtain ⟨h1, h2, h3⟩ := h.2 x hx
    exact ⟨⟨(h1.1.rest k (Nat.le_refl _) (fun a ha => hp _ _ (Ne.symm log_types.2.1) (h3 a ha).2)).more k.size, h1.2⟩, h2, fun a ha => ⟨(h3 a ha).1, (h3 a ha).2.rest k (hp _ _ (Ne.symm log_types.2.1) (h3 a ha).2)⟩⟩⟩
set_option maxRecDepth 100000 in
theorem fld_k (W : World) : (Instr.field 40 (.agg (vdc vd0)) 0).run Tryd.prog W = .ok (.int .i64 0) W := by kernel_rfl
theorem and_five {W : World} {g : Nat} {T : TypeId} {a b c d e : Value} (o : Own W g T #[a, b, c, d, e]) : W.cell? ⟨g, 0, none⟩ = some a ∧ W.cell? ⟨g, 1, none⟩ = some b ∧ W.cell? ⟨g, 2, none⟩ = some c ∧ W.cell? ⟨g, 3, none⟩ = some d ∧ W.cell? ⟨g, 4, none⟩ = some e := vd_row o
set_option maxRecDepth 100000 in
set_option maxHeartbeats 12800000 in
theorem fkeeps_main (A : Option Addr) (n c : Nat) (vs : List Vd) (w : World) (ht : Tens w) (hx : Vds w w.heap.size A n vs) (hn : n ≤ 50) (hsz : ∀ x ∈ vs, x.n ≤ 200)
    (hP : Hid (∀ W, Below w.heap.size w W → Calls Tryd.prog 17 #[.slice A n c] W fun e w' => e = .returned (.bool true) ∧ Below W.heap.size W w')) :
    Calls Tryd.prog 5 #[.slice A n c] w fun e w' => e = .returned (.bool true) ∧ Below w.heap.size w w' := by
  have HN := Lib.hid hx.1
  have HX := Lib.hid hx
  have HZ := Lib.hid hsz
  have HT := Lib.hid ht
  clear hx hsz ht
  go_enter Tryd.func5, Tryd.ntmps5
  go_wp2_with fail
  refine (log_new _).mono ?_
  rintro e w1 ⟨rfl, hl1, hz1, hb1⟩
  go_wp2_with fail
  refine (hP.out _ hb1).mono ?_
  rintro e w2 ⟨rfl, hb2⟩
  have hl2 := hl1.below hb2
  have hb3 := bl_trans hb1 hb2
  have hz2 : w.heap.size + 1 ≤ w2.heap.size := by have := hb2.size; omega
  clear hl1 hz1 hb1 hb2
  go_wp2_with fail
  go_loopw [4, 28] (fun v i wr => ∃ (j : Nat) (L : List Vd), j ≤ n ∧ i = .int .i64 j ∧ Hid (L.map sgV = (vs.take j).map sgV ∧ L.length = j ∧ ∀ x ∈ L, x.n ≤ 200) ∧ VRow wr (w.heap.size + 1) v L ∧ LogIs wr (w.heap.size + 1) w.heap.size (.slice none 0 0) [] ∧ w.heap.size + 1 ≤ wr.heap.size ∧ Below w.heap.size w wr) (fun _ i _ => n - (intOf i).toNat)
  case atStart => exact ⟨0, [], Nat.zero_le _, rfl, Lib.hid ⟨rfl, rfl, (fun _ h => by cases h)⟩, ⟨World.ownsRow_nil _ _ _ _, fun _ h => by cases h⟩, hl2, hz2, hb3⟩
  case round =>
    obtain ⟨j, L, hj, rfl, hLj, hvr, hlog, hzr, hb⟩ := hrel
    clear hl2 hz2 hb3
    by_cases hlt : j < n
    · obtain ⟨b, o, rfl, hbB, hok, hrg⟩ := (HX.out.below hb).at_ hlt
      have hjl := Lib.hid (show j < vs.length by have := HN.out; omega)
      have hxn := HZ.out _ (nthV_mem hjl.out)
      have HTk := Lib.hid (take_nthV hjl.out)
      generalize nthV vs j = x at *
      obtain ⟨kk, kc, ks, kA, kn, kp, kx, kt⟩ := x
      obtain ⟨d0, d1, d2, d3, d4⟩ := range5 hrg
      dsimp only at hxn d0 d1 d2 d3 d4
      have hbs := hb.size
      have hbw : b < wr.heap.size := by omega
      have hxb := Lib.hid hok.1
      dsimp only at hxb
      have htm := hok.2.2
      dsimp only at htm
      have oB := Own.new wr 40 #[.int .i64 kk, .int .i64 kc, .int .i64 ks, .slice kA kn kp, .int .i64 kt]
      have bX := bl_alloc (bl_refl wr) (.cells #[.int .i64 kk, .int .i64 kc, .int .i64 ks, .slice kA kn kp, .int .i64 kt] 40)
      clear hok hrg
      have HVR := Lib.hid hvr
      have HLG := Lib.hid hlog
      have hll := Lib.hid (show L.length ≤ 50 by have := hLj.out.2.1; omega)
      clear hvr hlog
      go_wp2_with fail
      have HS0 := and_five oB.drew
      generalize (wr.alloc (.cells #[.int .i64 kk, .int .i64 kc, .int .i64 ks, .slice kA kn kp, .int .i64 kt] 40)) = X at *
      have bE := (bl_alloc bX (.cells #[] 5)).drew
      have oE := (oB.alloc (.cells #[] 5)).drew
      have oN := (Own.new X 5 (([] : List Value).toArray)).drew
      have hrN : (X.alloc (.cells #[] 5)).drew.ownsRow X.heap.size 5 1 (.slice (some ⟨X.heap.size, 0, none⟩) 0 0) 0 ([] : List Value) := Own.row oN rfl (Nat.le_refl _) (by unfold maxLen; omega)
      have HS1 := and_five oE
      have hxE := (hxb.out.below (bE.mono hbs)).2.2
      have hxl := Lib.hid hxb.out.1
      have hXs := bX.size
      have hEs := bE.size
      have HB := Lib.hid hb
      have HRN := Lib.hid hrN
      clear hrN oN hb
      go_region_held3 (fun W => W.cell? ⟨wr.heap.size, 0, none⟩ = some (.int .i64 kk) ∧ W.cell? ⟨wr.heap.size, 1, none⟩ = some (.int .i64 kc) ∧ W.cell? ⟨wr.heap.size, 2, none⟩ = some (.int .i64 ks) ∧ W.cell? ⟨wr.heap.size, 3, none⟩ = some (.slice kA kn kp) ∧ W.cell? ⟨wr.heap.size, 4, none⟩ = some (.int .i64 kt)) (with_reducible first | exact HS0 | exact HS1 | exact HS2 | exact HS3 | exact HS4) ((first
        | (refine step_append_at _ rfl _ _ rfl sl_bytes X.heap.size _ 0 [] rfl HRN.out w.heap.size kA kn kp (kx.map (Value.int .u8)) rfl (by rw [List.length_map, ← hxl.out, Nat.mul_one]) hxE ints1 (by unfold maxLen; omega) (by omega) (by simp) ?_; intro v1 w4 hr4 hg4 ho4; rw [Nat.zero_add] at hr4; obtain ⟨A1, c1, rfl⟩ := own_form hr4; have hblk : ∀ k, (Value.slice (some ⟨X.heap.size, 0, none⟩) 0 0).ownBlock = some k → k = X.heap.size := (fun k hk => (Option.some.inj hk).symm); have b4 : Below wr.heap.size wr w4 := bE.grown hg4 bE.size (fun k hk => by rw [hblk k hk]; exact hXs); have o4 := oE.grown hg4 (fun e => by have := hblk _ e.symm; have h2 := oB.lt; omega); have HS2 := and_five o4; have b5 := bl_alloc b4 (.cells #[.int .i64 kk, .int .i64 kc, .int .i64 ks, .slice A1 kn c1, .int .i64 kt] 40); have o5 := o4.alloc (.cells #[.int .i64 kk, .int .i64 kc, .int .i64 ks, .slice A1 kn c1, .int .i64 kt] 40); have HS3 := and_five o5; have oS := Own.new w4 40 #[.int .i64 kk, .int .i64 kc, .int .i64 ks, .slice A1 kn c1, .int .i64 kt]; have HR4 := Lib.hid hr4; clear hr4 ho4 hblk)
        | (refine step_append_at _ rfl _ _ rfl sl_vds (w.heap.size + 1) _ L.length (flatV L) rfl (HVR.out.below b5).1 (w4.heap.size + 1) (some ⟨w4.heap.size, 0, none⟩) 1 1 [.int .i64 kk, .int .i64 kc, .int .i64 ks, .slice A1 kn c1, .int .i64 kt] rfl rfl (Shows.of_owned (xs := [.int .i64 kk, .int .i64 kc, .int .i64 ks, .slice A1 kn c1, .int .i64 kt]) oS (Nat.lt_succ_self _)) (one5 _ _ _ _ _ (vdc_one _ _ _ _ _ _ _)) (by have := hll.out; unfold maxLen; omega) (by have := hll.out; omega) (by have := b5.size; omega) ?_; intro v2 w6 hr6 hg6 ho6; have o6 := o5.grown hg6 (fun e => by have h1 := ((HVR.out.1).lt _ e.symm).2; omega); have HS4 := and_five o6)))
      have hal := bl_alloc (bl_refl w4) (.cells #[.int .i64 kk, .int .i64 kc, .int .i64 ks, .slice A1 kn c1, .int .i64 kt] 40)
      obtain ⟨A1', c1', hv1, hB1, hD1⟩ := ints_of_own (xs := kx) (by have := HR4.out; simpa using this) hxb.out.2.1
      injection hv1 with e1 _ e2
      subst e1 e2
      have hd1 : DB w4 (w.heap.size + 1) A1 := fun a ha => by
        subst ha
        have h1 := hD1 a rfl
        refine ⟨by omega, ?_⟩
        have h2 := HR4.out
        rcases h2.2 with ⟨h3, _⟩ | ⟨g', cap, cur, h3, _, hgc, _⟩
        · cases h3
        · cases h3
          exact ⟨cur, hgc⟩
      have hvp := VRow.push (HVR.out.below b5) (x := ⟨kk, kc, ks, A1, kn, c1, kx, kt⟩) ⟨(hB1.below hal).more hal.size, ⟨(show kn ≤ maxLen by unfold maxLen; omega), htm⟩⟩ (show kn ≤ 1000000 by omega) (hd1.below hal) hr6 hg6
      have hlg := (HLG.out.below b5).rest (Rest.of_grown hg6 (P := fun i => u4.ownBlock = some i) (fun j hj => hj)) (fun e => by
        obtain ⟨_, _, og, _⟩ := HLG.out.below b5
        exact og.typed.ne (row_typed (HVR.out.below b5).1 e).1 log_types.1 rfl) (fun j hj => by cases hj) (fun j _ hj e => hj.ne (row_typed (HVR.out.below b5).1 e).1 (Ne.symm log_types.2.2) rfl)
      have hb6 : Below w.heap.size w w6 := (bl_trans HB.out b5).grown hg6 (bl_trans HB.out b5).size (fun k hk => by have := ((HVR.out.below b5).1.lt k hk).1; omega)
      have hz6 : w.heap.size + 1 ≤ w6.heap.size := by have h1 := b5.size; have h2 := hg6.size; omega
      have HF := Lib.hid (show (L ++ [(⟨kk, kc, ks, A1, kn, c1, kx, kt⟩ : Vd)]).map sgV = (vs.take (j + 1)).map sgV ∧ (L ++ [(⟨kk, kc, ks, A1, kn, c1, kx, kt⟩ : Vd)]).length = j + 1 ∧ ∀ x ∈ L ++ [(⟨kk, kc, ks, A1, kn, c1, kx, kt⟩ : Vd)], x.n ≤ 200 from ⟨by rw [HTk.out, List.map_append, List.map_append, hLj.out.1]; rfl, by rw [List.length_append, hLj.out.2.1]; rfl, fun x hx => by
        rcases List.mem_append.1 hx with hx | hx
        · exact hLj.out.2.2 x hx
        · rw [List.mem_singleton] at hx
          subst hx
          exact hxn⟩)
      clear HS0 HS1 HS2 HS3 HS4 o4 o5 o6 oE oS hr6 hg6 ho6 HR4 hB1 hD1 hd1 hXs hEs bE b4 b5 hal hxE HRN
      go_wp2
      go_roundw
      case rel => exact ⟨j + 1, _, by omega, by go_num, HF, hvp, hlg, hz6, hb6⟩
      case measure => simp [intOf]; omega
    · obtain rfl : n = j := by omega
      have hm0 := hLj.out.1
      rw [List.take_of_length_le (by rw [← HN.out]; exact Nat.le_refl _)] at hm0
      have hll := hLj.out.2.1
      obtain ⟨A0, c0, rfl⟩ := own_form hvr.1
      rw [hll] at hvr
      have hwild := hvr.wild hll
      have HVR := Lib.hid hvr
      have hE := Lib.hid (show (errV L).map sgV = (errV vs).map sgV by rw [errV_sg, errV_sg, hm0])
      have HL20 := Lib.hid hLj.out.2.2
      have hog := hlog
      obtain ⟨L0, hL0, og, _, _⟩ := hlog
      have hlg0 : LogIs wr wr.heap.size w.heap.size (.slice none 0 0) [] := ⟨[], rfl, og, World.ownsRow_nil _ _ _ _, fun _ h => by cases h⟩
      have hAdd := Lib.hid (add_anyL w.heap.size wr.heap.size (.slice none 0 0) [] A0 n c0 L wr hlg0 (Nat.le_refl _) (fun W hR => by
        have h1 := HVR.out.rest hR (fun k t ht hty h => by
          rcases h with h | h
          · exact hty.ne og.typed ht h
          · cases h)
        obtain ⟨A2, c2, hv2, hV2⟩ := h1.vds
        rw [hll] at hv2 hV2
        injection hv2 with e1 _ e2
        subst e1
        have h3 : Vds wr wr.heap.size A0 n L := by
          obtain ⟨A3, c3, hv3, hV3⟩ := HVR.out.vds
          rw [hll] at hv3 hV3
          injection hv3 with e1 _ _
          subst e1
          exact hV3
        exact ⟨hV2.1, fun x hx => ⟨⟨(hV2.2.1 x hx).1.1, (hV2.2.1 x hx).1.2.1, by
          rcases (hV2.2.1 x hx).1.2.2 with q | ⟨b, o, q1, q2, q3⟩
          · exact .inl q
          · refine .inr ⟨b, o, q1, ?_, q3⟩
            exact ((HVR.out.2 x hx).2.2 _ q1).2.lt⟩, (hV2.2.1 x hx).2⟩, by
          rcases hV2.2.2 with q | ⟨b, o, q1, q2, q3⟩
          · exact .inl q
          · refine .inr ⟨b, o, q1, ?_, q3⟩
            rcases h3.2.2 with q | ⟨b', o', q1', q2', _⟩
            · subst q
              have : n = 0 := hll.symm
              subst this
              rcases HVR.out.1.2 with ⟨hv, _⟩ | ⟨gg, cap, cur, hv, _, hgc, _⟩
              · injection hv with e _ _; rw [e] at q1; cases q1
              · injection hv with e _ _; rw [e] at q1; cases q1; exact (Array.getElem?_eq_some_iff.1 hgc).1
            · rw [q1'] at q1; cases q1; exact q2'⟩) (by omega) (by simp; omega) (fun x hx => by have := HL20.out x hx; omega))
      have hHB := Lib.hid hb
      have hty0 := Lib.hid og.typed
      clear hvr og hlg0 hog hLj hm0 hb
      generalize slV L = slA at *
      generalize hlo : w.heap.size + 1 = lo at *
      go_wp2_with fail
      refine hAdd.out.mono ?_
      rintro e w3 ⟨rfl, vl, hlog3, hob3, hR3⟩
      rw [List.nil_append, hE.out] at hlog3
      have hR3' := Lib.hid hR3
      have hbw3 : Below w.heap.size w w3 := hHB.out.trans (hR3.to_below hHB.out.size (fun i hi h => by
        rcases h with h | h
        · omega
        · cases h))
      have hhi : lo ≤ wr.heap.size := hzr
      have hWA : WildS w3 lo wr.heap.size A0 n slA := hwild.rest hR3 (fun q t ht hty h => by
        rcases h with h | h
        · exact hty.ne hty0.out ht h
        · cases h)
      generalize hhe : wr.heap.size = hi at *
      clear hwild hR3 hob3 hAdd
      have hlog3' := Lib.hid hlog3
      have hbw3' := Lib.hid hbw3
      clear hlog3 hbw3
      go_wp2_with fail
      go_loopw [54] (fun i wr => (∃ j : Nat, j ≤ n ∧ i = .int .i64 j) ∧ WildS wr lo hi A0 n slA ∧ Rest w3 wr (fun i => lo ≤ i ∧ i < hi)) (fun i _ => n - (intOf i).toNat)
      case atStart => exact ⟨⟨0, Nat.zero_le _, rfl⟩, hWA, Rest.refl _ _⟩
      case round =>
        obtain ⟨⟨j, hj, rfl⟩, hWr, hRr⟩ := hrel
        clear hWA
        by_cases hlt : j < n
        · rcases hWr with h0 | ⟨b, rfl, hWr⟩
          · exact absurd hlt (by omega)
          have hbr := hWr.1
          obtain ⟨⟨k0, hk0⟩, ⟨t0, ht0⟩, hs0, hsn, hrd⟩ := hWr.2 j hlt
          have hzb : b < wr.heap.size := hbr.2.2.lt
          have hfz : ∀ q, wr.frozen? ⟨b, q, none⟩ = false := hbr.2.2.frozen
          have hset := Lib.hid (fun t => hWr.setInt (o := j * 5 + 4) (by omega) t)
          have hrs := Lib.hid (fun u => hRr.trans (Rest.setCell wr ⟨b, j * 5 + 4, none⟩ u) (P := fun i => lo ≤ i ∧ i < hi) (fun i _ e => by have e2 : i = b := e; subst e2; exact ⟨hbr.1, hbr.2.1⟩))
          have hs1 : ∀ u, (wr.setCell ⟨b, j * 5 + 4, none⟩ u).cell? ⟨b, j * 5 + 3, none⟩ = some (.slice (slA j).1 (slA j).2.1 (slA j).2.2) := fun u => (World.cell?_setCell_other _ _ _ _ (by simp)).trans hs0
          have hdn := hsn
          generalize hsd : slA j = sd at *
          obtain ⟨dA, dn, dc⟩ := sd
          dsimp only at *
          clear hWr hRr hrd hs0
          go_wp2_with fail
          go_loopw [71] (fun i wi => (∃ m : Nat, m ≤ dn ∧ i = .int .i64 m) ∧ Wild wi lo hi b n slA ∧ Rest w3 wi (fun i => lo ≤ i ∧ i < hi)) (fun i _ => dn - (intOf i).toNat)
          case atStart => exact ⟨⟨0, Nat.zero_le _, rfl⟩, hset.out _, hrs.out _⟩
          case round =>
            obtain ⟨⟨m, hm, rfl⟩, hWi, hRi⟩ := hrel
            clear hs1 hfz hk0 ht0
            by_cases hlm : m < dn
            · obtain ⟨_, _, hs2, _, hrd2⟩ := hWi.2 j hlt
              rw [hsd] at hs2 hrd2
              dsimp only at hs2 hrd2
              rcases hrd2 with h0 | ⟨b2, o2, hA2, ⟨hlo2, hhi2, hty2⟩, hc2⟩
              · exact absurd hlm (by omega)
              subst hA2
              obtain ⟨z, hz, hz0, hz1⟩ := hc2 m hlm
              have hfz2 := hty2.frozen (o2 + m)
              have hlt2 := hty2.lt
              have hzb2 := hWi.1.2.2.lt
              have hset2 := Lib.hid (fun y h0 h1 => hWi.setByte (b' := b2) (o := o2 + m) hty2 (y := y) h0 h1)
              have hrs2 := Lib.hid (fun u => hRi.trans (Rest.setCell wr ⟨b2, o2 + m, none⟩ u) (P := fun i => lo ≤ i ∧ i < hi) (fun i _ e => by have e2 : i = b2 := e; subst e2; exact ⟨hlo2, hhi2⟩))
              have hmi : (m : Int) < (dn : Int) := by omega
              clear hWi hRi hc2
              go_wp2
              have hW3 := hset2.out ((z + 1) % 256) (by omega) (by omega)
              have hR3 := hrs2.out (.int .u8 ((z + 1) % 256))
              go_roundw
              case rel => exact ⟨⟨m + 1, by omega, by go_num⟩, hW3, hR3⟩
              case measure => simp [intOf]; omega
            · go_wp2
              go_roundw
              case rel => exact ⟨⟨j + 1, by omega, by go_num⟩, .inr ⟨b, rfl, hWi⟩, hRi⟩
              case measure => simp [intOf]; omega
        · obtain rfl : n = j := by omega
          have hlog4 : LogIs wr hi w.heap.size vl ((errV vs).map sgV) := hlog3'.out.rest hRr (fun h => by omega) (fun q hq h => by
            obtain ⟨L2, _, _, hr2, _⟩ := hlog3'.out
            have := (hr2.lt q hq).1
            omega) (fun q hq _ h => by omega)
          have hbw4 : Below w.heap.size w wr := hbw3'.out.trans (hRr.to_below hbw3'.out.size (fun i hi h => by omega))
          clear hWr hRr
          have hlenS : ((errV vs).map sgV).length ≤ 100000 := by rw [List.length_map]; have := errV_lenle vs; have := HN.out; omega
          have hAl := Lib.hid (all_anyL w.heap.size hi vl ((errV vs).map sgV) wr hlog4 hlenS)
          have hlog4' := Lib.hid hlog4
          have hbw4' := Lib.hid hbw4
          clear hlog4 hbw4
          go_wp2_with fail
          refine hAl.out.mono ?_
          rintro e w5 ⟨vg, Lg, rfl, hmg, hvg, hb5⟩
          obtain ⟨Ag, cg, rfl⟩ := own_form hvg.1
          have hWB := hvg.wild rfl
          have HLast : Hid (∀ W, Rest w5 W (fun i => wr.heap.size ≤ i ∧ i < w5.heap.size) → LogIs W hi w.heap.size vl ((errV vs).map sgV) ∧ Below w.heap.size w W) := Lib.hid (fun W h => by
            have h1 : Below wr.heap.size wr W := hb5.trans (h.to_below hb5.size (fun i hi h => by omega))
            exact ⟨hlog4'.out.below h1, bl_trans hbw4'.out h1⟩)
          have hLS := Lib.hid hlenS
          clear hlenS
          have hng : Lg.length ≤ 1000 := by have := congrArg List.length hmg; rw [List.length_map, List.length_map] at this; have := errV_lenle vs; have := HN.out; omega
          have hb5' := Lib.hid hb5
          clear hmg hvg hAl hb5
          generalize slV Lg = slB at *
          generalize Lg.length = ng at *
          generalize hl5 : wr.heap.size = lo5 at *
          have hlw : lo5 ≤ w5.heap.size := by have := hb5'.out.size; omega
          generalize hh5 : w5.heap.size = hi5 at *
          go_wp2_with fail
          go_loopw [90] (fun i wr => (∃ j : Nat, j ≤ ng ∧ i = .int .i64 j) ∧ WildS wr lo5 hi5 Ag ng slB ∧ Rest w5 wr (fun i => lo5 ≤ i ∧ i < hi5)) (fun i _ => ng - (intOf i).toNat)
          case atStart => exact ⟨⟨0, Nat.zero_le _, rfl⟩, hWB, Rest.refl _ _⟩
          case round =>
            obtain ⟨⟨j, hj, rfl⟩, hWr, hRr⟩ := hrel
            clear hWB
            by_cases hlt : j < ng
            · rcases hWr with h0 | ⟨b, rfl, hWr⟩
              · exact absurd hlt (by omega)
              have hbr := hWr.1
              obtain ⟨⟨k0, hk0⟩, ⟨t0, ht0⟩, hs0, hsn, hrd⟩ := hWr.2 j hlt
              have hzb : b < wr.heap.size := hbr.2.2.lt
              have hfz : ∀ q, wr.frozen? ⟨b, q, none⟩ = false := hbr.2.2.frozen
              have hset := Lib.hid (fun t => hWr.setInt (o := j * 5) (by omega) t)
              have hrs := Lib.hid (fun u => hRr.trans (Rest.setCell wr ⟨b, j * 5, none⟩ u) (P := fun i => lo5 ≤ i ∧ i < hi5) (fun i _ e => by have e2 : i = b := e; subst e2; exact ⟨hbr.1, hbr.2.1⟩))
              have hs1 : ∀ u, (wr.setCell ⟨b, j * 5, none⟩ u).cell? ⟨b, j * 5 + 3, none⟩ = some (.slice (slB j).1 (slB j).2.1 (slB j).2.2) := fun u => (World.cell?_setCell_other _ _ _ _ (by simp)).trans hs0
              have hdn := hsn
              generalize hsd : slB j = sd at *
              obtain ⟨dA, dn, dc⟩ := sd
              dsimp only at *
              clear hWr hRr hrd hs0
              go_wp2_with fail
              go_loopw [107] (fun i wi => (∃ m : Nat, m ≤ dn ∧ i = .int .i64 m) ∧ Wild wi lo5 hi5 b ng slB ∧ Rest w5 wi (fun i => lo5 ≤ i ∧ i < hi5)) (fun i _ => dn - (intOf i).toNat)
              case atStart => exact ⟨⟨0, Nat.zero_le _, rfl⟩, hset.out _, hrs.out _⟩
              case round =>
                obtain ⟨⟨m, hm, rfl⟩, hWi, hRi⟩ := hrel
                clear hs1 hfz hk0 ht0
                by_cases hlm : m < dn
                · obtain ⟨_, _, hs2, _, hrd2⟩ := hWi.2 j hlt
                  rw [hsd] at hs2 hrd2
                  dsimp only at hs2 hrd2
                  rcases hrd2 with h0 | ⟨b2, o2, hA2, ⟨hlo2, hhi2, hty2⟩, hc2⟩
                  · exact absurd hlm (by omega)
                  subst hA2
                  obtain ⟨z, hz, hz0, hz1⟩ := hc2 m hlm
                  have hfz2 := hty2.frozen (o2 + m)
                  have hlt2 := hty2.lt
                  have hzb2 := hWi.1.2.2.lt
                  have hset2 := Lib.hid (fun y h0 h1 => hWi.setByte (b' := b2) (o := o2 + m) hty2 (y := y) h0 h1)
                  have hrs2 := Lib.hid (fun u => hRi.trans (Rest.setCell wr ⟨b2, o2 + m, none⟩ u) (P := fun i => lo5 ≤ i ∧ i < hi5) (fun i _ e => by have e2 : i = b2 := e; subst e2; exact ⟨hlo2, hhi2⟩))
                  have hmi : (m : Int) < (dn : Int) := by omega
                  clear hWi hRi hc2
                  go_wp2
                  have hW3 := hset2.out ((z + 1) % 256) (by omega) (by omega)
                  have hR3 := hrs2.out (.int .u8 ((z + 1) % 256))
                  go_roundw
                  case rel => exact ⟨⟨m + 1, by omega, by go_num⟩, hW3, hR3⟩
                  case measure => simp [intOf]; omega
                · go_wp2
                  go_roundw
                  case rel => exact ⟨⟨j + 1, by omega, by go_num⟩, .inr ⟨b, rfl, hWi⟩, hRi⟩
                  case measure => simp [intOf]; omega
            · obtain rfl : ng = j := by omega
              obtain ⟨hlogF, hbF⟩ := HLast.out _ hRr
              have hAl2 := Lib.hid (fun W (h : Below wr.heap.size wr W) => all_anyL w.heap.size hi vl ((errV vs).map sgV) W (hlogF.below h) hLS.out)
              have hEr := Lib.hid (fun W (h : Below w.heap.size w W) => rerrs_any A n c vs W ((HX.out.below h).more h.size) (by omega))
              have hEok := Lib.hid (fun W (h : Below w.heap.size w W) => show ∀ x ∈ errV vs, x.Ok W W.heap.size from fun x hx => ((HX.out.2.1 x (errV_sub hx)).below h).more h.size)
              have hEl : (errV vs).length ≤ 50 := by have := errV_lenle vs; have := HN.out; omega
              have hfk := fld_k
              clear hWr hRr hlogF HLast hlog4' hbw4' hb5' hlog3' hbw3' HVR hE HL20 hHB hty0 hR3'
              generalize errV vs = E at *
              go_wp2_with fail
              refine (alive11_any _ (HT.out.below hbF)).mono ?_
              rintro e w7 ⟨rfl, hb7⟩
              go_wp2_with fail
              refine (hAl2.out _ hb7).mono ?_
              rintro e w8 ⟨v8, L8, rfl, hm8, hv8, hb8⟩
              obtain ⟨A8, c8, rfl, hV8⟩ := hv8.vds
              have hbG := bl_trans (bl_trans hbF hb7) hb8
              have hl8 : L8.length ≤ 1000 := by have := congrArg List.length hm8; rw [List.length_map, List.length_map] at this; omega
              have hd8 := decide_eq_true hm8
              have HD := Lib.hid hd8
              have HV8 := Lib.hid hV8
              clear hm8 hv8 hV8 hd8 hb7 hb8 hbF
              generalize hq8 : L8.length = l8 at *
              clear hq8
              go_wp2_with fail
              refine (hEr.out _ hbG).mono ?_
              rintro e w9 ⟨v9, rfl, hr9, hb9⟩
              have hbH := bl_trans hbG hb9
              obtain ⟨A9, c9, rfl, hV9⟩ := own_vds hr9 (hEok.out _ hbH)
              have hEq := Lib.hid (requal_any A8 A9 l8 c8 E.length c9 L8 E w9 ((HV8.out.below hb9).more hb9.size) hV9 (by omega) (by omega))
              rw [HD.out] at hEq
              clear hr9 hV9 hb9 hbG
              generalize E.length = le at *
              go_wp2_with fail
              refine hEq.out.mono ?_
              rintro e w10 ⟨rfl, hb10⟩
              have hbI := bl_trans hbH hb10
              clear hEq hbH hb10
              go_wp2_with fail
              refine (add_nilL _ _ _ _).mono ?_
              rintro e w' ⟨rfl, rfl⟩
              go_wp2_with fail
              refine (all_nilL _).mono ?_
              rintro e w' ⟨rfl, rfl⟩
              go_wp2_with fail
              refine (count_nilL _ _).mono ?_
              rintro e w' ⟨rfl, rfl⟩
              go_wp2_with fail
              refine (worst_nilL _).mono ?_
              rintro e w11 ⟨rfl, hb11⟩
              go_wp2
              go_ret
              exact ⟨rfl, bl_trans hbI hb11⟩
set_option maxRecDepth 100000 in
theorem fkeeps_all (A : Option Addr) (n c : Nat) (vs : List Vd) (w : World) (ht : Tens w) (hx : Vds w w.heap.size A n vs) (hm : n ≤ maxLen) :
    Calls Tryd.prog 5 #[.slice A n c] w fun e w' => e = .returned (.bool true) ∧ Below w.heap.size w w' := by
  have hP := Lib.hid (fun (W : World) (h : Below w.heap.size w W) => few11_any A n c vs W ((hx.below h).more h.size) hm)
  cases hp : fewV vs with
  | true =>
    rw [hp] at hP
    unfold fewV smallV at hp
    simp only [Bool.and_eq_true, List.all_eq_true, decide_eq_true_eq] at hp
    exact fkeeps_main A n c vs w ht hx (by rw [hx.1]; exact hp.2) hp.1 hP
  | false =>
    rw [hp] at hP
    clear hx hp
    go_enter Tryd.func5, Tryd.ntmps5
    go_wp2_with fail
    refine (log_new _).mono ?_
    rintro e w1 ⟨rfl, hl1, hz1, hb1⟩
    clear hl1 hz1
    go_wp2_with fail
    refine (hP.out _ hb1).mono ?_
    rintro e w2 ⟨rfl, hb2⟩
    go_wp2_with fail
    refine (alive11_any _ (ht.below (bl_trans hb1 hb2))).mono ?_
    rintro e w3 ⟨rfl, hb3⟩
    go_wp2
    go_ret
    exact ⟨rfl, bl_trans (bl_trans hb1 hb2) hb3⟩
end Go.Proofs.YtmcmhljonkijjaaDoor
