/- finding.Log: copied, All, Add, Worst, Count; the reference's Errors, Equal -/
import Derived.Test.YtmcmhljonkijjaaDoorLgA
import Derived.Test.YtmcmhljonkijjaaDoorFoF
namespace Go.Proofs.YtmcmhljonkijjaaDoor
open Go.RowKit Go.Sort

/-- A row of verdicts of the call's own, with data of the call's own. -/
def VRow (w : World) (base : Nat) (v : Value) (L : List Vd) : Prop := w.ownsRow base 40 5 v L.length (flatV L) ∧ ∀ x ∈ L, x.Ok w w.heap.size ∧ x.n ≤ 1000000 ∧ DB w base x.A
theorem VRow.push {Y w3 : World} {base : Nat} {v v1 : Value} {L : List Vd} {x : Vd} (h : VRow Y base v L) (hx : x.Ok Y Y.heap.size) (hxn : x.n ≤ 1000000) (hxd : DB Y base x.A)
    (hrow : w3.ownsRow base 40 5 v1 (L.length + 1) (flatV L ++ (vdc x).toList)) (hgr : Y.grownBy w3 v.ownBlock) : VRow w3 base v1 (L ++ [x]) := by
  have hR : Rest Y w3 (fun i => v.ownBlock = some i) := Rest.of_grown hgr (fun j hj => hj)
  have hd : ∀ j, Typed Y j 5 → ¬ (v.ownBlock = some j) := fun j hj e => hj.ne (row_typed h.1 e).1 (Ne.symm log_types.2.2) rfl
  have key : ∀ y : Vd, y.Ok Y Y.heap.size → y.n ≤ 1000000 → DB Y base y.A → y.Ok w3 w3.heap.size ∧ y.n ≤ 1000000 ∧ DB w3 base y.A := fun y h1 h2 h3 =>
    ⟨⟨(h1.1.rest hR (Nat.le_refl _) (fun a ha => hd _ (h3 a ha).2)).more hR.size, h1.2⟩, h2, fun a ha => ⟨(h3 a ha).1, (h3 a ha).2.rest hR (hd _ (h3 a ha).2)⟩⟩
  refine ⟨by rw [List.length_append, flatV_append]; simpa [flatV] using hrow, fun y hy => ?_⟩
  rcases List.mem_append.1 hy with hy | hy
  · exact key y (h.2 y hy).1 (h.2 y hy).2.1 (h.2 y hy).2.2
  · rw [List.mem_singleton] at hy
    subst hy
    exact key _ hx hxn hxd
theorem VRow.below {w w' : World} {base : Nat} {v : Value} {L : List Vd} (h : VRow w base v L) (k : Below w.heap.size w w') : VRow w' base v L :=
  ⟨row_rest h.1 (Rest.of_below k (fun _ => False)) (fun _ _ f => f), fun x hx => ⟨((h.2 x hx).1.below k).more k.size, (h.2 x hx).2.1, (h.2 x hx).2.2.below k⟩⟩
theorem VRow.vds {w : World} {base : Nat} {v : Value} {L : List Vd} (h : VRow w base v L) : ∃ A c, v = .slice A L.length c ∧ Vds w w.heap.size A L.length L := own_vds h.1 (fun x hx => (h.2 x hx).1)
theorem one5 (a b c d e : Value) (h : (#[a, b, c, d, e] : Array Value).all (·.oneCell') = true) : ∀ u ∈ [a, b, c, d, e], u.oneCell' = true := by
  intro u hu
  have := Array.all_eq_true_iff_forall_mem.1 h u (by simpa using hu)
  exact this
set_option maxRecDepth 100000 in
set_option maxHeartbeats 6400000 in
theorem copied_any (g base : Nat) (v : Value) (S : List SgV) (w : World) (hl : LogIs w base g v S) (hS : S.length ≤ 100000) :
    Calls Tryd.prog 47 #[.pointer (some ⟨g, 0, none⟩)] w fun e w' => ∃ v' L', e = .returned v' ∧ L'.map sgV = S ∧ VRow w' w.heap.size v' L' ∧ Below w.heap.size w w' := by
  obtain ⟨L, hL, og, hrow, ha⟩ := hl
  obtain ⟨A, c, rfl, hV⟩ := own_vds hrow (fun x hx => (ha x hx).1)
  have hc0 := og.cell (i := 0) (v := .slice A L.length c) rfl
  have HN := Lib.hid (fun x hx => (ha x hx).2.1)
  have hLl : L.length ≤ 100000 := by rw [← hL, List.length_map] at hS; exact hS
  have HL := Lib.hid hL
  have HV := Lib.hid hV
  generalize hn : L.length = n at *
  have Hn := Lib.hid hn
  clear hn hL hV hrow ha hS
  go_enter Tryd.func47, Tryd.ntmps47
  go_wp2_with fail
  go_loopw [3, 11] (fun o i wr => ∃ (j : Nat) (L' : List Vd), j ≤ n ∧ i = .int .i64 j ∧ Hid (L'.map sgV = (L.take j).map sgV ∧ L'.length = j) ∧ VRow wr w.heap.size o L' ∧ Below w.heap.size w wr) (fun _ i _ => n - (intOf i).toNat)
  case atStart => exact ⟨0, [], Nat.zero_le _, rfl, Lib.hid ⟨rfl, rfl⟩, ⟨World.ownsRow_nil _ _ _ _, fun _ h => by cases h⟩, bl_refl w⟩
  case round =>
    obtain ⟨j, L', hj, rfl, hLj, hvr, hb⟩ := hrel
    by_cases hlt : j < n
    · obtain ⟨b, o, rfl, hbB, hok, hrg⟩ := (HV.out.below hb).at_ hlt
      have hjl := Lib.hid (show j < L.length by have := Hn.out; omega)
      have hxn := HN.out _ (nthV_mem hjl.out)
      have HT := Lib.hid (take_nthV hjl.out)
      generalize nthV L j = x at *
      obtain ⟨kk, kc, ks, kA, kn, kp, kx, kt⟩ := x
      obtain ⟨d0, d1, d2, d3, d4⟩ := range5 hrg
      dsimp only at hxn d0 d1 d2 d3 d4
      have hbs := hb.size
      have hbw : b < wr.heap.size := by omega
      have hok1 := hok.more hbs
      have hCl := Lib.hid (fun W (h : Below wr.heap.size wr W) => fclone2_any ⟨kk, kc, ks, kA, kn, kp, kx, kt⟩ W ((hok1.below h).more h.size) hxn)
      unfold vdc at hCl
      dsimp only at hCl
      have bX := bl_alloc (bl_refl wr) (.cells #[.int .i64 kk, .int .i64 kc, .int .i64 ks, .slice kA kn kp, .int .i64 kt] 40)
      have oB := Own.new wr 40 #[.int .i64 kk, .int .i64 kc, .int .i64 ks, .slice kA kn kp, .int .i64 kt]
      obtain ⟨e0, e1, e2, e3, e4⟩ := vd_row oB
      clear hok hok1 hrg
      go_wp2_with fail
      refine (hCl.out _ bX).mono ?_
      rintro e w1 ⟨x', rfl, hok', hsg', hn', hD', hb1⟩
      have HX1 := Lib.hid (And.intro hok' (And.intro hsg' (And.intro hn' hD')))
      clear hok' hsg' hn' hD' e0 e1 e2 e3 e4 oB
      obtain ⟨mk, mc, ms, mA, mn, mp, mx, mt⟩ := x'
      have bW := bl_trans bX hb1
      have hal := bl_alloc (bl_refl w1) (.cells #[.int .i64 mk, .int .i64 mc, .int .i64 ms, .slice mA mn mp, .int .i64 mt] 40)
      have bY := bl_trans bW hal
      have oS := Own.new w1 40 #[.int .i64 mk, .int .i64 mc, .int .i64 ms, .slice mA mn mp, .int .i64 mt]
      have hvY := hvr.below bY
      have HVY := Lib.hid hvY
      have hyr := hvY.1
      have hl5 := hLj.out.2
      rw [hl5] at hyr
      have hbY := bl_trans hb bY
      have hbYs := hbY.size
      clear hvr hb bW hvY hl5
      dsimp only at HX1 ⊢
      go_wp2_with (at_builtin; refine wpList_append_grow _ rfl _ _ rfl sl_vds w.heap.size _ j (flatV L') rfl hyr (w1.heap.size + 1) (some ⟨w1.heap.size, 0, none⟩) 1 1 [.int .i64 mk, .int .i64 mc, .int .i64 ms, .slice mA mn mp, .int .i64 mt] rfl rfl (Shows.of_owned (xs := [.int .i64 mk, .int .i64 mc, .int .i64 ms, .slice mA mn mp, .int .i64 mt]) oS (Nat.lt_succ_self _)) (one5 _ _ _ _ _ (vdc_one _ _ _ _ _ _ _)) (by unfold maxLen; omega) (by omega) hbYs ?_; intro v3 w3 hrow3 hgr3)
      have hb3 := hbY.grown hgr3 hbYs (fun k hk => (hyr.lt k hk).1)
      have hx1 := HX1.out
      have hp := VRow.push HVY.out (x := ⟨mk, mc, ms, mA, mn, mp, mx, mt⟩) ((hx1.1.below hal).more hal.size) (by rw [hx1.2.2.1]; exact hxn) (fun a ha => ⟨by have h1 := (hx1.2.2.2 a ha).1; have := bX.size; omega, (hx1.2.2.2 a ha).2.below hal⟩) (by rw [hLj.out.2]; exact hrow3) hgr3
      have HF := Lib.hid (show (L' ++ [(⟨mk, mc, ms, mA, mn, mp, mx, mt⟩ : Vd)]).map sgV = (L.take (j + 1)).map sgV ∧ (L' ++ [(⟨mk, mc, ms, mA, mn, mp, mx, mt⟩ : Vd)]).length = j + 1 from ⟨by rw [HT.out, List.map_append, List.map_append, hLj.out.1, List.map_singleton, List.map_singleton, hx1.2.1], by rw [List.length_append, hLj.out.2]; rfl⟩)
      clear hx1 hrow3 hgr3
      go_roundw
      case rel => exact ⟨j + 1, _, by omega, by go_num, HF, hp, hb3⟩
      case measure => simp [intOf]; omega
    · obtain rfl : j = n := by omega
      have HT := Lib.hid (show L'.map sgV = S by rw [hLj.out.1, List.take_of_length_le (by rw [Hn.out]; exact Nat.le_refl _), HL.out])
      go_wp2
      go_ret
      exact ⟨_, L', rfl, HT.out, hvr, hb⟩
set_option maxRecDepth 100000 in
theorem all_anyL (g base : Nat) (v : Value) (S : List SgV) (w : World) (hl : LogIs w base g v S) (hS : S.length ≤ 100000) :
    Calls Tryd.prog 21 #[.pointer (some ⟨g, 0, none⟩)] w fun e w' => ∃ v' L', e = .returned v' ∧ L'.map sgV = S ∧ VRow w' w.heap.size v' L' ∧ Below w.heap.size w w' := by
  have hC := Lib.hid (copied_any g base v S w hl hS)
  clear hl
  go_enter Tryd.func21, Tryd.ntmps21
  go_wp2_with fail
  refine hC.out.mono ?_
  rintro e w1 ⟨v', L', rfl, hm, hr, hb⟩
  have HM := Lib.hid hm
  clear hm
  go_wp2
  go_ret
  exact ⟨_, L', rfl, HM.out, hr, hb⟩
set_option maxRecDepth 100000 in
theorem all_nilL (w : World) : Calls Tryd.prog 21 #[.pointer none] w fun e w' => e = .returned (.slice none 0 0) ∧ w = w' := by
  go_enter Tryd.func21, Tryd.ntmps21
  go_wp2
  go_ret
  exact ⟨rfl, rfl⟩
set_option maxRecDepth 100000 in
theorem add_anyL (g base : Nat) (v : Value) (S : List SgV) (A : Option Addr) (n c : Nat) (vs : List Vd) (w : World) (hl : LogIs w base g v S) (hbase : base ≤ w.heap.size) (hV : ∀ W, Rest w W (fun i => i = g ∨ v.ownBlock = some i) → Vds W w.heap.size A n vs) (hn : n ≤ 1000) (hs : S.length + n ≤ 100000) (hsz : ∀ x ∈ vs, x.n ≤ 1000000) :
    Calls Tryd.prog 19 #[.pointer (some ⟨g, 0, none⟩), .slice A n c] w fun e w' => e = .returned (.int .i64 ((S ++ (errV vs).map sgV).length : Nat)) ∧ ∃ v', LogIs w' base g v' (S ++ (errV vs).map sgV) ∧ (v'.ownBlock = v.ownBlock ∨ ∀ j, v'.ownBlock = some j → w.heap.size ≤ j) ∧ Rest w w' (fun i => i = g ∨ v.ownBlock = some i) := by
  have hP := Lib.hid (put_anyL g base v S A n c vs w hl hbase hV hn hs hsz)
  clear hl hV hsz
  go_enter Tryd.func19, Tryd.ntmps19
  go_wp2_with fail
  refine hP.out.mono ?_
  rintro e w1 ⟨rfl, v', hl, ho, hR⟩
  have HL := Lib.hid hl
  obtain ⟨L, hL, og, hrow, _⟩ := hl
  obtain ⟨A', c', rfl⟩ := own_form hrow
  have hc0 := og.cell (i := 0) (v := .slice A' L.length c') rfl
  have HLl := Lib.hid (show L.length = (S ++ (errV vs).map sgV).length by rw [← hL, List.length_map])
  clear hL og hrow
  go_wp2
  go_ret
  exact ⟨by rw [← HLl.out]; rfl, _, HL.out, ho, hR⟩
set_option maxRecDepth 100000 in
theorem add_nilL (A : Option Addr) (n c : Nat) (w : World) : Calls Tryd.prog 19 #[.pointer none, .slice A n c] w fun e w' => e = .returned (.int .i64 0) ∧ w = w' := by
  go_enter Tryd.func19, Tryd.ntmps19
  go_wp2
  go_ret
  exact ⟨rfl, rfl⟩
/-- How many verdicts have a kind. -/
def cntS (k : Int) (S : List SgV) : Nat := (S.filter fun s => decide (s.1 = k)).length
theorem cntS_le (k : Int) (S : List SgV) : cntS k S ≤ S.length := List.length_filter_le _ _
theorem cnt_step {k : Int} {L : List Vd} {j : Nat} (h : j < L.length) : cntS k ((L.take (j + 1)).map sgV) = cntS k ((L.take j).map sgV) + if (nthV L j).k = k then 1 else 0 := by
  unfold cntS
  rw [take_nthV h, List.map_append, List.filter_append, List.length_append]
  congr 1
  by_cases hk : (nthV L j).k = k
  · simp [sgV, hk]
  · simp [sgV, hk]
set_option maxRecDepth 100000 in
set_option maxHeartbeats 1600000 in
theorem count_anyL (g base : Nat) (v : Value) (S : List SgV) (k : Int) (w : World) (hl : LogIs w base g v S) (hS : S.length ≤ 100000) :
    Calls Tryd.prog 22 #[.pointer (some ⟨g, 0, none⟩), .int .i64 k] w fun e w' => e = .returned (.int .i64 (cntS k S : Nat)) ∧ Below w.heap.size w w' := by
  have hC := Lib.hid (all_anyL g base v S w hl hS)
  clear hl
  go_enter Tryd.func22, Tryd.ntmps22
  go_wp2_with fail
  refine hC.out.mono ?_
  rintro e w1 ⟨v', L, rfl, hm, hr, hb0⟩
  obtain ⟨A, c, rfl, hV⟩ := hr.vds
  have HM := Lib.hid hm
  have HV := Lib.hid hV
  have hnl : L.length ≤ 100000 := by rw [← hm, List.length_map] at hS; exact hS
  generalize hn : L.length = n at *
  have Hn := Lib.hid hn
  clear hn hm hr hV hS
  go_wp2_with fail
  go_loopw [5, 11] (fun s i wr => ∃ j : Nat, j ≤ n ∧ i = .int .i64 j ∧ s = .int .i64 (cntS k ((L.take j).map sgV) : Nat) ∧ Below w1.heap.size w1 wr) (fun _ i _ => n - (intOf i).toNat)
  case atStart => exact ⟨0, Nat.zero_le _, rfl, rfl, bl_refl w1⟩
  case round =>
    obtain ⟨j, hj, rfl, rfl, hb⟩ := hrel
    by_cases hlt : j < n
    · obtain ⟨b, o, rfl, hbB, _, hrg⟩ := (HV.out.below hb).at_ hlt
      have hst := Lib.hid (cnt_step (k := k) (L := L) (j := j) (by have := Hn.out; omega))
      have hcl := Nat.le_trans (cntS_le k ((L.take j).map sgV)) (by rw [List.length_map]; exact List.length_take_le _ _)
      generalize nthV L j = x at *
      generalize cntS k ((L.take j).map sgV) = q at *
      obtain ⟨d0, d1, d2, d3, d4⟩ := range5 hrg
      have hbs := hb.size
      have hbw : b < wr.heap.size := by omega
      clear hrg
      by_cases hk : x.k = k
      · have hk2 : (x.k == k) = true := by simpa using hk
        have HK := Lib.hid hk
        clear hk
        go_wp2
        go_roundw
        case rel => exact ⟨j + 1, by omega, by go_num, by rw [hst.out, if_pos HK.out]; go_num, bl_alloc hb _⟩
        case measure => simp [intOf]; omega
      · have hk2 : (x.k == k) = false := by simpa using hk
        have HK := Lib.hid hk
        clear hk
        go_wp2
        go_roundw
        case rel => exact ⟨j + 1, by omega, by go_num, by rw [hst.out, if_neg HK.out]; rfl, bl_alloc hb _⟩
        case measure => simp [intOf]; omega
    · obtain rfl : j = n := by omega
      have HT := Lib.hid (show (L.take j).map sgV = S by rw [List.take_of_length_le (by rw [Hn.out]; exact Nat.le_refl _), HM.out])
      go_wp2
      go_ret
      exact ⟨by rw [← HT.out]; rfl, bl_trans hb0 hb⟩
set_option maxRecDepth 100000 in
theorem count_nilL (k : Int) (w : World) : Calls Tryd.prog 22 #[.pointer none, .int .i64 k] w fun e w' => e = .returned (.int .i64 0) ∧ w = w' := by
  go_enter Tryd.func22, Tryd.ntmps22
  go_wp2_with fail
  refine (all_nilL _).mono ?_
  rintro e w1 ⟨rfl, rfl⟩
  go_wp2
  refine wp_loop_rounds 1 ?_
  rw [rounds_succ]
  go_wp2
  go_ret
  exact ⟨rfl, rfl⟩
def worS (u v : SgV) : SgV := if v.1 > u.1 ∨ (v.1 = u.1 ∧ v.2.2.2.1 < u.2.2.2.1) then v else u
theorem worS_eq (u v : Vd) : sgV (wor u v) = worS (sgV u) (sgV v) := by
  unfold wor worS vWorse sgV
  simp only [decide_eq_true_eq]
  split <;> first | rfl | (split <;> first | rfl | (exfalso; omega))
theorem foldV_sg {a b : List Vd} (h : a.map sgV = b.map sgV) : sgV (foldV a) = sgV (foldV b) := by
  have key : ∀ (r s : List Vd) (x y : Vd), r.map sgV = s.map sgV → sgV x = sgV y → sgV (r.foldl wor x) = sgV (s.foldl wor y) := by
    intro r
    induction r with
    | nil => intro s x y h1 h2; cases s with
      | nil => exact h2
      | cons _ _ => cases h1
    | cons p r ih => intro s x y h1 h2; cases s with
      | nil => cases h1
      | cons q s =>
        rw [List.map_cons, List.map_cons, List.cons.injEq] at h1
        rw [List.foldl_cons, List.foldl_cons]
        exact ih s _ _ h1.2 (by rw [worS_eq, worS_eq, h2, h1.1])
  cases a with
  | nil => cases b with
    | nil => rfl
    | cons _ _ => cases h
  | cons x r => cases b with
    | nil => cases h
    | cons y s =>
      rw [List.map_cons, List.map_cons, List.cons.injEq] at h
      rw [fold_eq (x := x) (r := r) rfl, fold_eq (x := y) (r := s) rfl]
      exact key r s x y h.2 h.1
set_option maxRecDepth 100000 in
set_option maxHeartbeats 1600000 in
theorem worst_anyL (g base : Nat) (v : Value) (W0 : List Vd) (w : World) (hl : LogIs w base g v (W0.map sgV)) (hS : W0.length ≤ 100000) :
    Calls Tryd.prog 24 #[.pointer (some ⟨g, 0, none⟩)] w fun e w' => ∃ x : Vd, e = .returned (.agg (vdc x)) ∧ x.Ok w' w'.heap.size ∧ sgV x = sgV (foldV W0) ∧ Below w.heap.size w w' := by
  obtain ⟨L, hL, og, hrow, ha⟩ := hl
  obtain ⟨A, c, rfl, hV⟩ := own_vds hrow (fun x hx => (ha x hx).1)
  have hLl : L.length ≤ 100000 := by have := congrArg List.length hL; rw [List.length_map, List.length_map] at this; omega
  have o0 := Own.new w 40 #[.int .i64 0, .int .i64 0, .int .i64 0, .slice none 0 0, .int .i64 0]
  have hb0 := bl_alloc (bl_refl w) (.cells #[.int .i64 0, .int .i64 0, .int .i64 0, .slice none 0 0, .int .i64 0] 40)
  have hc0 := (og.step hb0).cell (i := 0) (v := .slice A L.length c) rfl
  have hF := Lib.hid (fun W (h : Below w.heap.size w W) => ffold_any A L.length c L W ((hV.below h).more h.size) (by unfold maxLen; omega) (fun x hx => (ha x hx).2.1))
  have HS := Lib.hid (foldV_sg hL)
  clear hL og hrow ha hV
  generalize L.length = n at *
  go_enter Tryd.func24, Tryd.ntmps24
  go_wp2_with fail
  refine (hF.out _ hb0).mono ?_
  rintro e w1 ⟨x, rfl, hok, hsm, hnn, hbk, hb1⟩
  clear hnn
  have hs2 := sgV_iff.2 hsm
  have HX := Lib.hid (And.intro hok hs2)
  have HK := Lib.hid (show ∀ a, x.A = some a → a.block ≠ w.heap.size from fun a ha => by have h1 := hbk a ha; have h2 := hb0.size; omega)
  have o1 := o0.step hb1
  have hb2 := bl_trans hb0 hb1
  clear hok hsm hs2 hbk hc0 o0 hb0 hb1
  obtain ⟨mk, mc, ms, mA, mn, mp, mx, mt⟩ := x
  unfold vdc
  dsimp only at HX HK ⊢
  go_wp2_with (refine wpList_store_row rfl 40 _ _ rfl w.heap.size #[.int .i64 mk, .int .i64 mc, .int .i64 ms, .slice mA mn mp, .int .i64 mt] rfl rfl 40 #[.int .i64 0, .int .i64 0, .int .i64 0, .slice none 0 0, .int .i64 0] o1 (vdc_info _ _ _ _ _ _ _) rfl (vdc_one _ _ _ _ _ _ _) ?_)
  refine bodyPost_ret (results_cell1 (p := 2) (fn := Tryd.f24) rfl _ _ w.heap.size 40 #[.int .i64 mk, .int .i64 mc, .int .i64 ms, .slice mA mn mp, .int .i64 mt] _ rfl o1.setRow vdc_desc rfl (vdc_info _ _ _ _ _ _ _)) rfl ⟨⟨mk, mc, ms, mA, mn, mp, mx, mt⟩, rfl, ?_, ?_, bl_setRow hb2 (Nat.le_refl _)⟩
  · exact ⟨(HX.out.1.1.keepB (fun a ha => setRow_other _ _ _ _ (HK.out a ha))).more (by simp), HX.out.1.2⟩
  · exact HX.out.2.symm.trans HS.out
set_option maxRecDepth 100000 in
theorem worst_nilL (w : World) : Calls Tryd.prog 24 #[.pointer none] w fun e w' => e = .returned (.agg (vdc vd0)) ∧ Below w.heap.size w w' := by
  have o0 := Own.new w 40 #[.int .i64 0, .int .i64 0, .int .i64 0, .slice none 0 0, .int .i64 0]
  have hb0 := bl_alloc (bl_refl w) (.cells #[.int .i64 0, .int .i64 0, .int .i64 0, .slice none 0 0, .int .i64 0] 40)
  go_enter Tryd.func24, Tryd.ntmps24
  go_wp2_with (refine wpList_store_row rfl 40 _ _ rfl w.heap.size #[.int .i64 0, .int .i64 0, .int .i64 0, .slice none 0 0, .int .i64 0] rfl rfl 40 #[.int .i64 0, .int .i64 0, .int .i64 0, .slice none 0 0, .int .i64 0] o0 (vdc_info _ _ _ _ _ _ _) rfl (vdc_one _ _ _ _ _ _ _) ?_)
  exact bodyPost_ret (results_cell1 (p := 2) (fn := Tryd.f24) rfl _ _ w.heap.size 40 #[.int .i64 0, .int .i64 0, .int .i64 0, .slice none 0 0, .int .i64 0] _ rfl o0.setRow vdc_desc rfl (vdc_info _ _ _ _ _ _ _)) rfl ⟨rfl, bl_setRow hb0 (Nat.le_refl _)⟩
set_option maxRecDepth 100000 in
set_option maxHeartbeats 3200000 in
theorem rerrs_any (A : Option Addr) (n c : Nat) (vs : List Vd) (w : World) (h : Vds w w.heap.size A n vs) (hm : n ≤ 1000) :
    Calls Tryd.prog 18 #[.slice A n c] w fun e w' => ∃ v, e = .returned v ∧ w'.ownsRow w.heap.size 40 5 v (errV vs).length (flatV (errV vs)) ∧ Below w.heap.size w w' := by
  have HN := Lib.hid h.1
  have HV := Lib.hid h
  clear h
  go_enter Tryd.func18, Tryd.ntmps18
  go_wp2_with fail
  go_loopw [3, 4] (fun v i wr => ∃ j : Nat, j ≤ n ∧ i = .int .i64 j ∧ wr.ownsRow w.heap.size 40 5 v (errV (vs.take j)).length (flatV (errV (vs.take j))) ∧ Below w.heap.size w wr) (fun _ i _ => n - (intOf i).toNat)
  case atStart => exact ⟨0, Nat.zero_le _, rfl, World.ownsRow_nil _ _ _ _, bl_refl w⟩
  case round =>
    obtain ⟨j, hj, rfl, hown, hb⟩ := hrel
    by_cases hlt : j < n
    · obtain ⟨b, o, rfl, hbB, _, hrg⟩ := (HV.out.below hb).at_ hlt
      have hjl := Lib.hid (show j < vs.length by have := HN.out; omega)
      have HY := Lib.hid (errV_yes hjl.out)
      have HO := Lib.hid (errV_no hjl.out)
      have hln := errV_len vs j
      generalize nthV vs j = x at *
      obtain ⟨kk, kc, ks, kA, kn, kp, kx, kt⟩ := x
      obtain ⟨d0, d1, d2, d3, d4⟩ := range5 hrg
      dsimp only at HY HO d0 d1 d2 d3 d4
      have hbs := hb.size
      have hbw : b < wr.heap.size := by omega
      clear hrg
      by_cases hk : kk = 0
      · have hkb : (kk != 0) = false := by simp [hk]
        have HX := Lib.hid (HO.out hk)
        clear hk HY HO
        go_wp2
        go_roundw
        case rel => exact ⟨j + 1, by omega, by go_num, by rw [HX.out]; exact hown, hb⟩
        case measure => simp [intOf]; omega
      · have hkb : (kk != 0) = true := by simp [hk]
        have HX := Lib.hid (HY.out hk)
        have hal := bl_alloc (bl_refl wr) (.cells #[.int .i64 kk, .int .i64 kc, .int .i64 ks, .slice kA kn kp, .int .i64 kt] 40)
        have oS := Own.new wr 40 #[.int .i64 kk, .int .i64 kc, .int .i64 ks, .slice kA kn kp, .int .i64 kt]
        have hown1 := own_belowG hown hal
        have hb1 := bl_trans hb hal
        have hbs1 := hb1.size
        clear hk HY HO hown hb
        generalize errV (vs.take j) = E at *
        go_wp2_with (at_builtin; refine wpList_append_grow _ rfl _ _ rfl sl_vds w.heap.size _ E.length (flatV E) rfl hown1 (wr.heap.size + 1) (some ⟨wr.heap.size, 0, none⟩) 1 1 [.int .i64 kk, .int .i64 kc, .int .i64 ks, .slice kA kn kp, .int .i64 kt] rfl rfl (Shows.of_owned (xs := [.int .i64 kk, .int .i64 kc, .int .i64 ks, .slice kA kn kp, .int .i64 kt]) oS (Nat.lt_succ_self _)) (one5 _ _ _ _ _ (vdc_one _ _ _ _ _ _ _)) (by unfold maxLen; omega) (by omega) hbs1 ?_; intro v3 w3 hrow3 hgr3)
        have hb3 := hb1.grown hgr3 hbs1 (fun k hk => (hown1.lt k hk).1)
        go_roundw
        case rel => exact ⟨j + 1, by omega, by go_num, by rw [HX.out, List.length_append, flatV_append]; simpa [flatV, vdc] using hrow3, hb3⟩
        case measure => simp [intOf]; omega
    · obtain rfl : j = n := by omega
      have HT := Lib.hid (show vs.take j = vs from List.take_of_length_le (by rw [← HN.out]; exact Nat.le_refl _))
      rw [HT.out] at hown
      go_wp2
      go_ret
      exact ⟨_, rfl, hown, hb⟩
theorem sg_take {vs us : List Vd} {j : Nat} (h1 : j < vs.length) (h2 : j < us.length) (h : (vs.take j).map sgV = (us.take j).map sgV) (he : vSame (nthV vs j) (nthV us j) = true) : (vs.take (j + 1)).map sgV = (us.take (j + 1)).map sgV := by
  rw [take_nthV h1, take_nthV h2, List.map_append, List.map_append, h, List.map_singleton, List.map_singleton, sgV_iff.2 he]
theorem sg_no {vs us : List Vd} {j : Nat} (h1 : j < vs.length) (h2 : j < us.length) (he : vSame (nthV vs j) (nthV us j) = false) : ¬ (vs.map sgV = us.map sgV) := by
  intro e
  have e1 := congrArg (fun l => l[j]?) e
  simp only [List.getElem?_map, nthV_some h1, nthV_some h2, Option.map_some] at e1
  rw [sgV_iff.1 (Option.some.inj e1)] at he
  cases he
set_option maxRecDepth 100000 in
set_option maxHeartbeats 3200000 in
theorem requal_any (A B : Option Addr) (n c m d : Nat) (vs us : List Vd) (w : World) (h : Vds w w.heap.size A n vs) (h' : Vds w w.heap.size B m us) (hn : n ≤ 100000) (hm : m ≤ 100000) :
    Calls Tryd.prog 20 #[.slice A n c, .slice B m d] w fun e w' => e = .returned (.bool (decide (vs.map sgV = us.map sgV))) ∧ Below w.heap.size w w' := by
  have HN := Lib.hid h.1
  have HM := Lib.hid h'.1
  have HV := Lib.hid h
  have HU := Lib.hid h'
  clear h h'
  by_cases hnm : n = m
  · subst hnm
    go_enter Tryd.func20, Tryd.ntmps20
    go_wp2_with fail
    go_loopw [5] (fun i wr => ∃ j : Nat, j ≤ n ∧ i = .int .i64 j ∧ Hid ((vs.take j).map sgV = (us.take j).map sgV) ∧ Below w.heap.size w wr) (fun i _ => n - (intOf i).toNat)
    case atStart => exact ⟨0, Nat.zero_le _, rfl, Lib.hid rfl, bl_refl w⟩
    case round =>
      obtain ⟨j, hj, rfl, hall, hb2⟩ := hrel
      by_cases hlt : j < n
      · obtain ⟨b, o, rfl, hbB, hok1, hr1⟩ := (HV.out.below hb2).at_ hlt
        obtain ⟨b2, o2, rfl, hbB2, hok2, hr2⟩ := (HU.out.below hb2).at_ hlt
        have hj1 := Lib.hid (show j < vs.length by have := HN.out; omega)
        have hj2 := Lib.hid (show j < us.length by have := HM.out; omega)
        have hYe := Lib.hid (fun e => sg_take hj1.out hj2.out hall.out e)
        have hNo := Lib.hid (fun e => sg_no hj1.out hj2.out e)
        have hbs := hb2.size
        have hwc := Lib.hid (rg_of (w := wr) (fun W hW => rsame4_any (nthV vs j) (nthV us j) W (((hok1.more hbs).below hW).more hW.size) (((hok2.more hbs).below hW).more hW.size)))
        generalize vSame (nthV vs j) (nthV us j) = q at *
        have r1 := Lib.hid (range_rg (w := wr) hbB hbs hr1)
        have r2 := Lib.hid (range_rg (w := wr) hbB2 hbs hr2)
        generalize nthV vs j = v1 at *
        generalize nthV us j = v2 at *
        clear hok1 hok2 hr1 hr2
        have i1 : Hid ((Tryd.prog.info? 40).map (·.size) = some ([Value.int .i64 v1.k, .int .i64 v1.c, .int .i64 v1.s, .slice v1.A v1.n v1.cp, .int .i64 v1.t]).length) := Lib.hid (by kernel_rfl)
        have i2 : Hid ((Tryd.prog.info? 40).map (·.size) = some ([Value.int .i64 v2.k, .int .i64 v2.c, .int .i64 v2.s, .slice v2.A v2.n v2.cp, .int .i64 v2.t]).length) := Lib.hid (by kernel_rfl)
        unfold vdc at hwc r1 r2
        obtain ⟨k1, c1, s1, A1, n1, p1, x1, t1⟩ := v1
        obtain ⟨k2, c2, s2, A2, n2, p2, x2, t2⟩ := v2
        dsimp only at hwc r1 r2 i1 i2
        have hji : (j : Int) < (n : Int) := by omega
        go_wp2_with fail
        refine wp_region_quiet_below (by kernel_rfl) (by kernel_rfl) ?_
        repeat (first
          | go_big_quiet_skip
          | (refine wpQuiet_load_mid (by rfl) 40 _ rfl b (o + j * 5) rfl [.int .i64 k1, .int .i64 c1, .int .i64 s1, .slice A1 n1 p1, .int .i64 t1] (.struct (Tryd.prog.fieldsOf 40)) r1.out vdc_desc rfl i1.out ?_; go_simp)
          | (refine wpQuiet_load_mid (by rfl) 40 _ rfl b2 (o2 + j * 5) rfl [.int .i64 k2, .int .i64 c2, .int .i64 s2, .slice A2 n2 p2, .int .i64 t2] (.struct (Tryd.prog.fieldsOf 40)) r2.out vdc_desc rfl i2.out ?_; go_simp)
          | go_big_quiet_step (with_reducible exact hwc.out _ _))
        refine wpQuiet_nil ?_
        first | rintro _ ⟨⟨dq, osq⟩, rfl⟩ | rintro ⟨dq, osq⟩
        have hgw := below_regrown wr dq osq
        have hb3 := bl_trans hb2 hgw
        generalize grow (redrawn wr dq) osq = w3 at *
        clear hwc r1 r2 hb2 hgw
        cases q
        · have HR := Lib.hid (hNo.out rfl)
          go_wp2
          go_ret
          exact ⟨ret_bool (by rw [decide_eq_false HR.out]), hb3⟩
        · have HR := Lib.hid (hYe.out rfl)
          go_wp2
          go_roundw
          case rel => exact ⟨j + 1, by omega, by go_num, HR, hb3⟩
          case measure => simp [intOf]; omega
      · obtain rfl : j = n := by omega
        have HT := Lib.hid (show vs.map sgV = us.map sgV by have := hall.out; rwa [List.take_of_length_le (by rw [← HN.out]; exact Nat.le_refl _), List.take_of_length_le (by rw [← HM.out]; exact Nat.le_refl _)] at this)
        go_wp2
        go_ret
        exact ⟨ret_bool (by rw [decide_eq_true HT.out]), hb2⟩
  · have hd : ((n : Int) != (m : Int)) = true := by simp; omega
    have HT := Lib.hid (show ¬ (vs.map sgV = us.map sgV) from fun e => by have := congrArg List.length e; rw [List.length_map, List.length_map, ← HN.out, ← HM.out] at this; exact hnm this)
    go_enter Tryd.func20, Tryd.ntmps20
    go_wp2
    go_ret
    exact ⟨ret_bool (by rw [decide_eq_false HT.out]), bl_refl w⟩
end Go.Proofs.YtmcmhljonkijjaaDoor
