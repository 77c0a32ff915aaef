/- FindingFolds: the walk -/
import Derived.Test.YtaopinecidddkaaDoorFoE
import Derived.Deep.RegionHeld3
namespace Go.Proofs.YtaopinecidddkaaDoor
open Go.RowKit Go.Sort

theorem vSame_iff {v u : Vd} : vSame v u = true ↔ v.k = u.k ∧ v.c = u.c ∧ v.s = u.s ∧ v.t = u.t ∧ v.xs = u.xs := by unfold vSame; rw [decide_eq_true_eq]
theorem vSame_symm {v u : Vd} (h : vSame v u = true) : vSame u v = true := by
  rw [vSame_iff] at *
  exact ⟨h.1.symm, h.2.1.symm, h.2.2.1.symm, h.2.2.2.1.symm, h.2.2.2.2.symm⟩
theorem vSame_trans {v u x : Vd} (h : vSame v u = true) (h' : vSame u x = true) : vSame v x = true := by
  rw [vSame_iff] at *
  exact ⟨h.1.trans h'.1, h.2.1.trans h'.2.1, h.2.2.1.trans h'.2.2.1, h.2.2.2.1.trans h'.2.2.2.1, h.2.2.2.2.trans h'.2.2.2.2⟩
def wor (u v : Vd) : Vd := if vWorse v u then v else u
theorem fold_eq {vs : List Vd} {x : Vd} {r : List Vd} (h : vs = x :: r) : foldV vs = r.foldl wor x := by
  subst h
  rw [← wst_fold (by simp)]
  unfold wst
  rw [List.take_of_length_le (Nat.le_refl _)]
  show List.foldl wor (nthV (x :: r) 0) (x :: r) = _
  rw [List.foldl_cons]
  have : wor (nthV (x :: r) 0) x = x := by unfold wor nthV; simp
  rw [this]
/-- The worst of two lists together is the worst of the worst ones. -/
theorem foldl_best (r : List Vd) : ∀ (u x : Vd), r.foldl wor (wor u x) = wor u (r.foldl wor x) := by
  induction r with
  | nil => intro u x; rfl
  | cons y r ih =>
    intro u x
    rw [List.foldl_cons, List.foldl_cons]
    have e : wor (wor u x) y = wor u (wor x y) := by
      unfold wor vWorse
      simp only [decide_eq_true_eq]
      repeat' split
      all_goals first | rfl | (exfalso; omega)
    rw [e, ih]
theorem fold_app {a b : List Vd} (ha : a ≠ []) (hb : b ≠ []) : foldV (a ++ b) = wor (foldV a) (foldV b) := by
  cases a with
  | nil => exact absurd rfl ha
  | cons x r =>
    cases b with
    | nil => exact absurd rfl hb
    | cons y q =>
      rw [List.cons_append, fold_eq (x := x) (r := r ++ y :: q) rfl, fold_eq (x := x) (r := r) rfl, fold_eq (x := y) (r := q) rfl, List.foldl_append, List.foldl_cons, foldl_best]
theorem fold_two (x y : Vd) : foldV [x, y] = wor x y := by rw [fold_eq (x := x) (r := [y]) rfl]; rfl
theorem wor_same {x y x' y' : Vd} (h : vSame x x' = true) (h' : vSame y y' = true) : vSame (wor x y) (wor x' y') = true := by
  have h1 := vSame_iff.1 h
  have h2 := vSame_iff.1 h'
  have e : vWorse y x = vWorse y' x' := by unfold vWorse; rw [h1.1, h1.2.2.2.1, h2.1, h2.2.2.2.1]
  unfold wor
  rw [e]
  split
  · exact h'
  · exact h
theorem own_15 {W : World} {g h j : Nat} {T : TypeId} {a b c d e a' b' c' d' e' a2 b2 c2 d2 e2 : Value} (o : Own W g T #[a, b, c, d, e]) (p : Own W h T #[a', b', c', d', e']) (q : Own W j T #[a2, b2, c2, d2, e2]) :
    (W.cell? ⟨g, 0, none⟩ = some a ∧ W.cell? ⟨g, 1, none⟩ = some b ∧ W.cell? ⟨g, 2, none⟩ = some c ∧ W.cell? ⟨g, 3, none⟩ = some d ∧ W.cell? ⟨g, 4, none⟩ = some e) ∧ (W.cell? ⟨h, 0, none⟩ = some a' ∧ W.cell? ⟨h, 1, none⟩ = some b' ∧ W.cell? ⟨h, 2, none⟩ = some c' ∧ W.cell? ⟨h, 3, none⟩ = some d' ∧ W.cell? ⟨h, 4, none⟩ = some e') ∧ (W.cell? ⟨j, 0, none⟩ = some a2 ∧ W.cell? ⟨j, 1, none⟩ = some b2 ∧ W.cell? ⟨j, 2, none⟩ = some c2 ∧ W.cell? ⟨j, 3, none⟩ = some d2 ∧ W.cell? ⟨j, 4, none⟩ = some e2) := ⟨vd_row o, vd_row p, vd_row q⟩
theorem own_vdsL {w : World} {base l : Nat} {v : Value} {vs : List Vd} (hl : vs.length = l) (h : w.ownsRow base 26 5 v l (flatV vs)) (ho : ∀ x ∈ vs, x.Ok w w.heap.size) : ∃ A c, v = .slice A l c ∧ Vds w w.heap.size A l vs := by
  subst hl
  exact own_vds h ho
theorem vparts_two {W : World} {j : Nat} {T : TypeId} {A1 A2 : Option Addr} {n1 c1 n2 c2 : Nat} {aa bs : List Vd} (ho : Own W j T #[.slice A1 n1 c1, .slice A2 n2 c2]) (h1 : Vds W W.heap.size A1 n1 aa) (h2 : Vds W W.heap.size A2 n2 bs) :
    VParts W W.heap.size (some ⟨j, 0, none⟩) 2 [⟨A1, n1, c1, aa⟩, ⟨A2, n2, c2, bs⟩] := by
  refine ⟨rfl, fun p hp => ?_, Shows.of_owned (xs := [.slice A1 n1 c1, .slice A2 n2 c2]) ho ho.lt⟩
  simp only [List.mem_cons, List.not_mem_nil, or_false] at hp
  rcases hp with rfl | rfl
  · exact h1
  · exact h2
theorem vds_two {W : World} {g : Nat} {T : TypeId} {x y : Vd} (h : Own W g T (vdc x ++ vdc y)) (hx : x.Ok W W.heap.size) (hy : y.Ok W W.heap.size) : Vds W W.heap.size (some ⟨g, 0, none⟩) 2 [x, y] := by
  refine ⟨rfl, fun v hv => ?_, .inr ⟨g, 0, rfl, h.lt, fun i v hi j u hu => ?_⟩⟩
  · simp only [List.mem_cons, List.not_mem_nil, or_false] at hv
    rcases hv with rfl | rfl
    · exact hx
    · exact hy
  · have hi0 : i < 2 := (List.getElem?_eq_some_iff.1 hi).1
    have hj : j < 5 := (List.getElem?_eq_some_iff.1 hu).1
    have hs : (vdc x).size = 5 := rfl
    rcases (by omega : i = 0 ∨ i = 1) with rfl | rfl
    · obtain rfl : x = v := by simpa using hi
      refine h.cell ?_
      rw [Array.getElem?_append_left (by omega)]
      simpa using hu
    · obtain rfl : y = v := by simpa using hi
      refine h.cell ?_
      rw [Array.getElem?_append_right (by omega), hs]
      simpa using hu
set_option maxRecDepth 100000 in
set_option maxHeartbeats 1600000 in
theorem ffolds_al (A B : Option Addr) (n c m d : Nat) (w : World) (ht : Tens w) (P Q : Bool) (h : P = false ∨ Q = false)
    (hP : Hid (∀ W, Below w.heap.size w W → Calls Tryd.prog 17 #[.slice A n c] W fun e w' => e = .returned (.bool P) ∧ Below W.heap.size W w'))
    (hQ : Hid (∀ W, Below w.heap.size w W → Calls Tryd.prog 17 #[.slice B m d] W fun e w' => e = .returned (.bool Q) ∧ Below W.heap.size W w')) :
    Calls Tryd.prog 4 #[.slice A n c, .slice B m d] w fun e w' => e = .returned (.bool true) ∧ Below w.heap.size w w' := by
  cases P
  · clear h
    go_enter Tryd.func4, Tryd.ntmps4
    go_wp2_with fail
    refine (hP.out _ (bl_refl w)).mono ?_
    rintro e w1 ⟨rfl, hb1⟩
    go_wp2_with fail
    refine (alive11_any _ (ht.below hb1)).mono ?_
    rintro e w2 ⟨rfl, hb2⟩
    go_wp2
    go_ret
    exact ⟨rfl, bl_trans hb1 hb2⟩
  · obtain rfl : Q = false := by simpa using h
    clear h
    go_enter Tryd.func4, Tryd.ntmps4
    go_wp2_with fail
    refine (hP.out _ (bl_refl w)).mono ?_
    rintro e w1 ⟨rfl, hb1⟩
    go_wp2_with fail
    refine (hQ.out _ hb1).mono ?_
    rintro e w2 ⟨rfl, hb2⟩
    have hb3 := bl_trans hb1 hb2
    go_wp2_with fail
    refine (alive11_any _ (ht.below hb3)).mono ?_
    rintro e w3 ⟨rfl, hb4⟩
    go_wp2
    go_ret
    exact ⟨rfl, bl_trans hb3 hb4⟩
set_option maxRecDepth 100000 in
set_option maxHeartbeats 12800000 in
theorem ffolds_main (A B : Option Addr) (n c m d : Nat) (va vb : List Vd) (w : World) (ht : Tens w) (ha : Vds w w.heap.size A n va) (hb : Vds w w.heap.size B m vb) (hn : n ≤ 50) (hm : m ≤ 50) (sa : ∀ v ∈ va, v.n ≤ 200) (sb : ∀ v ∈ vb, v.n ≤ 200)
    (hP : Hid (∀ W, Below w.heap.size w W → Calls Tryd.prog 17 #[.slice A n c] W fun e w' => e = .returned (.bool true) ∧ Below W.heap.size W w'))
    (hQ : Hid (∀ W, Below w.heap.size w W → Calls Tryd.prog 17 #[.slice B m d] W fun e w' => e = .returned (.bool true) ∧ Below W.heap.size W w')) :
    Calls Tryd.prog 4 #[.slice A n c, .slice B m d] w fun e w' => e = .returned (.bool true) ∧ Below w.heap.size w w' := by
  have HA := Lib.hid (fun (W : World) (h : Below w.heap.size w W) => (ha.below h).more h.size)
  have HB := Lib.hid (fun (W : World) (h : Below w.heap.size w W) => (hb.below h).more h.size)
  have hFa := Lib.hid (fun (W : World) (h : Below w.heap.size w W) => ffold_any A n c va W (HA.out W h) (by unfold maxLen; omega) (fun v hv => by have := sa v hv; omega))
  have hFb := Lib.hid (fun (W : World) (h : Below w.heap.size w W) => ffold_any B m d vb W (HB.out W h) (by unfold maxLen; omega) (fun v hv => by have := sb v hv; omega))
  have hRa := Lib.hid (fun (W : World) (h : Below w.heap.size w W) => rfold_any A n c va W (HA.out W h) (by unfold maxLen; omega))
  have hRb := Lib.hid (fun (W : World) (h : Below w.heap.size w W) => rfold_any B m d vb W (HB.out W h) (by unfold maxLen; omega))
  have hfl : vflat [⟨A, n, c, va⟩, ⟨B, m, d, vb⟩] = va ++ vb := by unfold vflat; simp
  have hlenA := ha.1
  have hlenB := hb.1
  have hCC := Lib.hid (fun (W : World) (h : Below w.heap.size w W) (j : Nat) (ho : Own W j 40 #[.slice A n c, .slice B m d]) => vconcat_any (some ⟨j, 0, none⟩) 2 2 [⟨A, n, c, va⟩, ⟨B, m, d, vb⟩] W (vparts_two ho (HA.out W h) (HB.out W h)) (by omega) (by rw [hfl, List.length_append]; omega))
  rw [hfl] at hCC
  have hOkL := Lib.hid (fun (W : World) (h : Below w.heap.size w W) => show ∀ x ∈ va ++ vb, x.Ok W W.heap.size from fun x hx => by
    rcases List.mem_append.1 hx with hx | hx
    · exact (HA.out W h).2.1 x hx
    · exact (HB.out W h).2.1 x hx)
  have hsL := Lib.hid (show ∀ v ∈ va ++ vb, v.n ≤ 1000000 from fun x hx => by
    rcases List.mem_append.1 hx with hx | hx
    · have := sa x hx; omega
    · have := sb x hx; omega)
  have hlen := Lib.hid (show (va ++ vb).length ≤ 100 by rw [List.length_append]; omega)
  have hfa := Lib.hid (fun (W : World) (h : Below w.heap.size w W) => foldV_ok (HA.out W h).2.1)
  have hfb := Lib.hid (fun (W : World) (h : Below w.heap.size w W) => foldV_ok (HB.out W h).2.1)
  have hfab := Lib.hid (fun (W : World) (h : Below w.heap.size w W) => foldV_ok (hOkL.out W h))
  have hwor := Lib.hid (show n ≠ 0 → m ≠ 0 → foldV (va ++ vb) = wor (foldV va) (foldV vb) from fun h1 h2 => fold_app (fun e => h1 (by rw [hlenA, e]; rfl)) (fun e => h2 (by rw [hlenB, e]; rfl)))
  have hna := Lib.hid (show (foldV va).n ≤ 200 by
    unfold foldV
    cases hf : va.find? (bestV va) with
    | none => decide
    | some v => exact sa v (List.mem_of_find?_eq_some hf))
  have hnb := Lib.hid (show (foldV vb).n ≤ 200 by
    unfold foldV
    cases hf : vb.find? (bestV vb) with
    | none => decide
    | some v => exact sb v (List.mem_of_find?_eq_some hf))
  clear ha hb sa sb hfl hlenA hlenB HA HB
  generalize foldV va = fa at *
  generalize foldV vb = fb at *
  generalize hLL : va ++ vb = L at *
  clear hLL
  go_enter Tryd.func4, Tryd.ntmps4
  go_wp2_with fail
  refine (hP.out _ (bl_refl w)).mono ?_
  rintro e w1 ⟨rfl, hb1⟩
  go_wp2_with fail
  refine (hQ.out _ hb1).mono ?_
  rintro e w2 ⟨rfl, hb2⟩
  have hb3 := bl_trans hb1 hb2
  clear hb1 hb2
  go_wp2_with fail
  refine (hFa.out _ hb3).mono ?_
  rintro e w3 ⟨v1, rfl, ok1, sm1, nn1, _, hb4⟩
  have hb5 := bl_trans hb3 hb4
  clear hb3 hb4
  go_wp2_with fail
  refine (hFb.out _ hb5).mono ?_
  rintro e w4 ⟨v2, rfl, ok2, sm2, nn2, _, hb6⟩
  have hb7 := bl_trans hb5 hb6
  have ok1' := (ok1.below hb6).more hb6.size
  clear hb5 hb6 ok1
  have HK1 := Lib.hid (And.intro ok1' (And.intro sm1 nn1))
  have HK2 := Lib.hid (And.intro ok2 (And.intro sm2 nn2))
  clear ok1' sm1 nn1 ok2 sm2 nn2
  obtain ⟨k1, c1, s1, A1, n1, cp1, xs1, t1⟩ := v1
  obtain ⟨k2, c2, s2, A2, n2, cp2, xs2, t2⟩ := v2
  unfold vdc
  dsimp only at *
  have o5 := ((Own.new w4 26 #[.int .i64 k1, .int .i64 c1, .int .i64 s1, .slice A1 n1 cp1, .int .i64 t1]).alloc (.cells #[.int .i64 k2, .int .i64 c2, .int .i64 s2, .slice A2 n2 cp2, .int .i64 t2] 26)).alloc (.cells #[.slice A n c, .slice B m d] 40)
  have o6 := (Own.new (w4.alloc (.cells #[.int .i64 k1, .int .i64 c1, .int .i64 s1, .slice A1 n1 cp1, .int .i64 t1] 26)) 26 #[.int .i64 k2, .int .i64 c2, .int .i64 s2, .slice A2 n2 cp2, .int .i64 t2]).alloc (.cells #[.slice A n c, .slice B m d] 40)
  have oP := Own.new ((w4.alloc (.cells #[.int .i64 k1, .int .i64 c1, .int .i64 s1, .slice A1 n1 cp1, .int .i64 t1] 26)).alloc (.cells #[.int .i64 k2, .int .i64 c2, .int .i64 s2, .slice A2 n2 cp2, .int .i64 t2] 26)) 40 #[.slice A n c, .slice B m d]
  rw [show (w4.alloc (.cells #[.int .i64 k1, .int .i64 c1, .int .i64 s1, .slice A1 n1 cp1, .int .i64 t1] 26)).heap.size = w4.heap.size + 1 by simp] at o6
  rw [show ((w4.alloc (.cells #[.int .i64 k1, .int .i64 c1, .int .i64 s1, .slice A1 n1 cp1, .int .i64 t1] 26)).alloc (.cells #[.int .i64 k2, .int .i64 c2, .int .i64 s2, .slice A2 n2 cp2, .int .i64 t2] 26)).heap.size = w4.heap.size + 1 + 1 by simp] at oP
  have hal : Below w4.heap.size w4 (((w4.alloc (.cells #[.int .i64 k1, .int .i64 c1, .int .i64 s1, .slice A1 n1 cp1, .int .i64 t1] 26)).alloc (.cells #[.int .i64 k2, .int .i64 c2, .int .i64 s2, .slice A2 n2 cp2, .int .i64 t2] 26)).alloc (.cells #[.slice A n c, .slice B m d] 40)) := bl_alloc (bl_alloc (bl_alloc (bl_refl w4) _) _) _
  have hb8 := bl_trans hb7 hal
  go_wp2_with fail
  generalize ((w4.alloc (.cells #[.int .i64 k1, .int .i64 c1, .int .i64 s1, .slice A1 n1 cp1, .int .i64 t1] 26)).alloc (.cells #[.int .i64 k2, .int .i64 c2, .int .i64 s2, .slice A2 n2 cp2, .int .i64 t2] 26)).alloc (.cells #[.slice A n c, .slice B m d] 40) = W5 at *
  refine (hCC.out _ hb8 _ oP).mono ?_
  rintro e w6 ⟨v, rfl, hown, hb9⟩
  have hb10 := bl_trans hb8 hb9
  obtain ⟨AL, cL, rfl, hVL⟩ := own_vds hown (hOkL.out _ hb10)
  have q5 := o5.step hb9
  have q6 := o6.step hb9
  have hal2 := bl_trans hal hb9
  clear o5 o6 oP hown hb8 hb9 hal
  generalize hl : L.length = l at *
  have HL := Lib.hid hl
  clear hl
  have hll := hlen.out
  go_wp2_with fail
  refine (ffold_any AL l cL L _ hVL (by unfold maxLen; omega) hsL.out).mono ?_
  rintro e w7 ⟨v3, rfl, ok3, sm3, nn3, _, hb11⟩
  have HK3 := Lib.hid (And.intro ok3 (And.intro sm3 nn3))
  clear ok3 sm3 nn3 hVL
  obtain ⟨k3, c3, s3, A3, n3, cp3, xs3, t3⟩ := v3
  unfold vdc
  dsimp only at *
  have p5 := (q5.step hb11).alloc (.cells #[.int .i64 k3, .int .i64 c3, .int .i64 s3, .slice A3 n3 cp3, .int .i64 t3] 26)
  have p6 := (q6.step hb11).alloc (.cells #[.int .i64 k3, .int .i64 c3, .int .i64 s3, .slice A3 n3 cp3, .int .i64 t3] 26)
  have p7 := Own.new w7 26 #[.int .i64 k3, .int .i64 c3, .int .i64 s3, .slice A3 n3 cp3, .int .i64 t3]
  have hb12 := bl_alloc (bl_trans hb10 hb11) (.cells #[.int .i64 k3, .int .i64 c3, .int .i64 s3, .slice A3 n3 cp3, .int .i64 t3] 26)
  have hal3 := bl_alloc (bl_trans hal2 hb11) (.cells #[.int .i64 k3, .int .i64 c3, .int .i64 s3, .slice A3 n3 cp3, .int .i64 t3] 26)
  have hal7 := bl_alloc (bl_refl w7) (.cells #[.int .i64 k3, .int .i64 c3, .int .i64 s3, .slice A3 n3 cp3, .int .i64 t3] 26)
  clear q5 q6 hb10 hb11 hal2
  go_wp2_with fail
  generalize w7.alloc (.cells #[.int .i64 k3, .int .i64 c3, .int .i64 s3, .slice A3 n3 cp3, .int .i64 t3] 26) = Y at *
  generalize w4.heap.size + 1 = g6 at *
  have K1 := Lib.hid (show ∀ W : World, Below Y.heap.size Y W → Vd.Ok W W.heap.size ⟨k1, c1, s1, A1, n1, cp1, xs1, t1⟩ from fun W h => (((HK1.out.1.below hal3).more hal3.size).below h).more h.size)
  have K2 := Lib.hid (show ∀ W : World, Below Y.heap.size Y W → Vd.Ok W W.heap.size ⟨k2, c2, s2, A2, n2, cp2, xs2, t2⟩ from fun W h => (((HK2.out.1.below hal3).more hal3.size).below h).more h.size)
  have K3 := Lib.hid (show ∀ W : World, Below Y.heap.size Y W → Vd.Ok W W.heap.size ⟨k3, c3, s3, A3, n3, cp3, xs3, t3⟩ from fun W h => (((HK3.out.1.below hal7).more hal7.size).below h).more h.size)
  have sA := Lib.hid (show ∀ W : World, Below Y.heap.size Y W → Calls Tryd.prog 21 #[.agg #[.int .i64 k1, .int .i64 c1, .int .i64 s1, .slice A1 n1 cp1, .int .i64 t1], .agg (vdc fa)] W (fun e w' => e = .returned (.bool true) ∧ Below W.heap.size W w') from fun W h => (rsame4_any ⟨k1, c1, s1, A1, n1, cp1, xs1, t1⟩ fa W (K1.out W h) (hfa.out W (bl_trans hb12 h))).mono (fun e w' q => ⟨by rw [q.1, vSame_symm HK1.out.2.1], q.2⟩))
  have sB := Lib.hid (show ∀ W : World, Below Y.heap.size Y W → Calls Tryd.prog 21 #[.agg #[.int .i64 k2, .int .i64 c2, .int .i64 s2, .slice A2 n2 cp2, .int .i64 t2], .agg (vdc fb)] W (fun e w' => e = .returned (.bool true) ∧ Below W.heap.size W w') from fun W h => (rsame4_any ⟨k2, c2, s2, A2, n2, cp2, xs2, t2⟩ fb W (K2.out W h) (hfb.out W (bl_trans hb12 h))).mono (fun e w' q => ⟨by rw [q.1, vSame_symm HK2.out.2.1], q.2⟩))
  have sC := Lib.hid (show ∀ W : World, Below Y.heap.size Y W → Calls Tryd.prog 21 #[.agg #[.int .i64 k3, .int .i64 c3, .int .i64 s3, .slice A3 n3 cp3, .int .i64 t3], .agg (vdc (foldV L))] W (fun e w' => e = .returned (.bool true) ∧ Below W.heap.size W w') from fun W h => (rsame4_any ⟨k3, c3, s3, A3, n3, cp3, xs3, t3⟩ (foldV L) W (K3.out W h) (hfab.out W (bl_trans hb12 h))).mono (fun e w' q => ⟨by rw [q.1, vSame_symm HK3.out.2.1], q.2⟩))
  have sD := Lib.hid (show ∀ (W : World) (_ : Below Y.heap.size Y W) (v4 : Vd) (_ : v4.Ok W W.heap.size) (_ : vSame (foldV [⟨k1, c1, s1, A1, n1, cp1, xs1, t1⟩, ⟨k2, c2, s2, A2, n2, cp2, xs2, t2⟩]) v4 = true) (_ : n ≠ 0) (_ : m ≠ 0), Calls Tryd.prog 21 #[.agg #[.int .i64 k3, .int .i64 c3, .int .i64 s3, .slice A3 n3 cp3, .int .i64 t3], .agg (vdc v4)] W (fun e w' => e = .returned (.bool true) ∧ Below W.heap.size W w') from fun W h v4 hk4 h4 h1 h2 => (rsame4_any ⟨k3, c3, s3, A3, n3, cp3, xs3, t3⟩ v4 W (K3.out W h) hk4).mono (fun e w' q => ⟨by
    rw [q.1]
    have e1 := vSame_symm HK3.out.2.1
    rw [hwor.out h1 h2] at e1
    have e2 := wor_same HK1.out.2.1 HK2.out.2.1
    rw [fold_two] at h4
    rw [vSame_trans e1 (vSame_trans e2 h4)], q.2⟩))
  have hn1 := Lib.hid (show n1 ≤ 1000000 by have := HK1.out.2.2; have := hna.out; omega)
  have hn2 := Lib.hid (show n2 ≤ 1000000 by have := HK2.out.2.2; have := hnb.out; omega)
  have o5 := p5
  have o6 := p6
  have o7 := p7
  clear p5 p6 p7 hal3 hal7 HK1 HK2 HK3
  generalize w4.heap.size = g5 at *
  generalize w7.heap.size = g7 at *
  have y0 := (bl_refl Y).drew
  have HS0 := own_15 o5.drew o6.drew o7.drew
  go_region_held3 (fun W => (W.cell? ⟨g5, 0, none⟩ = some (.int .i64 k1) ∧ W.cell? ⟨g5, 1, none⟩ = some (.int .i64 c1) ∧ W.cell? ⟨g5, 2, none⟩ = some (.int .i64 s1) ∧ W.cell? ⟨g5, 3, none⟩ = some (.slice A1 n1 cp1) ∧ W.cell? ⟨g5, 4, none⟩ = some (.int .i64 t1)) ∧ (W.cell? ⟨g6, 0, none⟩ = some (.int .i64 k2) ∧ W.cell? ⟨g6, 1, none⟩ = some (.int .i64 c2) ∧ W.cell? ⟨g6, 2, none⟩ = some (.int .i64 s2) ∧ W.cell? ⟨g6, 3, none⟩ = some (.slice A2 n2 cp2) ∧ W.cell? ⟨g6, 4, none⟩ = some (.int .i64 t2)) ∧ (W.cell? ⟨g7, 0, none⟩ = some (.int .i64 k3) ∧ W.cell? ⟨g7, 1, none⟩ = some (.int .i64 c3) ∧ W.cell? ⟨g7, 2, none⟩ = some (.int .i64 s3) ∧ W.cell? ⟨g7, 3, none⟩ = some (.slice A3 n3 cp3) ∧ W.cell? ⟨g7, 4, none⟩ = some (.int .i64 t3))) (with_reducible first | exact HS0 | exact HS1 | exact HS2 | exact HS3 | exact HS4 | exact HSA | exact HS5 | exact HS6 | exact HS7) ((first
    | (go_at_call 22; (with_reducible refine (hRa.out _ (bl_trans hb12 y0)).mono ?_); rintro e m1 ⟨rfl, z1⟩; have y1 := bl_trans y0 z1; have HS1 := own_15 (o5.step y1) (o6.step y1) (o7.step y1))
    | (go_at_call 21; (with_reducible refine (sA.out _ y1).mono ?_); rintro e m2 ⟨rfl, z2⟩; have y2 := bl_trans y1 z2; have HS2 := own_15 (o5.step y2) (o6.step y2) (o7.step y2))
    | (go_at_call 22; (with_reducible refine (hRb.out _ (bl_trans hb12 y2)).mono ?_); rintro e m3 ⟨rfl, z3⟩; have y3 := bl_trans y2 z3; have HS3 := own_15 (o5.step y3) (o6.step y3) (o7.step y3))
    | (go_at_call 21; (with_reducible refine (sB.out _ y3).mono ?_); rintro e m4 ⟨rfl, z4⟩; have y4 := bl_trans y3 z4; have HS4 := own_15 (o5.step y4) (o6.step y4) (o7.step y4); have y4a := bl_alloc y4 (.cells #[.slice A n c, .slice B m d] 40); have oPa := Own.new m4 40 #[.slice A n c, .slice B m d]; have HSA := own_15 (o5.step y4a) (o6.step y4a) (o7.step y4a))
    | (go_at_call 20; (with_reducible refine (hCC.out _ (bl_trans hb12 y4a) _ oPa).mono ?_); rintro e m5 ⟨vx, rfl, hown5, z5⟩; have y5 := bl_trans y4a z5; have HS5 := own_15 (o5.step y5) (o6.step y5) (o7.step y5); obtain ⟨AX, cX, rfl, hVX⟩ := own_vdsL HL.out hown5 (hOkL.out _ (bl_trans hb12 y5)))
    | (go_at_call 22; (with_reducible refine (rfold_any AX l cX L _ hVX (by unfold maxLen; omega)).mono ?_); rintro e m6 ⟨rfl, z6⟩; have y6 := bl_trans y5 z6; have HS6 := own_15 (o5.step y6) (o6.step y6) (o7.step y6))
    | (go_at_call 21; (with_reducible refine (sC.out _ y6).mono ?_); rintro e m7 ⟨rfl, z7⟩; have y7 := bl_trans y6 z7; have HS7 := own_15 (o5.step y7) (o6.step y7) (o7.step y7))))
  have r5 := o5.step y7
  have r6 := o6.step y7
  have r7 := o7.step y7
  have hbT := bl_trans hb12 y7
  clear HS0 HS1 HS2 HS3 HS4 HSA HS5 HS6 HS7 o5 o6 o7
  by_cases hn0 : n = 0
  · subst hn0
    go_wp2_with fail
    have al := Lib.hid (rg_of (w := m7) (fun W hW => alive11_any W (ht.below (bl_trans hbT hW))))
    refine wp_region_quiet_below (by kernel_rfl) (by kernel_rfl) ?_
    repeat (first
      | go_big_quiet_skip
      | go_big_quiet_step (with_reducible exact al.out _ _))
    refine wpQuiet_nil ?_
    first | rintro _ ⟨⟨dq, osq⟩, rfl⟩ | rintro ⟨dq, osq⟩
    have hbU := bl_trans hbT (below_regrown m7 dq osq)
    generalize grow (redrawn m7 dq) osq = U at *
    go_wp2
    go_ret
    exact ⟨rfl, hbU⟩
  · have dn : ((n : Int) == 0) = false := by simp; omega
    by_cases hm0 : m = 0
    · subst hm0
      go_wp2_with fail
      have al := Lib.hid (rg_of (w := m7) (fun W hW => alive11_any W (ht.below (bl_trans hbT hW))))
      refine wp_region_quiet_below (by kernel_rfl) (by kernel_rfl) ?_
      repeat (first
        | go_big_quiet_skip
        | go_big_quiet_step (with_reducible exact al.out _ _))
      refine wpQuiet_nil ?_
      first | rintro _ ⟨⟨dq, osq⟩, rfl⟩ | rintro ⟨dq, osq⟩
      have hbU := bl_trans hbT (below_regrown m7 dq osq)
      generalize grow (redrawn m7 dq) osq = U at *
      go_wp2
      go_ret
      exact ⟨rfl, hbU⟩
    · have dm : ((m : Int) == 0) = false := by simp; omega
      have HN0 := Lib.hid hn0
      have HM0 := Lib.hid hm0
      clear hn0 hm0
      go_wp2_with fail
      have x0 := (bl_refl m7).drew
      have HT0 := own_15 r5.drew r6.drew r7.drew
      go_region_held3 (fun W => (W.cell? ⟨g5, 0, none⟩ = some (.int .i64 k1) ∧ W.cell? ⟨g5, 1, none⟩ = some (.int .i64 c1) ∧ W.cell? ⟨g5, 2, none⟩ = some (.int .i64 s1) ∧ W.cell? ⟨g5, 3, none⟩ = some (.slice A1 n1 cp1) ∧ W.cell? ⟨g5, 4, none⟩ = some (.int .i64 t1)) ∧ (W.cell? ⟨g6, 0, none⟩ = some (.int .i64 k2) ∧ W.cell? ⟨g6, 1, none⟩ = some (.int .i64 c2) ∧ W.cell? ⟨g6, 2, none⟩ = some (.int .i64 s2) ∧ W.cell? ⟨g6, 3, none⟩ = some (.slice A2 n2 cp2) ∧ W.cell? ⟨g6, 4, none⟩ = some (.int .i64 t2)) ∧ (W.cell? ⟨g7, 0, none⟩ = some (.int .i64 k3) ∧ W.cell? ⟨g7, 1, none⟩ = some (.int .i64 c3) ∧ W.cell? ⟨g7, 2, none⟩ = some (.int .i64 s3) ∧ W.cell? ⟨g7, 3, none⟩ = some (.slice A3 n3 cp3) ∧ W.cell? ⟨g7, 4, none⟩ = some (.int .i64 t3))) (with_reducible first | exact HT0 | exact HT1 | exact HTA | exact HT2 | exact HT3) ((first
        | (go_at_call 18; (with_reducible refine (alive11_any _ (ht.below (bl_trans hbT x0))).mono ?_); rintro e u1 ⟨rfl, z1⟩; have x1 := bl_trans x0 z1; have HT1 := own_15 (r5.step x1) (r6.step x1) (r7.step x1); have x1a := bl_alloc x1 (.cells #[.int .i64 k1, .int .i64 c1, .int .i64 s1, .slice A1 n1 cp1, .int .i64 t1, .int .i64 k2, .int .i64 c2, .int .i64 s2, .slice A2 n2 cp2, .int .i64 t2] 26); have oLa : Own (u1.alloc (.cells #[.int .i64 k1, .int .i64 c1, .int .i64 s1, .slice A1 n1 cp1, .int .i64 t1, .int .i64 k2, .int .i64 c2, .int .i64 s2, .slice A2 n2 cp2, .int .i64 t2] 26)) u1.heap.size 26 (vdc ⟨k1, c1, s1, A1, n1, cp1, xs1, t1⟩ ++ vdc ⟨k2, c2, s2, A2, n2, cp2, xs2, t2⟩) := Own.new u1 26 #[.int .i64 k1, .int .i64 c1, .int .i64 s1, .slice A1 n1 cp1, .int .i64 t1, .int .i64 k2, .int .i64 c2, .int .i64 s2, .slice A2 n2 cp2, .int .i64 t2]; have HTA := own_15 (r5.step x1a) (r6.step x1a) (r7.step x1a))
        | (go_at_call 19; (with_reducible refine (ffold_any _ 2 2 [⟨k1, c1, s1, A1, n1, cp1, xs1, t1⟩, ⟨k2, c2, s2, A2, n2, cp2, xs2, t2⟩] _ (vds_two oLa (K1.out _ (bl_trans y7 x1a)) (K2.out _ (bl_trans y7 x1a))) (by unfold maxLen; omega) (by intro v hv; simp only [List.mem_cons, List.not_mem_nil, or_false] at hv; rcases hv with rfl | rfl; exact hn1.out; exact hn2.out)).mono ?_); rintro e u2 ⟨v4, rfl, ok4, sm4, _, _, z2⟩; have x2 := bl_trans x1a z2; have HT2 := own_15 (r5.step x2) (r6.step x2) (r7.step x2))
        | (go_at_call 21; (with_reducible refine (sD.out _ (bl_trans y7 x2) v4 ok4 sm4 HN0.out HM0.out).mono ?_); rintro e u3 ⟨rfl, z3⟩; have x3 := bl_trans x2 z3; have HT3 := own_15 (r5.step x3) (r6.step x3) (r7.step x3))))
      go_wp2
      go_ret
      exact ⟨rfl, bl_trans hbT x3⟩
set_option maxRecDepth 100000 in
theorem ffolds_walk (A B : Option Addr) (n c m d : Nat) (va vb : List Vd) (w : World) (ht : Tens w) (ha : Vds w w.heap.size A n va) (hb : Vds w w.heap.size B m vb) (hn : n ≤ maxLen) (hm : m ≤ maxLen) : Calls Tryd.prog 4 #[.slice A n c, .slice B m d] w fun e w' => e = .returned (.bool true) ∧ Below w.heap.size w w' := by
  have hP := Lib.hid (fun (W : World) (h : Below w.heap.size w W) => few11_any A n c va W ((ha.below h).more h.size) hn)
  have hQ := Lib.hid (fun (W : World) (h : Below w.heap.size w W) => few11_any B m d vb W ((hb.below h).more h.size) hm)
  cases hp : fewV va with
  | false => rw [hp] at hP; exact ffolds_al A B n c m d w ht false (fewV vb) (.inl rfl) hP hQ
  | true =>
    rw [hp] at hP
    cases hq : fewV vb with
    | false => rw [hq] at hQ; exact ffolds_al A B n c m d w ht true false (.inr rfl) hP hQ
    | true =>
      rw [hq] at hQ
      unfold fewV smallV at hp hq
      simp only [Bool.and_eq_true, List.all_eq_true, decide_eq_true_eq] at hp hq
      exact ffolds_main A B n c m d va vb w ht ha hb (by rw [ha.1]; exact hp.2) (by rw [hb.1]; exact hq.2) hp.1 hq.1 hP hQ
end Go.Proofs.YtaopinecidddkaaDoor
