/- FindingOrders -/
import Derived.Test.YtiehbmhekncbhaaDoorVs
import Derived.Test.YtiehbmhekncbhaaDoorFnF
namespace Go.Proofs.YtiehbmhekncbhaaDoor
open Go.RowKit Go.Sort

theorem worse_facts (a b c : Vd) : vWorse a a = false ∧ (vWorse a b = true → vWorse b a = false) ∧ (vWorse a b = false → vWorse b a = false → a.k = b.k ∧ a.t = b.t) ∧ (vWorse a b = true → vWorse b c = true → vWorse a c = true) := by
  unfold vWorse
  simp only [decide_eq_true_eq, decide_eq_false_iff_not]
  refine ⟨by omega, by omega, by omega, by omega⟩
theorem same_self (a : Vd) : vSame a a = true := by simp [vSame]
theorem vds_three {W : World} {g : Nat} {T : TypeId} {v1 v2 v3 : Vd} (h : Own W g T (vdc v1 ++ vdc v2 ++ vdc v3)) (h1 : v1.Ok W W.heap.size) (h2 : v2.Ok W W.heap.size) (h3 : v3.Ok W W.heap.size) : Vds W W.heap.size (some ⟨g, 0, none⟩) 3 [v1, v2, v3] := by
  refine ⟨rfl, ?_, .inr ⟨g, 0, rfl, h.lt, ?_⟩⟩
  · intro v hv
    simp only [List.mem_cons, List.not_mem_nil, or_false] at hv
    rcases hv with rfl | rfl | rfl <;> assumption
  · intro i v hi j u hu
    refine h.cell ?_
    have hj : j < 5 := (List.getElem?_eq_some_iff.1 hu).1
    match i, hi with
    | 0, hi =>
      obtain rfl : v1 = v := by simpa using hi
      rw [← Array.getElem?_toList, Array.toList_append, Array.toList_append, List.append_assoc, List.getElem?_append_left (by show 0 + 0 * 5 + j < 5; omega), show 0 + 0 * 5 + j = j by omega]
      exact hu
    | 1, hi =>
      obtain rfl : v2 = v := by simpa using hi
      rw [← Array.getElem?_toList, Array.toList_append, Array.toList_append, List.append_assoc, List.getElem?_append_right (by show 5 ≤ 0 + 1 * 5 + j; omega), List.getElem?_append_left (by show 0 + 1 * 5 + j - 5 < 5; omega), show 0 + 1 * 5 + j - (vdc v1).toList.length = j by show 0 + 1 * 5 + j - 5 = j; omega]
      exact hu
    | 2, hi =>
      obtain rfl : v3 = v := by simpa using hi
      rw [← Array.getElem?_toList, Array.toList_append, Array.toList_append, List.append_assoc, List.getElem?_append_right (by show 5 ≤ 0 + 2 * 5 + j; omega), List.getElem?_append_right (by show 5 ≤ 0 + 2 * 5 + j - 5; omega), show 0 + 2 * 5 + j - (vdc v1).toList.length - (vdc v2).toList.length = j by show 0 + 2 * 5 + j - 5 - 5 = j; omega]
      exact hu
    | i + 3, hi => simp at hi
set_option maxRecDepth 100000 in
set_option maxHeartbeats 1600000 in
theorem forders_walk (k1 c1 s1 t1 k2 c2 s2 t2 k3 c3 s3 t3 : Int) (A1 A2 A3 : Option Addr) (n1 p1 n2 p2 n3 p3 : Nat) (w : World) (ht : Tens w) (q b12 b21 b23 b13 sm : Bool)
    (w12 : Hid (∀ W, Below w.heap.size w W → Calls Tryd.prog 38 #[.agg #[.int .i64 k1, .int .i64 c1, .int .i64 s1, .slice A1 n1 p1, .int .i64 t1], .agg #[.int .i64 k2, .int .i64 c2, .int .i64 s2, .slice A2 n2 p2, .int .i64 t2]] W fun e w' => e = .returned (.bool b12) ∧ Below W.heap.size W w'))
    (w21 : Hid (∀ W, Below w.heap.size w W → Calls Tryd.prog 38 #[.agg #[.int .i64 k2, .int .i64 c2, .int .i64 s2, .slice A2 n2 p2, .int .i64 t2], .agg #[.int .i64 k1, .int .i64 c1, .int .i64 s1, .slice A1 n1 p1, .int .i64 t1]] W fun e w' => e = .returned (.bool b21) ∧ Below W.heap.size W w'))
    (w23 : Hid (∀ W, Below w.heap.size w W → Calls Tryd.prog 38 #[.agg #[.int .i64 k2, .int .i64 c2, .int .i64 s2, .slice A2 n2 p2, .int .i64 t2], .agg #[.int .i64 k3, .int .i64 c3, .int .i64 s3, .slice A3 n3 p3, .int .i64 t3]] W fun e w' => e = .returned (.bool b23) ∧ Below W.heap.size W w'))
    (w13 : Hid (∀ W, Below w.heap.size w W → Calls Tryd.prog 38 #[.agg #[.int .i64 k1, .int .i64 c1, .int .i64 s1, .slice A1 n1 p1, .int .i64 t1], .agg #[.int .i64 k3, .int .i64 c3, .int .i64 s3, .slice A3 n3 p3, .int .i64 t3]] W fun e w' => e = .returned (.bool b13) ∧ Below W.heap.size W w'))
    (w11 : Hid (∀ W, Below w.heap.size w W → Calls Tryd.prog 38 #[.agg #[.int .i64 k1, .int .i64 c1, .int .i64 s1, .slice A1 n1 p1, .int .i64 t1], .agg #[.int .i64 k1, .int .i64 c1, .int .i64 s1, .slice A1 n1 p1, .int .i64 t1]] W fun e w' => e = .returned (.bool false) ∧ Below W.heap.size W w'))
    (r12 : Hid (∀ W, Below w.heap.size w W → Calls Tryd.prog 39 #[.agg #[.int .i64 k1, .int .i64 c1, .int .i64 s1, .slice A1 n1 p1, .int .i64 t1], .agg #[.int .i64 k2, .int .i64 c2, .int .i64 s2, .slice A2 n2 p2, .int .i64 t2]] W fun e w' => e = .returned (.bool b12) ∧ Below W.heap.size W w'))
    (r21 : Hid (∀ W, Below w.heap.size w W → Calls Tryd.prog 39 #[.agg #[.int .i64 k2, .int .i64 c2, .int .i64 s2, .slice A2 n2 p2, .int .i64 t2], .agg #[.int .i64 k1, .int .i64 c1, .int .i64 s1, .slice A1 n1 p1, .int .i64 t1]] W fun e w' => e = .returned (.bool b21) ∧ Below W.heap.size W w'))
    (m12 : Hid (∀ W, Below w.heap.size w W → Calls Tryd.prog 40 #[.agg #[.int .i64 k1, .int .i64 c1, .int .i64 s1, .slice A1 n1 p1, .int .i64 t1], .agg #[.int .i64 k2, .int .i64 c2, .int .i64 s2, .slice A2 n2 p2, .int .i64 t2]] W fun e w' => e = .returned (.bool sm) ∧ Below W.heap.size W w'))
    (e12 : Hid (∀ W, Below w.heap.size w W → Calls Tryd.prog 41 #[.agg #[.int .i64 k1, .int .i64 c1, .int .i64 s1, .slice A1 n1 p1, .int .i64 t1], .agg #[.int .i64 k2, .int .i64 c2, .int .i64 s2, .slice A2 n2 p2, .int .i64 t2]] W fun e w' => e = .returned (.bool sm) ∧ Below W.heap.size W w'))
    (m11 : Hid (∀ W, Below w.heap.size w W → Calls Tryd.prog 40 #[.agg #[.int .i64 k1, .int .i64 c1, .int .i64 s1, .slice A1 n1 p1, .int .i64 t1], .agg #[.int .i64 k1, .int .i64 c1, .int .i64 s1, .slice A1 n1 p1, .int .i64 t1]] W fun e w' => e = .returned (.bool true) ∧ Below W.heap.size W w'))
    (hq : Hid (∀ W, Below w.heap.size w W → ∀ g, Own W g 51 (#[.int .i64 k1, .int .i64 c1, .int .i64 s1, .slice A1 n1 p1, .int .i64 t1] ++ #[.int .i64 k2, .int .i64 c2, .int .i64 s2, .slice A2 n2 p2, .int .i64 t2] ++ #[.int .i64 k3, .int .i64 c3, .int .i64 s3, .slice A3 n3 p3, .int .i64 t3]) → Calls Tryd.prog 36 #[.slice (some ⟨g, 0, none⟩) 3 3] W fun e w' => e = .returned (.bool q) ∧ Below W.heap.size W w'))
    (f1 : Hid (b12 = true → b21 = false)) (f2 : Hid (b12 = false → b21 = false → k1 = k2 ∧ t1 = t2)) (f3 : Hid (b12 = true → b23 = true → b13 = true)) :
    Calls Tryd.prog 9 #[.agg #[.int .i64 k1, .int .i64 c1, .int .i64 s1, .slice A1 n1 p1, .int .i64 t1], .agg #[.int .i64 k2, .int .i64 c2, .int .i64 s2, .slice A2 n2 p2, .int .i64 t2], .agg #[.int .i64 k3, .int .i64 c3, .int .i64 s3, .slice A3 n3 p3, .int .i64 t3]] w fun e w' => e = .returned (.bool true) ∧ Below w.heap.size w w' := by
  have hb := bl_alloc (bl_alloc (bl_alloc (bl_refl w) (.cells #[.int .i64 k1, .int .i64 c1, .int .i64 s1, .slice A1 n1 p1, .int .i64 t1] 51)) (.cells #[.int .i64 k2, .int .i64 c2, .int .i64 s2, .slice A2 n2 p2, .int .i64 t2] 51)) (.cells #[.int .i64 k3, .int .i64 c3, .int .i64 s3, .slice A3 n3 p3, .int .i64 t3] 51)
  have o1 := ((Own.new w 51 #[.int .i64 k1, .int .i64 c1, .int .i64 s1, .slice A1 n1 p1, .int .i64 t1]).alloc (.cells #[.int .i64 k2, .int .i64 c2, .int .i64 s2, .slice A2 n2 p2, .int .i64 t2] 51)).alloc (.cells #[.int .i64 k3, .int .i64 c3, .int .i64 s3, .slice A3 n3 p3, .int .i64 t3] 51)
  have o2 := (Own.new (w.alloc (.cells #[.int .i64 k1, .int .i64 c1, .int .i64 s1, .slice A1 n1 p1, .int .i64 t1] 51)) 51 #[.int .i64 k2, .int .i64 c2, .int .i64 s2, .slice A2 n2 p2, .int .i64 t2]).alloc (.cells #[.int .i64 k3, .int .i64 c3, .int .i64 s3, .slice A3 n3 p3, .int .i64 t3] 51)
  have o3 := Own.new ((w.alloc (.cells #[.int .i64 k1, .int .i64 c1, .int .i64 s1, .slice A1 n1 p1, .int .i64 t1] 51)).alloc (.cells #[.int .i64 k2, .int .i64 c2, .int .i64 s2, .slice A2 n2 p2, .int .i64 t2] 51)) 51 #[.int .i64 k3, .int .i64 c3, .int .i64 s3, .slice A3 n3 p3, .int .i64 t3]
  rw [show (w.alloc (.cells #[.int .i64 k1, .int .i64 c1, .int .i64 s1, .slice A1 n1 p1, .int .i64 t1] 51)).heap.size = w.heap.size + 1 by simp] at o2
  rw [show ((w.alloc (.cells #[.int .i64 k1, .int .i64 c1, .int .i64 s1, .slice A1 n1 p1, .int .i64 t1] 51)).alloc (.cells #[.int .i64 k2, .int .i64 c2, .int .i64 s2, .slice A2 n2 p2, .int .i64 t2] 51)).heap.size = w.heap.size + 1 + 1 by simp] at o3
  go_enter Tryd.func9, Tryd.ntmps9
  go_wp2_with fail
  have o15 := Own.new (((w.alloc (.cells #[.int .i64 k1, .int .i64 c1, .int .i64 s1, .slice A1 n1 p1, .int .i64 t1] 51)).alloc (.cells #[.int .i64 k2, .int .i64 c2, .int .i64 s2, .slice A2 n2 p2, .int .i64 t2] 51)).alloc (.cells #[.int .i64 k3, .int .i64 c3, .int .i64 s3, .slice A3 n3 p3, .int .i64 t3] 51)) 51 #[.int .i64 k1, .int .i64 c1, .int .i64 s1, .slice A1 n1 p1, .int .i64 t1, .int .i64 k2, .int .i64 c2, .int .i64 s2, .slice A2 n2 p2, .int .i64 t2, .int .i64 k3, .int .i64 c3, .int .i64 s3, .slice A3 n3 p3, .int .i64 t3]
  rw [show (((w.alloc (.cells #[.int .i64 k1, .int .i64 c1, .int .i64 s1, .slice A1 n1 p1, .int .i64 t1] 51)).alloc (.cells #[.int .i64 k2, .int .i64 c2, .int .i64 s2, .slice A2 n2 p2, .int .i64 t2] 51)).alloc (.cells #[.int .i64 k3, .int .i64 c3, .int .i64 s3, .slice A3 n3 p3, .int .i64 t3] 51)).heap.size = w.heap.size + 1 + 1 + 1 by simp] at o15
  refine (hq.out _ (bl_alloc hb _) _ o15).mono ?_
  rintro e w5 ⟨rfl, hb5⟩
  have q1 := (o1.alloc (.cells #[.int .i64 k1, .int .i64 c1, .int .i64 s1, .slice A1 n1 p1, .int .i64 t1, .int .i64 k2, .int .i64 c2, .int .i64 s2, .slice A2 n2 p2, .int .i64 t2, .int .i64 k3, .int .i64 c3, .int .i64 s3, .slice A3 n3 p3, .int .i64 t3] 51)).step hb5
  have q2 := (o2.alloc (.cells #[.int .i64 k1, .int .i64 c1, .int .i64 s1, .slice A1 n1 p1, .int .i64 t1, .int .i64 k2, .int .i64 c2, .int .i64 s2, .slice A2 n2 p2, .int .i64 t2, .int .i64 k3, .int .i64 c3, .int .i64 s3, .slice A3 n3 p3, .int .i64 t3] 51)).step hb5
  have q3 := (o3.alloc (.cells #[.int .i64 k1, .int .i64 c1, .int .i64 s1, .slice A1 n1 p1, .int .i64 t1, .int .i64 k2, .int .i64 c2, .int .i64 s2, .slice A2 n2 p2, .int .i64 t2, .int .i64 k3, .int .i64 c3, .int .i64 s3, .slice A3 n3 p3, .int .i64 t3] 51)).step hb5
  have hb6 := bl_trans (bl_alloc hb (.cells #[.int .i64 k1, .int .i64 c1, .int .i64 s1, .slice A1 n1 p1, .int .i64 t1, .int .i64 k2, .int .i64 c2, .int .i64 s2, .slice A2 n2 p2, .int .i64 t2, .int .i64 k3, .int .i64 c3, .int .i64 s3, .slice A3 n3 p3, .int .i64 t3] 51)) hb5
  clear hb o1 o2 o3 o15 hb5 hq
  generalize w.heap.size + 1 + 1 = g3 at q3 ⊢
  generalize w.heap.size + 1 = g2 at q2 ⊢
  have ht6 := ht.below hb6
  cases q
  · go_wp2_with fail
    refine (alive11_any _ ht6).mono ?_
    rintro e w7 ⟨rfl, hb7⟩
    go_wp2
    go_ret
    exact ⟨rfl, bl_trans hb6 hb7⟩
  · go_wp2_with fail
    have a12 := Lib.hid (rg_of (w := w5) (fun W hW => w12.out W (bl_trans hb6 hW)))
    have a21 := Lib.hid (rg_of (w := w5) (fun W hW => w21.out W (bl_trans hb6 hW)))
    refine wp_region_quiet_below (by kernel_rfl) (by kernel_rfl) ?_
    repeat (first
      | (refine wpQuiet_load_row (by rfl) 51 _ rfl w.heap.size rfl 51 #[.int .i64 k1, .int .i64 c1, .int .i64 s1, .slice A1 n1 p1, .int .i64 t1] (.struct (Tryd.prog.fieldsOf 51)) q1.rg (by kernel_rfl) rfl (vd_info5 _ _ _ _ _) ?_; go_simp)
      | (refine wpQuiet_load_row (by rfl) 51 _ rfl g2 rfl 51 #[.int .i64 k2, .int .i64 c2, .int .i64 s2, .slice A2 n2 p2, .int .i64 t2] (.struct (Tryd.prog.fieldsOf 51)) q2.rg (by kernel_rfl) rfl (vd_info5 _ _ _ _ _) ?_; go_simp)
      | go_big_quiet_step (with_reducible first | exact a12.out _ _ | exact a21.out _ _))
    refine wpQuiet_nil ?_
    rintro ⟨dq, osq⟩
    have hg := below_regrown w5 dq osq
    have u1 := q1.step hg
    have u2 := q2.step hg
    have u3 := q3.step hg
    have hb7 := bl_trans hb6 hg
    generalize grow (redrawn w5 dq) osq = w7 at *
    clear a12 a21 q1 q2 q3 hb6 ht6 hg
    go_wp2_with fail
    have a12 := Lib.hid (rg_of (w := w7) (fun W hW => r12.out W (bl_trans hb7 hW)))
    have a21 := Lib.hid (rg_of (w := w7) (fun W hW => r21.out W (bl_trans hb7 hW)))
    have a3 := Lib.hid (rg_of (w := w7) (fun W hW => m12.out W (bl_trans hb7 hW)))
    have a4 := Lib.hid (rg_of (w := w7) (fun W hW => e12.out W (bl_trans hb7 hW)))
    have a5 := Lib.hid (rg_of (w := w7) (fun W hW => m11.out W (bl_trans hb7 hW)))
    have a6 := Lib.hid (rg_of (w := w7) (fun W hW => w11.out W (bl_trans hb7 hW)))
    refine wp_region_quiet_below (by kernel_rfl) (by kernel_rfl) ?_
    repeat (first
      | (refine wpQuiet_load_row (by rfl) 51 _ rfl w.heap.size rfl 51 #[.int .i64 k1, .int .i64 c1, .int .i64 s1, .slice A1 n1 p1, .int .i64 t1] (.struct (Tryd.prog.fieldsOf 51)) u1.rg (by kernel_rfl) rfl (vd_info5 _ _ _ _ _) ?_; go_simp)
      | (refine wpQuiet_load_row (by rfl) 51 _ rfl g2 rfl 51 #[.int .i64 k2, .int .i64 c2, .int .i64 s2, .slice A2 n2 p2, .int .i64 t2] (.struct (Tryd.prog.fieldsOf 51)) u2.rg (by kernel_rfl) rfl (vd_info5 _ _ _ _ _) ?_; go_simp)
      | go_big_quiet_step (with_reducible first | exact a12.out _ _ | exact a21.out _ _ | exact a3.out _ _ | exact a4.out _ _ | exact a5.out _ _ | exact a6.out _ _))
    refine wpQuiet_nil ?_
    rintro ⟨dq, osq⟩
    have hg := below_regrown w7 dq osq
    have v1 := u1.step hg
    have v2 := u2.step hg
    have v3 := u3.step hg
    have hb8 := bl_trans hb7 hg
    generalize grow (redrawn w7 dq) osq = w8 at *
    clear a12 a21 a3 a4 a5 a6 u1 u2 u3 hb7 hg
    have ht8 := ht.below hb8
    go_wp2_with fail
    refine (alive11_any _ ht8).mono ?_
    rintro e w9 ⟨rfl, hb9⟩
    have x1 := v1.step hb9
    have x2 := v2.step hb9
    have x3 := v3.step hb9
    have hb10 := bl_trans hb8 hb9
    clear v1 v2 v3 hb8 hb9 ht8
    obtain ⟨d10, d11, d12, d13, d14⟩ := vd_cells x1
    obtain ⟨d20, d21, d22, d23, d24⟩ := vd_cells x2
    obtain ⟨d30, d31, d32, d33, d34⟩ := vd_cells x3
    cases b12
    · cases b21
      · obtain ⟨rfl, rfl⟩ := f2.out (by simp) (by simp)
        go_wp2
        go_ret
        exact ⟨rfl, hb10⟩
      · go_wp2
        go_ret
        exact ⟨rfl, hb10⟩
    · have hb21 := f1.out (by simp)
      subst hb21
      go_wp2_with fail
      refine (w23.out _ hb10).mono ?_
      rintro e w11 ⟨rfl, hb11⟩
      have y1 := x1.step hb11
      have y3 := x3.step hb11
      have hb12 := bl_trans hb10 hb11
      clear d10 d11 d12 d13 d14 d20 d21 d22 d23 d24 d30 d31 d32 d33 d34 x1 x2 x3 hb10 hb11
      obtain ⟨d10, d11, d12, d13, d14⟩ := vd_cells y1
      obtain ⟨d30, d31, d32, d33, d34⟩ := vd_cells y3
      cases b23
      · go_wp2
        go_ret
        exact ⟨rfl, hb12⟩
      · have hb13 := f3.out (by simp) (by simp)
        subst hb13
        go_wp2_with fail
        refine (w13.out _ hb12).mono ?_
        rintro e w13 ⟨rfl, hb13⟩
        go_wp2
        go_ret
        exact ⟨rfl, bl_trans hb12 hb13⟩
set_option maxRecDepth 100000 in
theorem forders_all (v1 v2 v3 : Vd) (w : World) (ht : Tens w) (h1 : v1.Ok w w.heap.size) (h2 : v2.Ok w w.heap.size) (h3 : v3.Ok w w.heap.size) :
    Calls Tryd.prog 9 #[.agg (vdc v1), .agg (vdc v2), .agg (vdc v3)] w fun e w' => e = .returned (.bool true) ∧ Below w.heap.size w w' := by
  have hk : ∀ {v : Vd} {W : World}, v.Ok w w.heap.size → Below w.heap.size w W → v.Ok W W.heap.size := fun h hW => (h.below hW).more hW.size
  have hF := worse_facts v1 v2 v3
  refine forders_walk _ _ _ _ _ _ _ _ _ _ _ _ _ _ _ _ _ _ _ _ _ w ht (fewV [v1, v2, v3]) (vWorse v1 v2) (vWorse v2 v1) (vWorse v2 v3) (vWorse v1 v3) (vSame v1 v2)
    (fun W _ => fworse_any v1 v2 W) (fun W _ => fworse_any v2 v1 W) (fun W _ => fworse_any v2 v3 W) (fun W _ => fworse_any v1 v3 W) (fun W _ => by have := fworse_any v1 v1 W; rw [hF.1] at this; exact this)
    (fun W _ => rworse_any v1 v2 W) (fun W _ => rworse_any v2 v1 W) (fun W hW => fsame_any v1 v2 W (hk h1 hW) (hk h2 hW)) (fun W hW => rsame4_any v1 v2 W (hk h1 hW) (hk h2 hW)) (fun W hW => by have := fsame_any v1 v1 W (hk h1 hW) (hk h1 hW); rw [same_self] at this; exact this)
    (fun W hW g ho => few11_any _ 3 3 [v1, v2, v3] W (vds_three ho (hk h1 hW) (hk h2 hW) (hk h3 hW)) (by unfold maxLen; omega)) hF.2.1 hF.2.2.1 hF.2.2.2
end Go.Proofs.YtiehbmhekncbhaaDoor
