/- basic.find -/
import Derived.Test.YtmcnpkfeipelgaaGreatDoorBsD
import Derived.Deep.RegionHeld3
import Derived.Deep.RegionLaw
namespace Go.Proofs.YtmcnpkfeipelgaaGreatDoor
open Go.RowKit Go.Maps

set_option maxRecDepth 100000 in
theorem look_b {w : World} {b : Nat} (hown : w.ownsMap Tryz.prog 3 heldE b 6 rMap) (k : Int) (hwf : (Lit.int .i64 k).wf = true) {R : Array Value} {q : Bool} (hrow : bRow k = R) (hkn : bKnown k = q) :
    (Instr.lookup 153 (.map (some b)) (.int .i64 k) true).run Tryz.prog w = .ok (.tuple #[.agg R, .bool q]) w := by
  obtain ⟨v, ps, hrun, hv⟩ := hown.look_ok bint_key Tryz.underlying153 (brow_zero _) (zd := .held (.agg bNil)) (zp := []) rfl (keyOf_int_mk Tryz.underlying3 hwf)
  obtain rfl := brow_at hv
  rw [hrun, (rMap_at k).2, hrow, hkn]
theorem one32 (X : World) (N : Int) {g : Nat} (hg : g = X.heap.size) {T : TypeId} : U32s (X.alloc (.cells #[.int .u32 N] T)) (X.alloc (.cells #[.int .u32 N] T)).heap.size (some ⟨g, 0, none⟩) 1 [N] := by
  subst hg
  exact ⟨rfl, Shows.of_owned (xs := [.int .u32 N]) (Own.new X T #[.int .u32 N]) (by simp)⟩
theorem bg_one {s : Int} {f : Nat} {G : Value} (h : G.oneCell' = true) : (#[Value.int .i64 s, .func (.func f) #[] #[], G]).all (·.oneCell') = true := by
  rw [← Array.all_toList]
  simp only [List.all_cons, List.all_nil, Bool.and_true, h]
  rfl
theorem set3_own {w : World} {g : Nat} {t : TypeId} {a b c : Value} (h : Own w g t #[a, b, c]) (x y z : Value) :
    Own (((w.setCell ⟨g, 0, none⟩ x).setCell ⟨g, 1, none⟩ y).setCell ⟨g, 2, none⟩ z) g t #[x, y, z] := by
  have h2 := ((h.set_ 0 x).set_ 1 y).set_ 2 z
  simpa using h2
theorem set3_below {w V : World} {g : Nat} (hb : Below w.heap.size w V) (hg : w.heap.size ≤ g) (x y z : Value) :
    Below w.heap.size w (((V.setCell ⟨g, 0, none⟩ x).setCell ⟨g, 1, none⟩ y).setCell ⟨g, 2, none⟩ z) :=
  ((hb.setCell (p := ⟨g, 0, none⟩) hg x).setCell (p := ⟨g, 1, none⟩) hg y).setCell (p := ⟨g, 2, none⟩) hg z
theorem set3_far {V : World} {g k : Nat} {t : TypeId} {cs : Array Value} (h : Own V k t cs) (hne : k ≠ g) (x y z : Value) : Own (((V.setCell ⟨g, 0, none⟩ x).setCell ⟨g, 1, none⟩ y).setCell ⟨g, 2, none⟩ z) k t cs := ((h.far hne x).far hne y).far hne z
set_option maxRecDepth 100000 in
set_option maxHeartbeats 3200000 in
theorem find_gen (a : At) (hwf : (Lit.int .i64 a.k).wf = true) (sz : Int) (F G : Value) (kn : Bool) (hrow : Hid (bRow a.k = #[.int .i64 sz, F, G])) (hkn : Hid (bKnown a.k = kn)) (hF : F.oneCell' = true) (hG : G.oneCell' = true)
    (HC : Hid (kn = false ∨ (kn = true ∧ ((F = .func (.func 141) #[] #[] ∧ a.k ≠ 1 ∧ a.k ≠ 6) ∨ (F = .func (.func 142) #[] #[] ∧ a.k = 1) ∨ (F = .func (.func 149) #[] #[] ∧ a.k = 6)))))
    (OK : Bool) (hOK : Hid (OK = (kn && plB a [a.N] && decide ((a.k = 1 → a.N ≤ 2) ∧ (a.k = 6 → a.N = 0))))) (RES : Array Value) (hYes : Hid (OK = true → RES = #[.int .i64 sz, F, G])) (hNo : Hid (OK = false → RES = #[.int .i64 0, .nilFunc, .nilFunc])) (w : World) :
    Calls Tryz.prog 231 #[.agg (atc a)] w fun e w' => e = .returned (.tuple #[.agg RES, .bool OK]) ∧ Below w.heap.size w w' := by
  have hP := Lib.hid (fun A c W h => plain_any a A 1 c [a.N] W h (by unfold maxLen; omega))
  generalize plB a [a.N] = Q at *
  obtain ⟨k, p, N, M, A1, n1, c1, A2, n2, c2, A3, n3, c3, f, A4, n4, c4⟩ := a
  unfold atc at *
  dsimp only at *
  have hb0 := bl_alloc (bl_alloc (bl_refl w) (.cells #[.int .i64 k, .bool p, .int .u32 N, .int .u32 M, .slice A1 n1 c1, .slice A2 n2 c2, .slice A3 n3 c3, .int .i64 f, .slice A4 n4 c4] 37)) (.cells #[.int .i64 0, .nilFunc, .nilFunc] 151)
  have o0 := (Own.new w 37 #[.int .i64 k, .bool p, .int .u32 N, .int .u32 M, .slice A1 n1 c1, .slice A2 n2 c2, .slice A3 n3 c3, .int .i64 f, .slice A4 n4 c4]).alloc (.cells #[.int .i64 0, .nilFunc, .nilFunc] 151)
  have oR := Own.new (w.alloc (.cells #[.int .i64 k, .bool p, .int .u32 N, .int .u32 M, .slice A1 n1 c1, .slice A2 n2 c2, .slice A3 n3 c3, .int .i64 f, .slice A4 n4 c4] 37)) 151 #[.int .i64 0, .nilFunc, .nilFunc]
  rw [show (w.alloc (.cells #[.int .i64 k, .bool p, .int .u32 N, .int .u32 M, .slice A1 n1 c1, .slice A2 n2 c2, .slice A3 n3 c3, .int .i64 f, .slice A4 n4 c4] 37)).heap.size = w.heap.size + 1 by simp] at oR
  go_enter Tryz.func231, Tryz.ntmps231
  go_wp2_with fail
  generalize (w.alloc (.cells #[.int .i64 k, .bool p, .int .u32 N, .int .u32 M, .slice A1 n1 c1, .slice A2 n2 c2, .slice A3 n3 c3, .int .i64 f, .slice A4 n4 c4] 37)).alloc (.cells #[.int .i64 0, .nilFunc, .nilFunc] 151) = W at *
  have HS0 : W.drew.cell? ⟨w.heap.size, 0, none⟩ = some (.int .i64 k) := o0.cell (i := 0) rfl
  have hl0 := o0.lt
  have hl1 := oR.lt
  have hsn := fun (W : World) (a : Addr) => run_store Tryz.prog W a F Mode.plain hF
  have hsg := fun (W : World) (a : Addr) => run_store Tryz.prog W a G Mode.plain hG
  have oW2 := (Own.new W 151 #[.int .i64 0, .nilFunc, .nilFunc]).drew
  have oWA := (o0.alloc (.cells #[.int .i64 0, .nilFunc, .nilFunc] 151)).drew
  have HSa : (W.alloc (.cells #[.int .i64 0, .nilFunc, .nilFunc] 151)).drew.cell? ⟨w.heap.size, 0, none⟩ = some (.int .i64 k) := oWA.cell (i := 0) rfl
  have hba := (bl_alloc (bl_refl W) (.cells #[.int .i64 0, .nilFunc, .nilFunc] 151)).drew
  go_region_held3 (fun W => W.cell? ⟨w.heap.size, 0, none⟩ = some (.int .i64 k)) (with_reducible first | exact HS0 | exact HSa | exact HS2 | exact HS3 | exact HS4) ((first
    | (go_at_call 127; (with_reducible refine (rows_any _).mono ?_); rintro e w1 ⟨b, rfl, hown, hb1⟩; have hlk := look_b hown k hwf hrow.out hkn.out; first
        | (have oA1 := o0.drew.step hb1; have HS2 : w1.cell? ⟨w.heap.size, 0, none⟩ = some (.int .i64 k) := oA1.cell (i := 0) rfl; have hlk2 := look_b (hown.alloc (.cells #[.int .i64 0, .nilFunc, .nilFunc] 151)) k hwf hrow.out hkn.out; have oF := oA1.alloc (.cells #[.int .i64 0, .nilFunc, .nilFunc] 151); have HS3 : (w1.alloc (.cells #[.int .i64 0, .nilFunc, .nilFunc] 151)).cell? ⟨w.heap.size, 0, none⟩ = some (.int .i64 k) := oF.cell (i := 0) rfl; have pN := Own.new w1 151 #[.int .i64 sz, F, G]; have pA := oA1.alloc (.cells #[.int .i64 sz, F, G] 151); have pR := (oR.drew.step hb1).alloc (.cells #[.int .i64 sz, F, G] 151); have pB := bl_alloc (bl_trans hb0.drew hb1) (.cells #[.int .i64 sz, F, G] 151); have HS4 : (w1.alloc (.cells #[.int .i64 sz, F, G] 151)).cell? ⟨w.heap.size, 0, none⟩ = some (.int .i64 k) := pA.cell (i := 0) rfl)
        | (have oF := oWA.step hb1; have HS2 : w1.cell? ⟨w.heap.size, 0, none⟩ = some (.int .i64 k) := oF.cell (i := 0) rfl; have oN := oW2.step hb1; have HS3 := HS2; have hbF := bl_trans hb0 (hba.trans (hb1.mono hba.size)); have oRF := (oR.alloc (.cells #[.int .i64 0, .nilFunc, .nilFunc] 151)).drew.step hb1; have n0 := oN.cell (i := 0) (v := .int .i64 0) rfl; have n1 := oN.cell (i := 1) (v := .nilFunc) rfl; have n2 := oN.cell (i := 2) (v := .nilFunc) rfl; have z0 := oN.frozen 0; have z1 := oN.frozen 1; have z2 := oN.frozen 2; have pN := set3_own oN (.int .i64 sz) F G; have pA := set3_far oF (show w.heap.size ≠ W.heap.size by omega) (.int .i64 sz) F G; have pR := set3_far oRF (show w.heap.size + 1 ≠ W.heap.size by omega) (.int .i64 sz) F G; have pB := set3_below hbF (show w.heap.size ≤ W.heap.size by omega) (.int .i64 sz) F G; have HS4 := pA.cell (i := 0) (v := .int .i64 k) rfl))))
  all_goals clear hlk
  all_goals
    rcases HC.out with hkf | ⟨hkt, hcs⟩
    · subst hkf
      have hok : OK = false := by rw [hOK.out]; rfl
      subst hok
      have hres := hNo.out rfl
      subst hres
      obtain ⟨e0, e1, e2, e3, e4, e5, e6, e7, e8⟩ := at_cells pA
      go_wp2_with (refine wpList_store_row rfl 151 _ _ rfl (w.heap.size + 1) #[.int .i64 0, .nilFunc, .nilFunc] rfl rfl 151 #[.int .i64 0, .nilFunc, .nilFunc] pR (brow_info _ _ _) rfl bnil_one ?_)
      exact bodyPost_ret (results_cell_tmp (p := 2) (t := 3) (fn := Tryz.f231) rfl _ _ (w.heap.size + 1) 151 #[.int .i64 0, .nilFunc, .nilFunc] _ rfl pR.setRow brow_desc rfl (brow_info _ _ _)) rfl ⟨rfl, bl_setRow pB (by omega)⟩
    · subst hkt
      obtain ⟨e0, e1, e2, e3, e4, e5, e6, e7, e8⟩ := at_cells pA
      cases Q
      · have hok : OK = false := by rw [hOK.out]; rfl
        subst hok
        have hres := hNo.out rfl
        subst hres
        go_wp2_with (first | (go_at_call 208; (with_reducible refine (hP.out _ _ _ (one32 _ N (by simp))).mono ?_); rintro e w3 ⟨rfl, hb3⟩; have pN := (pN.alloc (.cells #[.int .u32 N] 32)).step hb3; have pA := (pA.alloc (.cells #[.int .u32 N] 32)).step hb3; have pR := (pR.alloc (.cells #[.int .u32 N] 32)).step hb3; have pB := bl_trans (bl_alloc pB (.cells #[.int .u32 N] 32)) hb3; have x0 := pN.cell (i := 0) (v := .int .i64 sz) rfl; have x1 := pN.cell (i := 1) rfl; have x2 := pN.cell (i := 2) (v := G) rfl; have y2 := pA.cell (i := 2) (v := .int .u32 N) rfl) | (refine wpList_store_row rfl 151 _ _ rfl (w.heap.size + 1) #[.int .i64 0, .nilFunc, .nilFunc] rfl rfl 151 #[.int .i64 0, .nilFunc, .nilFunc] pR (brow_info _ _ _) rfl bnil_one ?_))
        exact bodyPost_ret (results_cell_tmp (p := 2) (t := 3) (fn := Tryz.f231) rfl _ _ (w.heap.size + 1) 151 #[.int .i64 0, .nilFunc, .nilFunc] _ rfl pR.setRow brow_desc rfl (brow_info _ _ _)) rfl ⟨rfl, bl_setRow pB (by omega)⟩
      · rcases hcs with ⟨rfl, hk1, hk6⟩ | ⟨rfl, rfl⟩ | ⟨rfl, rfl⟩
        · have hok : OK = true := by rw [hOK.out]; simp [hk1, hk6]
          clear hk1 hk6
          subst hok
          have hres := hYes.out rfl
          subst hres
          go_wp2_with (first | (go_at_call 208; (with_reducible refine (hP.out _ _ _ (one32 _ N (by simp))).mono ?_); rintro e w3 ⟨rfl, hb3⟩; have pN := (pN.alloc (.cells #[.int .u32 N] 32)).step hb3; have pA := (pA.alloc (.cells #[.int .u32 N] 32)).step hb3; have pR := (pR.alloc (.cells #[.int .u32 N] 32)).step hb3; have pB := bl_trans (bl_alloc pB (.cells #[.int .u32 N] 32)) hb3; have x0 := pN.cell (i := 0) (v := .int .i64 sz) rfl; have x1 := pN.cell (i := 1) rfl; have x2 := pN.cell (i := 2) (v := G) rfl; have y2 := pA.cell (i := 2) (v := .int .u32 N) rfl) | (go_at_call 141; refine (fitsF_any N _).mono ?_; rintro e w' ⟨rfl, rfl⟩) | (refine wpList_store_row rfl 151 _ _ rfl (w.heap.size + 1) #[.int .i64 sz, .func (.func 141) #[] #[], G] rfl rfl 151 #[.int .i64 0, .nilFunc, .nilFunc] pR (brow_info _ _ _) rfl (bg_one hG) ?_))
          exact bodyPost_ret (results_cell_tmp (p := 2) (t := 3) (fn := Tryz.f231) rfl _ _ (w.heap.size + 1) 151 #[.int .i64 sz, .func (.func 141) #[] #[], G] _ rfl pR.setRow brow_desc rfl (brow_info _ _ _)) rfl ⟨rfl, bl_setRow pB (by omega)⟩
        · by_cases hq : N ≤ 2
          · have hok : OK = true := by rw [hOK.out]; simp [hq]
            have hd : decide (N ≤ 2) = true := by simpa using hq
            subst hok
            have hres := hYes.out rfl
            subst hres
            go_wp2_with (first | (go_at_call 208; (with_reducible refine (hP.out _ _ _ (one32 _ N (by simp))).mono ?_); rintro e w3 ⟨rfl, hb3⟩; have pN := (pN.alloc (.cells #[.int .u32 N] 32)).step hb3; have pA := (pA.alloc (.cells #[.int .u32 N] 32)).step hb3; have pR := (pR.alloc (.cells #[.int .u32 N] 32)).step hb3; have pB := bl_trans (bl_alloc pB (.cells #[.int .u32 N] 32)) hb3; have x0 := pN.cell (i := 0) (v := .int .i64 sz) rfl; have x1 := pN.cell (i := 1) rfl; have x2 := pN.cell (i := 2) (v := G) rfl; have y2 := pA.cell (i := 2) (v := .int .u32 N) rfl) | (go_at_call 142; refine (fits1_any N _).mono ?_; rintro e w' ⟨rfl, rfl⟩) | (refine wpList_store_row rfl 151 _ _ rfl (w.heap.size + 1) #[.int .i64 sz, .func (.func 142) #[] #[], G] rfl rfl 151 #[.int .i64 0, .nilFunc, .nilFunc] pR (brow_info _ _ _) rfl (bg_one hG) ?_))
            exact bodyPost_ret (results_cell_tmp (p := 2) (t := 3) (fn := Tryz.f231) rfl _ _ (w.heap.size + 1) 151 #[.int .i64 sz, .func (.func 142) #[] #[], G] _ rfl pR.setRow brow_desc rfl (brow_info _ _ _)) rfl ⟨rfl, bl_setRow pB (by omega)⟩
          · have hok : OK = false := by rw [hOK.out]; simp [hq]
            have hd : decide (N ≤ 2) = false := by simpa using hq
            subst hok
            have hres := hNo.out rfl
            subst hres
            go_wp2_with (first | (go_at_call 208; (with_reducible refine (hP.out _ _ _ (one32 _ N (by simp))).mono ?_); rintro e w3 ⟨rfl, hb3⟩; have pN := (pN.alloc (.cells #[.int .u32 N] 32)).step hb3; have pA := (pA.alloc (.cells #[.int .u32 N] 32)).step hb3; have pR := (pR.alloc (.cells #[.int .u32 N] 32)).step hb3; have pB := bl_trans (bl_alloc pB (.cells #[.int .u32 N] 32)) hb3; have x0 := pN.cell (i := 0) (v := .int .i64 sz) rfl; have x1 := pN.cell (i := 1) rfl; have x2 := pN.cell (i := 2) (v := G) rfl; have y2 := pA.cell (i := 2) (v := .int .u32 N) rfl) | (go_at_call 142; refine (fits1_any N _).mono ?_; rintro e w' ⟨rfl, rfl⟩) | (refine wpList_store_row rfl 151 _ _ rfl (w.heap.size + 1) #[.int .i64 0, .nilFunc, .nilFunc] rfl rfl 151 #[.int .i64 0, .nilFunc, .nilFunc] pR (brow_info _ _ _) rfl bnil_one ?_))
            exact bodyPost_ret (results_cell_tmp (p := 2) (t := 3) (fn := Tryz.f231) rfl _ _ (w.heap.size + 1) 151 #[.int .i64 0, .nilFunc, .nilFunc] _ rfl pR.setRow brow_desc rfl (brow_info _ _ _)) rfl ⟨rfl, bl_setRow pB (by omega)⟩
        · by_cases hq : N = 0
          · have hok : OK = true := by rw [hOK.out]; simp [hq]
            have hd : (N == 0) = true := by simpa using hq
            clear hq
            subst hok
            have hres := hYes.out rfl
            subst hres
            go_wp2_with (first | (go_at_call 208; (with_reducible refine (hP.out _ _ _ (one32 _ N (by simp))).mono ?_); rintro e w3 ⟨rfl, hb3⟩; have pN := (pN.alloc (.cells #[.int .u32 N] 32)).step hb3; have pA := (pA.alloc (.cells #[.int .u32 N] 32)).step hb3; have pR := (pR.alloc (.cells #[.int .u32 N] 32)).step hb3; have pB := bl_trans (bl_alloc pB (.cells #[.int .u32 N] 32)) hb3; have x0 := pN.cell (i := 0) (v := .int .i64 sz) rfl; have x1 := pN.cell (i := 1) rfl; have x2 := pN.cell (i := 2) (v := G) rfl; have y2 := pA.cell (i := 2) (v := .int .u32 N) rfl) | (go_at_call 149; refine (fits6_any N _).mono ?_; rintro e w' ⟨rfl, rfl⟩) | (refine wpList_store_row rfl 151 _ _ rfl (w.heap.size + 1) #[.int .i64 sz, .func (.func 149) #[] #[], G] rfl rfl 151 #[.int .i64 0, .nilFunc, .nilFunc] pR (brow_info _ _ _) rfl (bg_one hG) ?_))
            exact bodyPost_ret (results_cell_tmp (p := 2) (t := 3) (fn := Tryz.f231) rfl _ _ (w.heap.size + 1) 151 #[.int .i64 sz, .func (.func 149) #[] #[], G] _ rfl pR.setRow brow_desc rfl (brow_info _ _ _)) rfl ⟨rfl, bl_setRow pB (by omega)⟩
          · have hok : OK = false := by rw [hOK.out]; simp [hq]
            have hd : (N == 0) = false := by simpa using hq
            clear hq
            subst hok
            have hres := hNo.out rfl
            subst hres
            go_wp2_with (first | (go_at_call 208; (with_reducible refine (hP.out _ _ _ (one32 _ N (by simp))).mono ?_); rintro e w3 ⟨rfl, hb3⟩; have pN := (pN.alloc (.cells #[.int .u32 N] 32)).step hb3; have pA := (pA.alloc (.cells #[.int .u32 N] 32)).step hb3; have pR := (pR.alloc (.cells #[.int .u32 N] 32)).step hb3; have pB := bl_trans (bl_alloc pB (.cells #[.int .u32 N] 32)) hb3; have x0 := pN.cell (i := 0) (v := .int .i64 sz) rfl; have x1 := pN.cell (i := 1) rfl; have x2 := pN.cell (i := 2) (v := G) rfl; have y2 := pA.cell (i := 2) (v := .int .u32 N) rfl) | (go_at_call 149; refine (fits6_any N _).mono ?_; rintro e w' ⟨rfl, rfl⟩) | (refine wpList_store_row rfl 151 _ _ rfl (w.heap.size + 1) #[.int .i64 0, .nilFunc, .nilFunc] rfl rfl 151 #[.int .i64 0, .nilFunc, .nilFunc] pR (brow_info _ _ _) rfl bnil_one ?_))
            exact bodyPost_ret (results_cell_tmp (p := 2) (t := 3) (fn := Tryz.f231) rfl _ _ (w.heap.size + 1) 151 #[.int .i64 0, .nilFunc, .nilFunc] _ rfl pR.setRow brow_desc rfl (brow_info _ _ _)) rfl ⟨rfl, bl_setRow pB (by omega)⟩
end Go.Proofs.YtmcnpkfeipelgaaGreatDoor
