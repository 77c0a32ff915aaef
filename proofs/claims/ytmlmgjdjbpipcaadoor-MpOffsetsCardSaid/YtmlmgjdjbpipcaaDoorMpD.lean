/- mp.Valid (written by gen/mpd.py) -/
import Derived.Test.YtmlmgjdjbpipcaaDoorMpC
namespace Go.Proofs.YtmlmgjdjbpipcaaDoor
open Go.RowKit Go.Sort

def hop2B (a : At) : Bool := if a.k = 14 then hopB a.f a.n3 else decide (a.n3 = 0)
def mvB (a2 a3 a4 a5 : Bool) (a : At) (rs : List Rt) : Bool := hasB a.k && (!a.p && (famB a2 a3 a.f && (rs.all (rtOk a.f (famB a4 a5 a.f)) && (hop2B a && decide (a.N = 0 ∧ a.M = 0 ∧ a.n1 = 0 ∧ a.n2 = 0)))))
theorem u32_nil (w : World) (B : Nat) : U32s w B none 0 [] := ⟨rfl, .inl rfl⟩
set_option maxRecDepth 100000 in
set_option maxHeartbeats 6400000 in
theorem mvalid_any (a0 a1 a2 a3 a4 a5 : Bool) (a : At) (rs : List Rt) (w : World) (hr : Routes w w.heap.size a.A4 a.n4 rs) (hn : a.n4 ≤ 1000000000) :
    Calls Tryd.prog 11 #[.agg #[.bool a0, .bool a1, .bool a2, .bool a3, .bool a4, .bool a5], .agg (atc a)] w fun e w' => e = .returned (.bool (mvB a2 a3 a4 a5 a rs)) ∧ Below w.heap.size w w' := by
  have hV : Hid (mvB a2 a3 a4 a5 a rs = (hasB a.k && (!a.p && (famB a2 a3 a.f && (rs.all (rtOk a.f (famB a4 a5 a.f)) && (hop2B a && decide (a.N = 0 ∧ a.M = 0 ∧ a.n1 = 0 ∧ a.n2 = 0))))))) := Lib.hid rfl
  have b1 := bl_alloc (bl_alloc (bl_refl w) (.cells #[.bool a0, .bool a1, .bool a2, .bool a3, .bool a4, .bool a5] 23)) (.cells (atc a) 30)
  have o1 := (Own.new w 23 #[.bool a0, .bool a1, .bool a2, .bool a3, .bool a4, .bool a5]).alloc (.cells (atc a) 30)
  have o2 := Own.new (w.alloc (.cells #[.bool a0, .bool a1, .bool a2, .bool a3, .bool a4, .bool a5] 23)) 30 (atc a)
  rw [show (w.alloc (.cells #[.bool a0, .bool a1, .bool a2, .bool a3, .bool a4, .bool a5] 23)).heap.size = w.heap.size + 1 by simp] at o2
  have h0 := Lib.hid (mhas_any a.k)
  have h1 := Lib.hid (omp_any a0 a1 a2 a3 a4 a5 a.f)
  have h2 := Lib.hid (oadd_any a0 a1 a2 a3 a4 a5 a.f)
  have h3 := Lib.hid (fun (W : World) (hW : Below w.heap.size w W) => nvalid_any a.f (famB a4 a5 a.f) a.A4 a.n4 a.c4 rs W ((hr.below hW).more hW.size) hn)
  have hHp := Lib.hid (mhop_any a.f a.n3)
  have hPl := Lib.hid (fun (W : World) => plain_any ⟨a.k, a.p, a.N, a.M, a.A1, a.n1, a.c1, a.A2, a.n2, a.c2, none, 0, 0, 0, none, 0, 0⟩ none 0 0 [] W (u32_nil _ _) (by unfold maxLen; omega))
  have hPv : Hid (plB ⟨a.k, a.p, a.N, a.M, a.A1, a.n1, a.c1, a.A2, a.n2, a.c2, none, 0, 0, 0, none, 0, 0⟩ [] = decide (a.N = 0 ∧ a.M = 0 ∧ a.n1 = 0 ∧ a.n2 = 0)) := Lib.hid (by
    unfold plB bareB
    dsimp only
    rw [show nth [] 0 = 0 from rfl, show nth [] 1 = 0 from rfl, Bool.eq_iff_iff]
    simp
    omega)
  have hk15 : Hid (hasB a.k = true → a.k = 14 ∨ a.k = 15) := Lib.hid (fun h => by unfold hasB at h; exact of_decide_eq_true h)
  have hH2 : Hid (hop2B a = if a.k = 14 then hopB a.f a.n3 else decide (a.n3 = 0)) := Lib.hid rfl
  rw [hPv.out] at hPl
  generalize mvB a2 a3 a4 a5 a rs = V at *
  generalize hop2B a = H at *
  generalize decide (a.N = 0 ∧ a.M = 0 ∧ a.n1 = 0 ∧ a.n2 = 0) = Z at *
  generalize hasB a.k = Q1 at *
  generalize hopB a.f a.n3 = Q4 at *
  generalize famB a2 a3 a.f = Q2 at *
  generalize rs.all (rtOk a.f (famB a4 a5 a.f)) = Q3 at *
  generalize famB a4 a5 a.f = D at *
  obtain ⟨k, p, N, M, A1, n1, c1, A2, n2, c2, A3, n3, c3, f, A4, n4, c4⟩ := a
  unfold atc at *
  dsimp only at *
  clear hr hPv
  go_enter Tryd.func11, Tryd.ntmps11
  go_wp2_with fail
  generalize (w.alloc (.cells #[.bool a0, .bool a1, .bool a2, .bool a3, .bool a4, .bool a5] 23)).alloc (.cells #[.int .i64 k, .bool p, .int .u32 N, .int .u32 M, .slice A1 n1 c1, .slice A2 n2 c2, .slice A3 n3 c3, .int .i64 f, .slice A4 n4 c4] 30) = W at *
  have q0 := cell_regrown (o2.cell (i := 0) (v := .int .i64 k) rfl)
  have q1 := cell_regrown (o2.cell (i := 1) (v := .bool p) rfl)
  have q7 := cell_regrown (o2.cell (i := 7) (v := .int .i64 f) rfl)
  have q8 := cell_regrown (o2.cell (i := 8) (v := .slice A4 n4 c4) rfl)
  have r1 := Lib.hid (quiet_of (w := W) h0.out)
  have r2 := Lib.hid (rg_of (w := W) (fun W' _ => h1.out W'))
  have r3 := Lib.hid (rg_of (w := W) (fun W' _ => h2.out W'))
  have r4 := Lib.hid (rg_of (w := W) (fun W' hW => h3.out W' (bl_trans b1 hW)))
  cases Q1 with
  | false =>
    refine wp_region_quiet_below (by kernel_rfl) (by kernel_rfl) ?_
    repeat (first
      | go_big_quiet_skip
      | (refine wpQuiet_load_row (by rfl) 23 _ rfl w.heap.size rfl 23 #[.bool a0, .bool a1, .bool a2, .bool a3, .bool a4, .bool a5] (.struct (Tryd.prog.fieldsOf 23)) o1.rg (by kernel_rfl) rfl (by kernel_rfl) ?_; go_simp)
      | go_big_quiet_step (with_reducible first | exact r1.out _ _ | exact r2.out _ _ | exact r3.out _ _ | exact r4.out _ _))
    refine wpQuiet_nil ?_
    first | rintro w' ⟨⟨dq, osq⟩, rfl⟩ | rintro ⟨dq, osq⟩
    have hgw := below_regrown W dq osq
    have hb3 := bl_trans b1 hgw
    have x2 := o2.step hgw
    generalize grow (redrawn W dq) osq = W3 at *
    clear r1 r2 r3 r4 q0 q1 q7 q8 o1 o2 hgw
    go_wp2
    go_ret
    exact ⟨ret_boolM (by rw [hV.out]; rfl), hb3⟩
  | true =>
    cases p with
    | true =>
      refine wp_region_quiet_below (by kernel_rfl) (by kernel_rfl) ?_
      repeat (first
        | go_big_quiet_skip
        | (refine wpQuiet_load_row (by rfl) 23 _ rfl w.heap.size rfl 23 #[.bool a0, .bool a1, .bool a2, .bool a3, .bool a4, .bool a5] (.struct (Tryd.prog.fieldsOf 23)) o1.rg (by kernel_rfl) rfl (by kernel_rfl) ?_; go_simp)
        | go_big_quiet_step (with_reducible first | exact r1.out _ _ | exact r2.out _ _ | exact r3.out _ _ | exact r4.out _ _))
      refine wpQuiet_nil ?_
      first | rintro w' ⟨⟨dq, osq⟩, rfl⟩ | rintro ⟨dq, osq⟩
      have hgw := below_regrown W dq osq
      have hb3 := bl_trans b1 hgw
      have x2 := o2.step hgw
      generalize grow (redrawn W dq) osq = W3 at *
      clear r1 r2 r3 r4 q0 q1 q7 q8 o1 o2 hgw
      go_wp2
      go_ret
      exact ⟨ret_boolM (by rw [hV.out]; rfl), hb3⟩
    | false =>
      cases Q2 with
      | false =>
        refine wp_region_quiet_below (by kernel_rfl) (by kernel_rfl) ?_
        repeat (first
          | go_big_quiet_skip
          | (refine wpQuiet_load_row (by rfl) 23 _ rfl w.heap.size rfl 23 #[.bool a0, .bool a1, .bool a2, .bool a3, .bool a4, .bool a5] (.struct (Tryd.prog.fieldsOf 23)) o1.rg (by kernel_rfl) rfl (by kernel_rfl) ?_; go_simp)
          | go_big_quiet_step (with_reducible first | exact r1.out _ _ | exact r2.out _ _ | exact r3.out _ _ | exact r4.out _ _))
        refine wpQuiet_nil ?_
        first | rintro w' ⟨⟨dq, osq⟩, rfl⟩ | rintro ⟨dq, osq⟩
        have hgw := below_regrown W dq osq
        have hb3 := bl_trans b1 hgw
        have x2 := o2.step hgw
        generalize grow (redrawn W dq) osq = W3 at *
        clear r1 r2 r3 r4 q0 q1 q7 q8 o1 o2 hgw
        go_wp2
        go_ret
        exact ⟨ret_boolM (by rw [hV.out]; rfl), hb3⟩
      | true =>
        cases Q3 with
        | false =>
          refine wp_region_quiet_below (by kernel_rfl) (by kernel_rfl) ?_
          repeat (first
            | go_big_quiet_skip
            | (refine wpQuiet_load_row (by rfl) 23 _ rfl w.heap.size rfl 23 #[.bool a0, .bool a1, .bool a2, .bool a3, .bool a4, .bool a5] (.struct (Tryd.prog.fieldsOf 23)) o1.rg (by kernel_rfl) rfl (by kernel_rfl) ?_; go_simp)
            | go_big_quiet_step (with_reducible first | exact r1.out _ _ | exact r2.out _ _ | exact r3.out _ _ | exact r4.out _ _))
          refine wpQuiet_nil ?_
          first | rintro w' ⟨⟨dq, osq⟩, rfl⟩ | rintro ⟨dq, osq⟩
          have hgw := below_regrown W dq osq
          have hb3 := bl_trans b1 hgw
          have x2 := o2.step hgw
          generalize grow (redrawn W dq) osq = W3 at *
          clear r1 r2 r3 r4 q0 q1 q7 q8 o1 o2 hgw
          go_wp2
          go_ret
          exact ⟨ret_boolM (by rw [hV.out]; rfl), hb3⟩
        | true =>
          have hk := hk15.out rfl
          have HV2 : Hid (V = (H && Z)) := Lib.hid hV.out
          clear hV hk15
          refine wp_region_quiet_below (by kernel_rfl) (by kernel_rfl) ?_
          repeat (first
            | go_big_quiet_skip
            | (refine wpQuiet_load_row (by rfl) 23 _ rfl w.heap.size rfl 23 #[.bool a0, .bool a1, .bool a2, .bool a3, .bool a4, .bool a5] (.struct (Tryd.prog.fieldsOf 23)) o1.rg (by kernel_rfl) rfl (by kernel_rfl) ?_; go_simp)
            | go_big_quiet_step (with_reducible first | exact r1.out _ _ | exact r2.out _ _ | exact r3.out _ _ | exact r4.out _ _))
          refine wpQuiet_nil ?_
          first | rintro w' ⟨⟨dq, osq⟩, rfl⟩ | rintro ⟨dq, osq⟩
          have hgw := below_regrown W dq osq
          have hb3 := bl_trans b1 hgw
          have x2 := o2.step hgw
          generalize grow (redrawn W dq) osq = W3 at *
          clear r1 r2 r3 r4 q0 q1 q7 q8 o1 o2 hgw
          obtain ⟨e0, e1, e2, e3, e4, e5, e6, e7, e8⟩ := at_cells x2
          have hlt := x2.lt
          have z6 := x2.frozen 6
          have z7 := x2.frozen 7
          have z8 := x2.frozen 8
          have y2 : Own (((W3.setCell ⟨w.heap.size + 1, 7, none⟩ (.int .i64 0)).setCell ⟨w.heap.size + 1, 6, none⟩ (.slice none 0 0)).setCell ⟨w.heap.size + 1, 8, none⟩ (.slice none 0 0)) (w.heap.size + 1) 30 #[.int .i64 k, .bool false, .int .u32 N, .int .u32 M, .slice A1 n1 c1, .slice A2 n2 c2, .slice none 0 0, .int .i64 0, .slice none 0 0] := ((x2.set_ 7 (.int .i64 0)).set_ 6 (.slice none 0 0)).set_ 8 (.slice none 0 0)
          have hb2 := ((hb3.setCell (p := ⟨w.heap.size + 1, 7, none⟩) (by simp) (.int .i64 0)).setCell (p := ⟨w.heap.size + 1, 6, none⟩) (by simp) (.slice none 0 0)).setCell (p := ⟨w.heap.size + 1, 8, none⟩) (by simp) (.slice none 0 0)
          rcases hk with rfl | rfl
          · have HV3 : Hid (V = (Q4 && Z)) := Lib.hid (by rw [HV2.out, hH2.out]; rfl)
            clear HV2 hH2
            go_wp2_with fail
            refine (hHp.out _).mono ?_
            rintro e w4 ⟨rfl, rfl⟩
            cases Q4 with
            | false =>
              go_wp2
              go_ret
              exact ⟨ret_boolM (by rw [HV3.out]; rfl), hb3⟩
            | true =>
              go_wp2_with (refine wpList_load_row rfl 30 _ rfl (w.heap.size + 1) rfl 30 #[.int .i64 14, .bool false, .int .u32 N, .int .u32 M, .slice A1 n1 c1, .slice A2 n2 c2, .slice none 0 0, .int .i64 0, .slice none 0 0] (0, 0) (.struct (Tryd.prog.fieldsOf 30)) y2 (by kernel_rfl) rfl (by kernel_rfl) ?_)
              refine (hPl.out _).mono ?_
              rintro e w5 ⟨rfl, hb5⟩
              go_wp2
              go_ret
              exact ⟨ret_boolM (by rw [HV3.out]; rfl), bl_trans hb2 hb5⟩
          · have HV3 : Hid (V = (decide (n3 = 0) && Z)) := Lib.hid (by rw [HV2.out, hH2.out]; rfl)
            clear HV2 hH2
            by_cases hn3 : n3 = 0
            · subst hn3
              go_wp2_with (refine wpList_load_row rfl 30 _ rfl (w.heap.size + 1) rfl 30 #[.int .i64 15, .bool false, .int .u32 N, .int .u32 M, .slice A1 n1 c1, .slice A2 n2 c2, .slice none 0 0, .int .i64 0, .slice none 0 0] (0, 0) (.struct (Tryd.prog.fieldsOf 30)) y2 (by kernel_rfl) rfl (by kernel_rfl) ?_)
              refine (hPl.out _).mono ?_
              rintro e w5 ⟨rfl, hb5⟩
              go_wp2
              go_ret
              exact ⟨ret_boolM (by rw [HV3.out]; rfl), bl_trans hb2 hb5⟩
            · have HV4 : Hid (V = false) := Lib.hid (by rw [HV3.out, decide_eq_false hn3]; rfl)
              have hpos : (0 : Int) < (n3 : Int) := by omega
              clear hn3 HV3
              go_wp2
              go_ret
              exact ⟨ret_boolM HV4.out.symm, hb3⟩
end Go.Proofs.YtmlmgjdjbpipcaaDoor
