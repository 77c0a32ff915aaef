/- prefix.Covers -/
import Derived.Test.YtiehbmhekncbhaaDoorTen
import Derived.Test.YtiehbmhekncbhaaDoorCvM
import Derived.Test.YtiehbmhekncbhaaDoorPfxR
namespace Go.Proofs.YtiehbmhekncbhaaDoor
open Go.RowKit Go.Sort

section
variable {P : Program} {ops : Array Oper} {C : World → Prop} {Q : Act → Prop} {a : Act} {o : Oper} {rest : List Oper}
/-- A row inside a block read in a region that draws its order. -/
theorem wpQuiet_load_mid (hw : Region.wanted o (yielded ops a.tmps) = true) (ty : TypeId) (x : Operand) (ho : o.op = .load ty x) (g k : Nat) (hx : a.eval x = .pointer (some ⟨g, k, none⟩)) (cs : List Value) (d : TypeDesc)
    (hg : ∀ w, C w → w.rangeAt g k cs) (hu : P.underlying ty = some d) (hd : d.isRow = true) (hi : (P.info? ty).map (·.size) = some cs.length)
    (h : wpQuiet P ops C Q rest (a.put o.dst (.agg cs.toArray))) : wpQuiet P ops C Q (o :: rest) a := by
  refine BigFrame.wpQuiet_want hw fun K hK => ⟨.agg cs.toArray, fun w hcw => ?_, hK _ h⟩
  unfold Oper.quietAt execOp
  simp only [ho, hx, Instr.loadAt, Instr.sureAddr, Sem.run_bind, Sem.run_pure, Result.andThen_ok, run_loadVar_mid w g k ty cs d (hg w hcw) hu hd hi]
  exact ⟨rfl, rfl⟩
end
theorem ret_boolC {a b : Bool} (h : a = b) : Ending.returned (.bool a) = .returned (.bool b) := by rw [h]
theorem pfx_range_rg {w : World} {g : Nat} {t : TypeId} {f l : Int} {a : List Int} (h : Own w g t (pfx f l a)) : ∀ w', (∃ p : Regrown, w' = grow (redrawn w p.d) p.os) → w'.rangeAt g 2 (a.map (Value.int .u8)) := fun w' hw' => pfx_range (h.rg w' hw')
set_option maxRecDepth 100000 in
theorem arr_infol {a : List Int} (h : a.length = 16) : (Tryd.prog.info? 26).map (·.size) = some (a.map (Value.int .u8)).length := by rw [List.length_map, h]; exact size_16
set_option maxRecDepth 100000 in
set_option maxHeartbeats 1600000 in
theorem pcovers_any (f l f' l' : Int) (a b : List Int) (w : World) (ha : IsAddr a) (hb : IsAddr b) :
    Calls Tryd.prog 23 #[.agg (pfx f l a), .agg (pfx f' l' b)] w fun e w' => e = .returned (.bool (cov f l a f' l' b)) ∧ Below w.heap.size w w' := by
  have HS := Lib.hid (pfx_info (f := f) (l := l) ha.1)
  have HS' := Lib.hid (pfx_info (f := f') (l := l') hb.1)
  have HA := Lib.hid (arr_infol ha.1)
  have HB := Lib.hid (arr_infol hb.1)
  have hb0 := bl_alloc (bl_alloc (bl_refl w) (.cells (pfx f l a) 28)) (.cells (pfx f' l' b) 28)
  have o1 := (Own.new w 28 (pfx f l a)).alloc (.cells (pfx f' l' b) 28)
  have o2 := Own.new (w.alloc (.cells (pfx f l a) 28)) 28 (pfx f' l' b)
  rw [show (w.alloc (.cells (pfx f l a) 28)).heap.size = w.heap.size + 1 by simp] at o2
  have heq := fun W => eql_arr 93 (maskL l b) a Tryd.underlying93 (maskL_addr l hb) ha W
  unfold arr at heq
  go_enter Tryd.func23, Tryd.ntmps23
  go_wp2_with fail
  generalize (w.alloc (.cells (pfx f l a) 28)).alloc (.cells (pfx f' l' b) 28) = W at *
  generalize w.heap.size + 1 = g2 at o2 ⊢
  have c0 := cell_regrown (o1.cell (pfx_0 f l a))
  have c1 := cell_regrown (o1.cell (pfx_1 f l a))
  have d0 := cell_regrown (o2.cell (pfx_0 f' l' b))
  have d1 := cell_regrown (o2.cell (pfx_1 f' l' b))
  by_cases k1 : pfxOk f l a = true
  · have hR := pfxOk_range k1
    have vm := Lib.hid (rg_of (w := W) (fun W' _ => masked_any b l W' hb hR.1 hR.2))
    unfold arr at vm
    have v1 := Lib.hid (rg_of (w := W) (v := .bool true) (fun W' _ => by have := pvalid_any f l a W' ha; rw [k1] at this; exact this))
    have K1 := Lib.hid k1
    clear k1 hR
    by_cases k2 : pfxOk f' l' b = true
    · have v2 := Lib.hid (rg_of (w := W) (v := .bool true) (fun W' _ => by have := pvalid_any f' l' b W' hb; rw [k2] at this; exact this))
      have K2 := Lib.hid k2
      clear k2
      by_cases k3 : f = f'
      · have hf3 : (f == f') = true := by simpa using k3
        have K3 := Lib.hid k3
        clear k3
        by_cases k4 : l ≤ l'
        · have hl : decide (l ≤ l') = true := decide_eq_true k4
          refine wp_region_quiet_below (by kernel_rfl) (by kernel_rfl) ?_
          repeat (first
            | go_big_quiet_skip
            | (refine wpQuiet_load_row (by rfl) 28 _ rfl w.heap.size rfl 28 (pfx f l a) (.struct (Tryd.prog.fieldsOf 28)) o1.rg (by kernel_rfl) rfl HS.out ?_; go_simp)
            | (refine wpQuiet_load_row (by rfl) 28 _ rfl g2 rfl 28 (pfx f' l' b) (.struct (Tryd.prog.fieldsOf 28)) o2.rg (by kernel_rfl) rfl HS'.out ?_; go_simp)
            | (refine wpQuiet_load_mid (by rfl) 26 _ rfl w.heap.size 2 rfl (a.map (Value.int .u8)) (.array 16 5) (pfx_range_rg o1) Tryd.underlying26 rfl HA.out ?_; go_simp)
            | (refine wpQuiet_load_mid (by rfl) 26 _ rfl g2 2 rfl (b.map (Value.int .u8)) (.array 16 5) (pfx_range_rg o2) Tryd.underlying26 rfl HB.out ?_; go_simp)
            | go_big_quiet_step (with_reducible first | exact v1.out _ _ | exact v2.out _ _ | exact vm.out _ _))
          refine wpQuiet_nil ?_
          rintro ⟨dq, osq⟩
          have hb1 := bl_trans hb0 (below_regrown W dq osq)
          generalize grow (redrawn W dq) osq = w2 at *
          go_wp2
          go_ret
          refine ⟨ret_boolC ?_, hb1⟩
          rw [cov, K1.out, K2.out]
          simp [k4, K3.out]
        · have hl : decide (l ≤ l') = false := decide_eq_false k4
          refine wp_region_quiet_below (by kernel_rfl) (by kernel_rfl) ?_
          repeat (first
            | go_big_quiet_skip
            | (refine wpQuiet_load_row (by rfl) 28 _ rfl w.heap.size rfl 28 (pfx f l a) (.struct (Tryd.prog.fieldsOf 28)) o1.rg (by kernel_rfl) rfl HS.out ?_; go_simp)
            | (refine wpQuiet_load_row (by rfl) 28 _ rfl g2 rfl 28 (pfx f' l' b) (.struct (Tryd.prog.fieldsOf 28)) o2.rg (by kernel_rfl) rfl HS'.out ?_; go_simp)
            | (refine wpQuiet_load_mid (by rfl) 26 _ rfl w.heap.size 2 rfl (a.map (Value.int .u8)) (.array 16 5) (pfx_range_rg o1) Tryd.underlying26 rfl HA.out ?_; go_simp)
            | (refine wpQuiet_load_mid (by rfl) 26 _ rfl g2 2 rfl (b.map (Value.int .u8)) (.array 16 5) (pfx_range_rg o2) Tryd.underlying26 rfl HB.out ?_; go_simp)
            | go_big_quiet_step (with_reducible first | exact v1.out _ _ | exact v2.out _ _ | exact vm.out _ _))
          refine wpQuiet_nil ?_
          rintro ⟨dq, osq⟩
          have hb1 := bl_trans hb0 (below_regrown W dq osq)
          generalize grow (redrawn W dq) osq = w2 at *
          go_wp2
          go_ret
          refine ⟨ret_boolC ?_, hb1⟩
          rw [cov, K1.out, K2.out]
          simp [K3.out]
          intro h
          omega
      · have hl : (f == f') = false := by simpa using k3
        refine wp_region_quiet_below (by kernel_rfl) (by kernel_rfl) ?_
        repeat (first
          | go_big_quiet_skip
          | (refine wpQuiet_load_row (by rfl) 28 _ rfl w.heap.size rfl 28 (pfx f l a) (.struct (Tryd.prog.fieldsOf 28)) o1.rg (by kernel_rfl) rfl HS.out ?_; go_simp)
          | (refine wpQuiet_load_row (by rfl) 28 _ rfl g2 rfl 28 (pfx f' l' b) (.struct (Tryd.prog.fieldsOf 28)) o2.rg (by kernel_rfl) rfl HS'.out ?_; go_simp)
          | (refine wpQuiet_load_mid (by rfl) 26 _ rfl w.heap.size 2 rfl (a.map (Value.int .u8)) (.array 16 5) (pfx_range_rg o1) Tryd.underlying26 rfl HA.out ?_; go_simp)
          | (refine wpQuiet_load_mid (by rfl) 26 _ rfl g2 2 rfl (b.map (Value.int .u8)) (.array 16 5) (pfx_range_rg o2) Tryd.underlying26 rfl HB.out ?_; go_simp)
          | go_big_quiet_step (with_reducible first | exact v1.out _ _ | exact v2.out _ _ | exact vm.out _ _))
        refine wpQuiet_nil ?_
        rintro ⟨dq, osq⟩
        have hb1 := bl_trans hb0 (below_regrown W dq osq)
        generalize grow (redrawn W dq) osq = w2 at *
        go_wp2
        go_ret
        refine ⟨ret_boolC ?_, hb1⟩
        rw [cov, K1.out, K2.out]
        simp [k3]
    · have k2' : pfxOk f' l' b = false := by simpa using k2
      have v2 := Lib.hid (rg_of (w := W) (v := .bool false) (fun W' _ => by have := pvalid_any f' l' b W' hb; rw [k2'] at this; exact this))
      have K2 := Lib.hid k2'
      clear k2 k2'
      refine wp_region_quiet_below (by kernel_rfl) (by kernel_rfl) ?_
      repeat (first
        | go_big_quiet_skip
        | (refine wpQuiet_load_row (by rfl) 28 _ rfl w.heap.size rfl 28 (pfx f l a) (.struct (Tryd.prog.fieldsOf 28)) o1.rg (by kernel_rfl) rfl HS.out ?_; go_simp)
        | (refine wpQuiet_load_row (by rfl) 28 _ rfl g2 rfl 28 (pfx f' l' b) (.struct (Tryd.prog.fieldsOf 28)) o2.rg (by kernel_rfl) rfl HS'.out ?_; go_simp)
        | (refine wpQuiet_load_mid (by rfl) 26 _ rfl w.heap.size 2 rfl (a.map (Value.int .u8)) (.array 16 5) (pfx_range_rg o1) Tryd.underlying26 rfl HA.out ?_; go_simp)
        | (refine wpQuiet_load_mid (by rfl) 26 _ rfl g2 2 rfl (b.map (Value.int .u8)) (.array 16 5) (pfx_range_rg o2) Tryd.underlying26 rfl HB.out ?_; go_simp)
        | go_big_quiet_step (with_reducible first | exact v1.out _ _ | exact v2.out _ _ | exact vm.out _ _))
      refine wpQuiet_nil ?_
      rintro ⟨dq, osq⟩
      have hb1 := bl_trans hb0 (below_regrown W dq osq)
      generalize grow (redrawn W dq) osq = w2 at *
      go_wp2
      go_ret
      refine ⟨ret_boolC ?_, hb1⟩
      rw [cov, K1.out, K2.out]
      rfl
  · have k1' : pfxOk f l a = false := by simpa using k1
    have v1 := Lib.hid (rg_of (w := W) (v := .bool false) (fun W' _ => by have := pvalid_any f l a W' ha; rw [k1'] at this; exact this))
    have K1 := Lib.hid k1'
    clear k1 k1'
    refine wp_region_quiet_below (by kernel_rfl) (by kernel_rfl) ?_
    repeat (first
      | go_big_quiet_skip
      | (refine wpQuiet_load_row (by rfl) 28 _ rfl w.heap.size rfl 28 (pfx f l a) (.struct (Tryd.prog.fieldsOf 28)) o1.rg (by kernel_rfl) rfl HS.out ?_; go_simp)
      | (refine wpQuiet_load_row (by rfl) 28 _ rfl g2 rfl 28 (pfx f' l' b) (.struct (Tryd.prog.fieldsOf 28)) o2.rg (by kernel_rfl) rfl HS'.out ?_; go_simp)
      | (refine wpQuiet_load_mid (by rfl) 26 _ rfl w.heap.size 2 rfl (a.map (Value.int .u8)) (.array 16 5) (pfx_range_rg o1) Tryd.underlying26 rfl HA.out ?_; go_simp)
      | (refine wpQuiet_load_mid (by rfl) 26 _ rfl g2 2 rfl (b.map (Value.int .u8)) (.array 16 5) (pfx_range_rg o2) Tryd.underlying26 rfl HB.out ?_; go_simp)
      | go_big_quiet_step (exact v1.out _ _))
    refine wpQuiet_nil ?_
    rintro ⟨dq, osq⟩
    have hb1 := bl_trans hb0 (below_regrown W dq osq)
    generalize grow (redrawn W dq) osq = w2 at *
    go_wp2
    go_ret
    refine ⟨ret_boolC ?_, hb1⟩
    rw [cov, K1.out]
    rfl
end Go.Proofs.YtiehbmhekncbhaaDoor
