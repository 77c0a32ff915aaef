/- peerageref02.Read -/
import Derived.Test.YtiehbmhekncbhaaDoorQmake
import Derived.Test.YtiehbmhekncbhaaDoorNo
import Derived.Test.YtiehbmhekncbhaaDoorRef1
import Derived.Deep.RegionHeld3
import Derived.WalkSpells
import Derived.StillTactics
import Derived.Deep.Cut
namespace Go.Proofs.YtiehbmhekncbhaaDoor
open Go.RowKit

theorem own_far {w : World} {g b o : Nat} {t : TypeId} {cs : Array Value} (h : Own w g t cs) (hb : g ≠ b) (u : Value) : Own (w.setCell ⟨b, o, none⟩ u) g t cs := h.far hb u
theorem results_2cells {P : Program} {fn : Func} {p q t : Tmp} {ty ty2 : TypeId} (h : fn.results = #[.cell p ty, .cell q ty2, .tmp t]) (tmps : Array Value) (w : World) (g : Nat) (T : TypeId) (cs : Array Value) (d : TypeDesc) (g2 : Nat) (T2 : TypeId) (cs2 : Array Value) (d2 : TypeDesc)
    (hp : tmps.getD p undef = .pointer (some ⟨g, 0, none⟩)) (hg : Own w g T cs) (hu : P.underlying ty = some d) (hd : (match d with | .struct _ | .array _ _ => true | _ => false) = true) (hi : (P.info? ty).map (·.size) = some cs.size)
    (hp2 : tmps.getD q undef = .pointer (some ⟨g2, 0, none⟩)) (hg2 : Own w g2 T2 cs2) (hu2 : P.underlying ty2 = some d2) (hd2 : (match d2 with | .struct _ | .array _ _ => true | _ => false) = true) (hi2 : (P.info? ty2).map (·.size) = some cs2.size) :
    (results fn tmps).run P w = .ok (.tuple #[.agg cs, .agg cs2, tmps.getD t undef]) w := by
  have hp' : tmps[p]?.getD undef = .pointer (some ⟨g, 0, none⟩) := by simpa using hp
  have hp2' : tmps[q]?.getD undef = .pointer (some ⟨g2, 0, none⟩) := by simpa using hp2
  simp [results, h, hp', hp2', asAddr, run_loadVar_row w g T ty cs (0, 0) d hg hu hd hi, run_loadVar_row w g2 T2 ty2 cs2 (0, 0) d2 hg2 hu2 hd2 hi2]
set_option maxRecDepth 100000 in
theorem rrd_desc : Tryd.prog.underlying 32 = some (.struct (Tryd.prog.fieldsOf 32)) := by kernel_rfl
set_option maxRecDepth 100000 in
theorem rrd_info (a b : Value) : (Tryd.prog.info? 32).map (·.size) = some (#[a, b] : Array Value).size := by kernel_rfl
/-- What peerageref02.Read returns: the reader behind, the prefix, whether there is one. -/
def RReadTo (f : Int) (A : Option Addr) (n : Nat) (xs : List Int) (p : Nat) (e : Ending) : Prop :=
  ∃ A1 n1 c1 p1, e = .returned (.tuple #[.agg #[.slice A1 n1 c1, .int .i64 p1], .agg (pfx (pF f xs) (pL f xs) (pA f xs)), .bool (pOk f xs)]) ∧
    (pOk f xs = true → n1 = n - pN xs ∧ n1 ≤ c1 ∧ p1 = ((p + pN xs : Nat) : Int) ∧ Behind A n (pN xs) A1)

set_option maxRecDepth 100000 in
set_option maxHeartbeats 400000 in
theorem rread_nil (f : Int) (A : Option Addr) (n c p : Nat) (w : World) (hn : n = 0) :
    Calls Tryd.prog 18 #[.int .i64 f, .agg #[.slice A n c, .int .i64 p]] w fun e w' => RReadTo f A n [] p e ∧ Below w.heap.size w w' := by
  have hn1 : ((n : Nat) : Int) < 1 := by omega
  clear hn
  have hz18 : #[.int .i64 0, .int .i64 0, .int .u8 0, .int .u8 0, .int .u8 0, .int .u8 0, .int .u8 0, .int .u8 0, .int .u8 0, .int .u8 0, .int .u8 0, .int .u8 0, .int .u8 0, .int .u8 0, .int .u8 0, .int .u8 0, .int .u8 0, .int .u8 0] = pfx 0 0 zero16 := pfx_zero.symm
  have o3 := (((Own.new w 32 #[.slice A n c, .int .i64 p]).alloc (.cells #[.slice none 0 0, .int .i64 0] 32)).alloc (.cells (pfx 0 0 zero16) 28))
  have o4 := ((Own.new (w.alloc (.cells #[.slice A n c, .int .i64 p] 32)) 32 #[.slice none 0 0, .int .i64 0]).alloc (.cells (pfx 0 0 zero16) 28))
  have o5 := Own.new ((w.alloc (.cells #[.slice A n c, .int .i64 p] 32)).alloc (.cells #[.slice none 0 0, .int .i64 0] 32)) 28 (pfx 0 0 zero16)
  have hb0 := bl_alloc (bl_alloc (bl_alloc (bl_refl w) (.cells #[.slice A n c, .int .i64 p] 32)) (.cells #[.slice none 0 0, .int .i64 0] 32)) (.cells (pfx 0 0 zero16) 28)
  have hs1 : (w.alloc (.cells #[.slice A n c, .int .i64 p] 32)).heap.size = w.heap.size + 1 := by simp
  have hs2 : ((w.alloc (.cells #[.slice A n c, .int .i64 p] 32)).alloc (.cells #[.slice none 0 0, .int .i64 0] 32)).heap.size = w.heap.size + 1 + 1 := by simp
  rw [hs1] at o4
  rw [hs2] at o5
  clear hs1 hs2
  go_enter Tryd.func18, Tryd.ntmps18
  go_wp2_with fail
  refine (rnum_no A n c p 1 _ (by omega) (by omega) (by omega) hn1).mono ?_
  rintro e w1 ⟨rfl, hb1⟩
  have o31 := o3.step hb1
  have o41 := o4.step hb1
  have o51 := o5.step hb1
  have hbw := bl_trans hb0 hb1
  have f30 := o31.frozen 0
  have f31 := o31.frozen 1
  have c30 := o31.cell (i := 0) (v := .slice A n c) rfl
  have c31 := o31.cell (i := 1) (v := .int .i64 p) rfl
  have hlt := o51.lt
  have p3 := (own_two o31 (.slice A n c) (.int .i64 p)).1
  have p4 := own_far (o := 1) (own_far (o := 0) o41 (b := w.heap.size) (by omega) (.slice A n c)) (b := w.heap.size) (by omega) (.int .i64 p)
  have p5 := own_far (o := 1) (own_far (o := 0) o51 (b := w.heap.size) (by omega) (.slice A n c)) (b := w.heap.size) (by omega) (.int .i64 p)
  have hbW := (hbw.setCell (p := ⟨w.heap.size, 0, none⟩) (Nat.le_refl _) (.slice A n c)).setCell (p := ⟨w.heap.size, 1, none⟩) (Nat.le_refl _) (.int .i64 p)
  clear o3 o4 o5 hb0
  go_upto_region 2 with (fail)
  generalize (w1.setCell ⟨w.heap.size, 0, none⟩ (.slice A n c)).setCell ⟨w.heap.size, 1, none⟩ (.int .i64 p) = W at p3 p4 p5 hbW ⊢
  clear o31 o41 o51 hbw hb1 f30 f31 c30 c31 hlt
  have c30 := p3.cell (i := 0) (v := .slice A n c) rfl
  have c31 := p3.cell (i := 1) (v := .int .i64 p) rfl
  have c40 := p4.cell (i := 0) (v := .slice none 0 0) rfl
  have c41 := p4.cell (i := 1) (v := .int .i64 0) rfl
  have f40 := p4.frozen 0
  have f41 := p4.frozen 1
  have hlt := p5.lt
  have q5 := own_far (o := 1) (own_far (o := 0) p5 (b := w.heap.size + 1) (by omega) (.slice A n c)) (b := w.heap.size + 1) (by omega) (.int .i64 p)
  have q4 := (own_two p4 (.slice A n c) (.int .i64 p)).1
  have hbQ := (hbW.setCell (p := ⟨w.heap.size + 1, 0, none⟩) (Nat.le_succ _) (.slice A n c)).setCell (p := ⟨w.heap.size + 1, 1, none⟩) (Nat.le_succ _) (.int .i64 p)
  go_upto_region 3 with (first | (go_at_call 70; refine (most_any _ _).mono ?_; rintro e w' ⟨rfl, rfl⟩))
  refine wp_region_lit ?_
  iterate 5 (go_step; go_simp)
  go_step
  refine wpList_store_row rfl 28 _ _ rfl (w.heap.size + 1 + 1) (pfx 0 0 zero16) rfl rfl 28 (pfx 0 0 zero16) q5 (pfx_info zero16_addr.1) rfl (pfx_one _ _ _) ?_
  iterate 8 go_step
  have hfin := q5.setRow (cs' := pfx 0 0 zero16)
  have hfin4 := q4.keep (setRow_other _ (w.heap.size + 1 + 1) _ (pfx 0 0 zero16) (by omega))
  refine bodyPost_ret (results_2cells (p := 4) (q := 5) (t := 6) (fn := Tryd.f18) rfl _ _ (w.heap.size + 1) 32 #[.slice A n c, .int .i64 p] _ (w.heap.size + 1 + 1) 28 (pfx 0 0 zero16) _ rfl hfin4 rrd_desc rfl (rrd_info _ _) rfl hfin pfx_desc rfl (pfx_info zero16_addr.1)) rfl ⟨⟨A, n, c, p, rfl, fun h => by simp [pOk] at h⟩, bl_setRow hbQ (by omega)⟩

set_option maxRecDepth 100000 in
theorem rnum_one (A : Option Addr) (n c : Nat) (x : Int) (ys : List Int) (p : Nat) (w : World) (hx : Bytes w w.heap.size A n (x :: ys)) (hc : n ≤ c) (hn : n ≤ 1000000000) (hp : p ≤ 1000000000) :
    Calls Tryd.prog 69 #[.agg #[.slice A n c, .int .i64 p], .int .i64 1] w fun e w' => ∃ A1 c1, e = .returned (.tuple #[.agg #[.slice A1 (n - 1) c1, .int .i64 ((p : Int) + 1)], .int .u32 x, .bool true]) ∧
      n - 1 ≤ c1 ∧ Behind A n 1 A1 ∧ Below w.heap.size w w' := by
  have hn1 : n = ys.length + 1 := hx.1
  refine (rnum_yes A n c (x :: ys) p 1 w hx hc hn (by omega) (by omega) (by omega) (by omega) (by omega)).mono ?_
  rintro e w' ⟨A1, c1, rfl, h1, h2, h3⟩
  refine ⟨A1, c1, ?_, h1, h2, h3⟩
  show Ending.returned (.tuple #[_, .int .u32 (big [x]), _]) = _
  simp [big]

set_option maxRecDepth 100000 in
set_option maxHeartbeats 800000 in
theorem rread_bad (f : Int) (A : Option Addr) (n c : Nat) (x : Int) (ys : List Int) (p : Nat) (w : World) (hx : Bytes w w.heap.size A n (x :: ys)) (hc : n ≤ c) (hn : n ≤ 100000000) (hp : p ≤ 100000000) (hk : lenOk f x = false) :
    Calls Tryd.prog 18 #[.int .i64 f, .agg #[.slice A n c, .int .i64 p]] w fun e w' => RReadTo f A n (x :: ys) p e ∧ Below w.heap.size w w' := by
  have hxr := hx.2.1 x (List.mem_cons_self ..)
  have hx0 := hxr.1
  have hx1 := hxr.2
  have d1 : decide (mostOf f < x) = true := by
    rw [lenOk_most, decide_eq_false_iff_not] at hk
    simp; omega
  have HK := Lib.hid (show pOk f (x :: ys) = false by simp [pOk, hk])
  clear hk hxr
  have hz18 : #[.int .i64 0, .int .i64 0, .int .u8 0, .int .u8 0, .int .u8 0, .int .u8 0, .int .u8 0, .int .u8 0, .int .u8 0, .int .u8 0, .int .u8 0, .int .u8 0, .int .u8 0, .int .u8 0, .int .u8 0, .int .u8 0, .int .u8 0, .int .u8 0] = pfx 0 0 zero16 := pfx_zero.symm
  have o3 := (((Own.new w 32 #[.slice A n c, .int .i64 p]).alloc (.cells #[.slice none 0 0, .int .i64 0] 32)).alloc (.cells (pfx 0 0 zero16) 28))
  have o4 := ((Own.new (w.alloc (.cells #[.slice A n c, .int .i64 p] 32)) 32 #[.slice none 0 0, .int .i64 0]).alloc (.cells (pfx 0 0 zero16) 28))
  have o5 := Own.new ((w.alloc (.cells #[.slice A n c, .int .i64 p] 32)).alloc (.cells #[.slice none 0 0, .int .i64 0] 32)) 28 (pfx 0 0 zero16)
  have hb0 := bl_alloc (bl_alloc (bl_alloc (bl_refl w) (.cells #[.slice A n c, .int .i64 p] 32)) (.cells #[.slice none 0 0, .int .i64 0] 32)) (.cells (pfx 0 0 zero16) 28)
  have hs1 : (w.alloc (.cells #[.slice A n c, .int .i64 p] 32)).heap.size = w.heap.size + 1 := by simp
  have hs2 : ((w.alloc (.cells #[.slice A n c, .int .i64 p] 32)).alloc (.cells #[.slice none 0 0, .int .i64 0] 32)).heap.size = w.heap.size + 1 + 1 := by simp
  rw [hs1] at o4
  rw [hs2] at o5
  clear hs1 hs2
  go_enter Tryd.func18, Tryd.ntmps18
  go_wp2_with fail
  refine (rnum_one A n c x ys p _ ((hx.below hb0).more hb0.size) hc (by omega) (by omega)).mono ?_
  rintro e w1 ⟨A1, c1, rfl, hc1, HB, hb1⟩
  have o31 := o3.step hb1
  have o41 := o4.step hb1
  have o51 := o5.step hb1
  have hbw := bl_trans hb0 hb1
  have f30 := o31.frozen 0
  have f31 := o31.frozen 1
  have c30 := o31.cell (i := 0) (v := .slice A n c) rfl
  have c31 := o31.cell (i := 1) (v := .int .i64 p) rfl
  have hlt := o51.lt
  have p3 := (own_two o31 (.slice A1 (n - 1) c1) (.int .i64 ((p : Int) + 1))).1
  have p4 := own_far (o := 1) (own_far (o := 0) o41 (b := w.heap.size) (by omega) (.slice A1 (n - 1) c1)) (b := w.heap.size) (by omega) (.int .i64 ((p : Int) + 1))
  have p5 := own_far (o := 1) (own_far (o := 0) o51 (b := w.heap.size) (by omega) (.slice A1 (n - 1) c1)) (b := w.heap.size) (by omega) (.int .i64 ((p : Int) + 1))
  have hbW := (hbw.setCell (p := ⟨w.heap.size, 0, none⟩) (Nat.le_refl _) (.slice A1 (n - 1) c1)).setCell (p := ⟨w.heap.size, 1, none⟩) (Nat.le_refl _) (.int .i64 ((p : Int) + 1))
  clear o3 o4 o5 hb0
  go_upto_region 2 with (fail)
  generalize (w1.setCell ⟨w.heap.size, 0, none⟩ (.slice A1 (n - 1) c1)).setCell ⟨w.heap.size, 1, none⟩ (.int .i64 ((p : Int) + 1)) = W at p3 p4 p5 hbW ⊢
  clear o31 o41 o51 hbw hb1 f30 f31 c30 c31 hlt
  have c30 := p3.cell (i := 0) (v := .slice A1 (n - 1) c1) rfl
  have c31 := p3.cell (i := 1) (v := .int .i64 ((p : Int) + 1)) rfl
  have c40 := p4.cell (i := 0) (v := .slice none 0 0) rfl
  have c41 := p4.cell (i := 1) (v := .int .i64 0) rfl
  have f40 := p4.frozen 0
  have f41 := p4.frozen 1
  have hlt := p5.lt
  have q5 := own_far (o := 1) (own_far (o := 0) p5 (b := w.heap.size + 1) (by omega) (.slice A1 (n - 1) c1)) (b := w.heap.size + 1) (by omega) (.int .i64 ((p : Int) + 1))
  have q4 := (own_two p4 (.slice A1 (n - 1) c1) (.int .i64 ((p : Int) + 1))).1
  have hbQ := (hbW.setCell (p := ⟨w.heap.size + 1, 0, none⟩) (Nat.le_succ _) (.slice A1 (n - 1) c1)).setCell (p := ⟨w.heap.size + 1, 1, none⟩) (Nat.le_succ _) (.int .i64 ((p : Int) + 1))
  go_upto_region 3 with (first | (go_at_call 70; refine (most_any _ _).mono ?_; rintro e w' ⟨rfl, rfl⟩))
  refine wp_region_lit ?_
  iterate 5 (go_step; go_simp)
  go_step
  refine wpList_store_row rfl 28 _ _ rfl (w.heap.size + 1 + 1) (pfx 0 0 zero16) rfl rfl 28 (pfx 0 0 zero16) q5 (pfx_info zero16_addr.1) rfl (pfx_one _ _ _) ?_
  iterate 8 go_step
  have hfin := q5.setRow (cs' := pfx 0 0 zero16)
  have hfin4 := q4.keep (setRow_other _ (w.heap.size + 1 + 1) _ (pfx 0 0 zero16) (by omega))
  refine bodyPost_ret (results_2cells (p := 4) (q := 5) (t := 6) (fn := Tryd.f18) rfl _ _ (w.heap.size + 1) 32 #[.slice A1 (n - 1) c1, .int .i64 ((p : Int) + 1)] _ (w.heap.size + 1 + 1) 28 (pfx 0 0 zero16) _ rfl hfin4 rrd_desc rfl (rrd_info _ _) rfl hfin pfx_desc rfl (pfx_info zero16_addr.1)) rfl ⟨⟨A1, n - 1, c1, (p : Int) + 1, by simp [pF, pL, pA, HK.out], fun h => by rw [HK.out] at h; cases h⟩, bl_setRow hbQ (by omega)⟩

set_option maxRecDepth 100000 in
set_option maxHeartbeats 800000 in
theorem rread_short (f : Int) (A : Option Addr) (n c : Nat) (x : Int) (ys : List Int) (p : Nat) (w : World) (hx : Bytes w w.heap.size A n (x :: ys)) (hc : n ≤ c) (hn : n ≤ 100000000) (hp : p ≤ 100000000) (hk : lenOk f x = true) (hs : ys.length < (sizeOfBits x).toNat) :
    Calls Tryd.prog 18 #[.int .i64 f, .agg #[.slice A n c, .int .i64 p]] w fun e w' => RReadTo f A n (x :: ys) p e ∧ Below w.heap.size w w' := by
  have hxr := lenOk_range hk
  have hx0 := hxr.1
  have hx1 := hxr.2
  have d1 : decide (mostOf f < x) = false := by
    rw [lenOk_most, decide_eq_true_eq] at hk
    simp; omega
  have HK := Lib.hid (show pOk f (x :: ys) = false by simp [pOk]; intro _; omega)
  have hnl : n = ys.length + 1 := hx.1
  have hsz : ((n - 1 : Nat) : Int) < (x + 7) / 8 := by unfold sizeOfBits at hs; omega
  clear hk hxr hs hnl
  have hz18 : #[.int .i64 0, .int .i64 0, .int .u8 0, .int .u8 0, .int .u8 0, .int .u8 0, .int .u8 0, .int .u8 0, .int .u8 0, .int .u8 0, .int .u8 0, .int .u8 0, .int .u8 0, .int .u8 0, .int .u8 0, .int .u8 0, .int .u8 0, .int .u8 0] = pfx 0 0 zero16 := pfx_zero.symm
  have o3 := (((Own.new w 32 #[.slice A n c, .int .i64 p]).alloc (.cells #[.slice none 0 0, .int .i64 0] 32)).alloc (.cells (pfx 0 0 zero16) 28))
  have o4 := ((Own.new (w.alloc (.cells #[.slice A n c, .int .i64 p] 32)) 32 #[.slice none 0 0, .int .i64 0]).alloc (.cells (pfx 0 0 zero16) 28))
  have o5 := Own.new ((w.alloc (.cells #[.slice A n c, .int .i64 p] 32)).alloc (.cells #[.slice none 0 0, .int .i64 0] 32)) 28 (pfx 0 0 zero16)
  have hb0 := bl_alloc (bl_alloc (bl_alloc (bl_refl w) (.cells #[.slice A n c, .int .i64 p] 32)) (.cells #[.slice none 0 0, .int .i64 0] 32)) (.cells (pfx 0 0 zero16) 28)
  have hs1 : (w.alloc (.cells #[.slice A n c, .int .i64 p] 32)).heap.size = w.heap.size + 1 := by simp
  have hs2 : ((w.alloc (.cells #[.slice A n c, .int .i64 p] 32)).alloc (.cells #[.slice none 0 0, .int .i64 0] 32)).heap.size = w.heap.size + 1 + 1 := by simp
  rw [hs1] at o4
  rw [hs2] at o5
  clear hs1 hs2
  go_enter Tryd.func18, Tryd.ntmps18
  go_wp2_with fail
  refine (rnum_one A n c x ys p _ ((hx.below hb0).more hb0.size) hc (by omega) (by omega)).mono ?_
  rintro e w1 ⟨A1, c1, rfl, hc1, HB, hb1⟩
  have o31 := o3.step hb1
  have o41 := o4.step hb1
  have o51 := o5.step hb1
  have hbw := bl_trans hb0 hb1
  have f30 := o31.frozen 0
  have f31 := o31.frozen 1
  have c30 := o31.cell (i := 0) (v := .slice A n c) rfl
  have c31 := o31.cell (i := 1) (v := .int .i64 p) rfl
  have hlt := o51.lt
  have p3 := (own_two o31 (.slice A1 (n - 1) c1) (.int .i64 ((p : Int) + 1))).1
  have p4 := own_far (o := 1) (own_far (o := 0) o41 (b := w.heap.size) (by omega) (.slice A1 (n - 1) c1)) (b := w.heap.size) (by omega) (.int .i64 ((p : Int) + 1))
  have p5 := own_far (o := 1) (own_far (o := 0) o51 (b := w.heap.size) (by omega) (.slice A1 (n - 1) c1)) (b := w.heap.size) (by omega) (.int .i64 ((p : Int) + 1))
  have hbW := (hbw.setCell (p := ⟨w.heap.size, 0, none⟩) (Nat.le_refl _) (.slice A1 (n - 1) c1)).setCell (p := ⟨w.heap.size, 1, none⟩) (Nat.le_refl _) (.int .i64 ((p : Int) + 1))
  clear o3 o4 o5 hb0
  go_upto_region 2 with (fail)
  generalize (w1.setCell ⟨w.heap.size, 0, none⟩ (.slice A1 (n - 1) c1)).setCell ⟨w.heap.size, 1, none⟩ (.int .i64 ((p : Int) + 1)) = W at p3 p4 p5 hbW ⊢
  clear o31 o41 o51 hbw hb1 f30 f31 c30 c31 hlt
  have c30 := p3.cell (i := 0) (v := .slice A1 (n - 1) c1) rfl
  have c31 := p3.cell (i := 1) (v := .int .i64 ((p : Int) + 1)) rfl
  have c40 := p4.cell (i := 0) (v := .slice none 0 0) rfl
  have c41 := p4.cell (i := 1) (v := .int .i64 0) rfl
  have f40 := p4.frozen 0
  have f41 := p4.frozen 1
  have hlt := p5.lt
  go_upto_region 4 with (first | (go_at_call 70; refine (most_any _ _).mono ?_; rintro e w' ⟨rfl, rfl⟩))
  go_wp2_with fail
  refine (rtake_no A1 (n - 1) c1 ((p : Int) + 1) _ _ (.inr hsz) (by omega)).mono ?_
  rintro e w2 ⟨rfl, hb2⟩
  have hb3 := bl_alloc hb2 (.cells #[.slice A1 (n - 1) c1, .int .i64 ((p : Int) + 1)] 32)
  have r3 := p3.step hb3
  have r4 := p4.step hb3
  have r5 := p5.step hb3
  have hbR := bl_trans hbW hb3
  go_upto_region 6 with (fail)
  generalize w2.alloc (.cells #[.slice A1 (n - 1) c1, .int .i64 ((p : Int) + 1)] 32) = V at r3 r4 r5 hbR ⊢
  clear p3 p4 p5 hbW c30 c31 c40 c41 f40 f41 hlt hb2 hb3
  have p3 := r3
  have p4 := r4
  have p5 := r5
  have hbW := hbR
  clear r3 r4 r5 hbR
  have c30 := p3.cell (i := 0) (v := .slice A1 (n - 1) c1) rfl
  have c31 := p3.cell (i := 1) (v := .int .i64 ((p : Int) + 1)) rfl
  have c40 := p4.cell (i := 0) (v := .slice none 0 0) rfl
  have c41 := p4.cell (i := 1) (v := .int .i64 0) rfl
  have f40 := p4.frozen 0
  have f41 := p4.frozen 1
  have hlt := p5.lt
  have q5 := own_far (o := 1) (own_far (o := 0) p5 (b := w.heap.size + 1) (by omega) (.slice A1 (n - 1) c1)) (b := w.heap.size + 1) (by omega) (.int .i64 ((p : Int) + 1))
  have q4 := (own_two p4 (.slice A1 (n - 1) c1) (.int .i64 ((p : Int) + 1))).1
  have hbQ := (hbW.setCell (p := ⟨w.heap.size + 1, 0, none⟩) (Nat.le_succ _) (.slice A1 (n - 1) c1)).setCell (p := ⟨w.heap.size + 1, 1, none⟩) (Nat.le_succ _) (.int .i64 ((p : Int) + 1))
  go_upto_region 6 with (first | (go_at_call 70; refine (most_any _ _).mono ?_; rintro e w' ⟨rfl, rfl⟩))
  refine wp_region_lit ?_
  iterate 5 (go_step; go_simp)
  go_step
  refine wpList_store_row rfl 28 _ _ rfl (w.heap.size + 1 + 1) (pfx 0 0 zero16) rfl rfl 28 (pfx 0 0 zero16) q5 (pfx_info zero16_addr.1) rfl (pfx_one _ _ _) ?_
  iterate 8 go_step
  have hfin := q5.setRow (cs' := pfx 0 0 zero16)
  have hfin4 := q4.keep (setRow_other _ (w.heap.size + 1 + 1) _ (pfx 0 0 zero16) (by omega))
  refine bodyPost_ret (results_2cells (p := 4) (q := 5) (t := 6) (fn := Tryd.f18) rfl _ _ (w.heap.size + 1) 32 #[.slice A1 (n - 1) c1, .int .i64 ((p : Int) + 1)] _ (w.heap.size + 1 + 1) 28 (pfx 0 0 zero16) _ rfl hfin4 rrd_desc rfl (rrd_info _ _) rfl hfin pfx_desc rfl (pfx_info zero16_addr.1)) rfl ⟨⟨A1, n - 1, c1, (p : Int) + 1, by simp [pF, pL, pA, HK.out], fun h => by rw [HK.out] at h; cases h⟩, bl_setRow hbQ (by omega)⟩

set_option maxRecDepth 100000 in
set_option maxHeartbeats 1600000 in
theorem rread_yes (f : Int) (A : Option Addr) (n c : Nat) (x : Int) (ys : List Int) (p : Nat) (w : World) (hx : Bytes w w.heap.size A n (x :: ys)) (hc : n ≤ c) (hn : n ≤ 100000000) (hp : p ≤ 100000000) (hk : lenOk f x = true) (hs : (sizeOfBits x).toNat ≤ ys.length) :
    Calls Tryd.prog 18 #[.int .i64 f, .agg #[.slice A n c, .int .i64 p]] w fun e w' => RReadTo f A n (x :: ys) p e ∧ Below w.heap.size w w' := by
  have hxr := lenOk_range hk
  have hx0 := hxr.1
  have hx1 := hxr.2
  have d1 : decide (mostOf f < x) = false := by
    have hk' := hk
    rw [lenOk_most, decide_eq_true_eq] at hk'
    simp; omega
  have HK := Lib.hid (show pOk f (x :: ys) = true by simp [pOk, hk, hs])
  have hnl : n = ys.length + 1 := hx.1
  have hsz : (x + 7) / 8 ≤ ((n - 1 : Nat) : Int) := by unfold sizeOfBits at hs; omega
  have HM := Lib.hid (show makeOk f x ((x + 7) / 8).toNat = true from lenOk_make hk)
  have HX := Lib.hid hx
  have hk17 : (x + 7) / 8 ≤ 17 := by omega
  clear hk hxr hs hnl
  have hz18 : #[.int .i64 0, .int .i64 0, .int .u8 0, .int .u8 0, .int .u8 0, .int .u8 0, .int .u8 0, .int .u8 0, .int .u8 0, .int .u8 0, .int .u8 0, .int .u8 0, .int .u8 0, .int .u8 0, .int .u8 0, .int .u8 0, .int .u8 0, .int .u8 0] = pfx 0 0 zero16 := pfx_zero.symm
  have o3 := (((Own.new w 32 #[.slice A n c, .int .i64 p]).alloc (.cells #[.slice none 0 0, .int .i64 0] 32)).alloc (.cells (pfx 0 0 zero16) 28))
  have o4 := ((Own.new (w.alloc (.cells #[.slice A n c, .int .i64 p] 32)) 32 #[.slice none 0 0, .int .i64 0]).alloc (.cells (pfx 0 0 zero16) 28))
  have o5 := Own.new ((w.alloc (.cells #[.slice A n c, .int .i64 p] 32)).alloc (.cells #[.slice none 0 0, .int .i64 0] 32)) 28 (pfx 0 0 zero16)
  have hb0 := bl_alloc (bl_alloc (bl_alloc (bl_refl w) (.cells #[.slice A n c, .int .i64 p] 32)) (.cells #[.slice none 0 0, .int .i64 0] 32)) (.cells (pfx 0 0 zero16) 28)
  have hs1 : (w.alloc (.cells #[.slice A n c, .int .i64 p] 32)).heap.size = w.heap.size + 1 := by simp
  have hs2 : ((w.alloc (.cells #[.slice A n c, .int .i64 p] 32)).alloc (.cells #[.slice none 0 0, .int .i64 0] 32)).heap.size = w.heap.size + 1 + 1 := by simp
  rw [hs1] at o4
  rw [hs2] at o5
  clear hs1 hs2
  go_enter Tryd.func18, Tryd.ntmps18
  go_wp2_with fail
  refine (rnum_one A n c x ys p _ ((hx.below hb0).more hb0.size) hc (by omega) (by omega)).mono ?_
  rintro e w1 ⟨A1, c1, rfl, hc1, HB, hb1⟩
  have o31 := o3.step hb1
  have o41 := o4.step hb1
  have o51 := o5.step hb1
  have hbw := bl_trans hb0 hb1
  have f30 := o31.frozen 0
  have f31 := o31.frozen 1
  have c30 := o31.cell (i := 0) (v := .slice A n c) rfl
  have c31 := o31.cell (i := 1) (v := .int .i64 p) rfl
  have hlt := o51.lt
  have p3 := (own_two o31 (.slice A1 (n - 1) c1) (.int .i64 ((p : Int) + 1))).1
  have p4 := own_far (o := 1) (own_far (o := 0) o41 (b := w.heap.size) (by omega) (.slice A1 (n - 1) c1)) (b := w.heap.size) (by omega) (.int .i64 ((p : Int) + 1))
  have p5 := own_far (o := 1) (own_far (o := 0) o51 (b := w.heap.size) (by omega) (.slice A1 (n - 1) c1)) (b := w.heap.size) (by omega) (.int .i64 ((p : Int) + 1))
  have hbW := (hbw.setCell (p := ⟨w.heap.size, 0, none⟩) (Nat.le_refl _) (.slice A1 (n - 1) c1)).setCell (p := ⟨w.heap.size, 1, none⟩) (Nat.le_refl _) (.int .i64 ((p : Int) + 1))
  clear o3 o4 o5 hb0
  go_upto_region 2 with (fail)
  generalize (w1.setCell ⟨w.heap.size, 0, none⟩ (.slice A1 (n - 1) c1)).setCell ⟨w.heap.size, 1, none⟩ (.int .i64 ((p : Int) + 1)) = W at p3 p4 p5 hbW ⊢
  clear o31 o41 o51 hbw hb1 f30 f31 c30 c31 hlt
  have c30 := p3.cell (i := 0) (v := .slice A1 (n - 1) c1) rfl
  have c31 := p3.cell (i := 1) (v := .int .i64 ((p : Int) + 1)) rfl
  have c40 := p4.cell (i := 0) (v := .slice none 0 0) rfl
  have c41 := p4.cell (i := 1) (v := .int .i64 0) rfl
  have f40 := p4.frozen 0
  have f41 := p4.frozen 1
  have hlt := p5.lt
  go_upto_region 4 with (first | (go_at_call 70; refine (most_any _ _).mono ?_; rintro e w' ⟨rfl, rfl⟩))
  go_wp2_with fail
  refine (rtake_yes A1 (n - 1) c1 ((p : Int) + 1) ((x + 7) / 8) _ hc1 (by omega) (by omega) (by omega) (by omega) hsz).mono ?_
  rintro e w2 ⟨A2, c2, rfl, hc2, HB2, hb2⟩
  have hb3 := bl_alloc hb2 (.cells #[.slice A2 (n - 1 - ((x + 7) / 8).toNat) c2, .int .i64 ((p : Int) + 1 + (x + 7) / 8)] 32)
  have o9 := Own.new w2 32 #[.slice A2 (n - 1 - ((x + 7) / 8).toNat) c2, .int .i64 ((p : Int) + 1 + (x + 7) / 8)]
  have r4 := p4.step hb3
  have r5 := p5.step hb3
  have hbR := bl_trans hbW hb3
  go_upto_region 7 with (fail)
  generalize hb9 : w2.heap.size = b9 at o9 ⊢
  have hb9l : w.heap.size + 1 + 1 < b9 := by have := (p5.step hb2).lt; omega
  clear hb9
  generalize w2.alloc (.cells #[.slice A2 (n - 1 - ((x + 7) / 8).toNat) c2, .int .i64 ((p : Int) + 1 + (x + 7) / 8)] 32) = V at o9 r4 r5 hbR ⊢
  clear p3 p4 p5 hbW c30 c31 c40 c41 f40 f41 hlt hb2 hb3
  have hby : Bytes V V.heap.size A1 ((x + 7) / 8).toNat (ys.take ((x + 7) / 8).toNat) :=
    ((HB V V.heap.size (x :: ys) ((HX.out.below hbR).more hbR.size)).front (by omega) : _)
  go_wp2_with fail
  refine (rmake_yes f x A1 _ c1 _ _ hby HM.out).mono ?_
  rintro e w3 ⟨rfl, hb4⟩
  have hpa : IsAddr (maskL x (padTo (ys.take ((x + 7) / 8).toNat))) := maskL_addr x (padTo_addr (by have := hby.1; omega) hby.2.1)
  have HI := Lib.hid (pfx_info (f := f) (l := x) hpa.1)
  have HIL := Lib.hid (pfx_infol (f := f) (l := x) hpa.1)
  have HS := Lib.hid (show (pfx 0 0 zero16).size = (pfx f x (maskL x (padTo (ys.take ((x + 7) / 8).toNat)))).size by rw [pfx_size zero16_addr.1, pfx_size hpa.1])
  generalize hP : maskL x (padTo (ys.take ((x + 7) / 8).toNat)) = P at hpa HI HIL HS ⊢
  have HP := Lib.hid hP
  clear hP
  have o12 := Own.new w3 28 (pfx 0 0 zero16)
  have hb5 : Below V.heap.size V ((w3.alloc (.cells (pfx 0 0 zero16) 28)).setRow w3.heap.size (pfx f x P)) := bl_setRow (bl_alloc hb4 _) hb4.size
  have s9 := o9.step hb5
  have s4 := r4.step hb5
  have s5 := r5.step hb5
  have hbS := bl_trans hbR hb5
  have s12 := o12.setRow (cs' := pfx f x P)
  have hl5 := (r5.step hb4).lt
  have hl9 := (o9.step hb4).lt
  clear o9 r4 r5 hbR hb5
  go_upto_region 8 with (refine wpList_store_row rfl 28 _ _ rfl w3.heap.size (pfx f x P) rfl rfl 28 (pfx 0 0 zero16) o12 HI.out HS.out (pfx_one _ _ _) ?_)
  clear o12
  generalize (w3.alloc (.cells (pfx 0 0 zero16) 28)).setRow w3.heap.size (pfx f x P) = U at s9 s4 s5 s12 hbS ⊢
  generalize hb12 : w3.heap.size = b12 at s12 hl5 hl9 ⊢
  clear hb12 hb4 hby
  have g12 : U.rangeAt b12 0 (pfx f x P).toList := fun j v hv => by
    rw [Nat.zero_add]
    exact s12.cell (by simpa using hv)
  have c90 := s9.cell (i := 0) (v := .slice A2 (n - 1 - ((x + 7) / 8).toNat) c2) rfl
  have c91 := s9.cell (i := 1) (v := .int .i64 ((p : Int) + 1 + (x + 7) / 8)) rfl
  have c40 := s4.cell (i := 0) (v := .slice none 0 0) rfl
  have c41 := s4.cell (i := 1) (v := .int .i64 0) rfl
  have f40 := s4.frozen 0
  have f41 := s4.frozen 1
  refine wp_region_held_drew (S := fun W => W.cell? ⟨b9, 0, none⟩ = some (.slice A2 (n - 1 - ((x + 7) / 8).toNat) c2) ∧ W.cell? ⟨b9, 1, none⟩ = some (.int .i64 ((p : Int) + 1 + (x + 7) / 8)) ∧ W.rangeAt b12 0 (pfx f x P).toList) (by kernel_rfl) ⟨c90, c91, g12⟩ (fun hHeld => ?_)
  refine wpAnyH_take (i := 0) (v := ?_) rfl (by kernel_rfl) (by kernel_rfl) (by kernel_rfl) (fun _ _ _ h => h) (Or.inl ⟨by rfl, ?_⟩) (by assumption) ?_
  rotate_left
  · (intro W hSw; obtain ⟨s1, s2, s3⟩ := hSw; go_simp; try with_reducible rfl)
  simp only [Act.put, List.getElem_toArray, List.getElem_cons_zero, List.setIfInBounds_toArray, List.set_cons_zero, List.set_cons_succ]
  refine wpAnyH_take (i := 1) (v := _) rfl (by kernel_rfl) (by kernel_rfl) (by kernel_rfl) (fun _ _ _ h => h) (yieldsIf_load_mid (by rfl) 28 _ rfl b12 0 rfl (pfx f x P).toList _ (fun W hW => hW.2.2) pfx_desc rfl HIL.out) (by assumption) ?_
  simp only [Act.put, List.getElem_toArray, List.getElem_cons_zero, List.getElem_cons_succ, List.setIfInBounds_toArray, List.set_cons_zero, List.set_cons_succ]
  refine wpAnyH_ready (rs := [2]) (by kernel_rfl) (by simp) ?_
  refine AllReadyH.cons rfl (fun K hK => ?_) AllReadyH.nil
  go_simp
  have t4 := (own_two s4 (.slice A2 (n - 1 - ((x + 7) / 8).toNat) c2) (.int .i64 ((p : Int) + 1 + (x + 7) / 8))).1
  have t5 := own_far (o := 1) (own_far (o := 0) s5 (b := w.heap.size + 1) (by omega) (.slice A2 (n - 1 - ((x + 7) / 8).toNat) c2)) (b := w.heap.size + 1) (by omega) (.int .i64 ((p : Int) + 1 + (x + 7) / 8))
  have t9 := own_far (o := 1) (own_far (o := 0) s9 (b := w.heap.size + 1) (by omega) (.slice A2 (n - 1 - ((x + 7) / 8).toNat) c2)) (b := w.heap.size + 1) (by omega) (.int .i64 ((p : Int) + 1 + (x + 7) / 8))
  have t12 := own_far (o := 1) (own_far (o := 0) s12 (b := w.heap.size + 1) (by omega) (.slice A2 (n - 1 - ((x + 7) / 8).toNat) c2)) (b := w.heap.size + 1) (by omega) (.int .i64 ((p : Int) + 1 + (x + 7) / 8))
  have hbT := (hbS.setCell (p := ⟨w.heap.size + 1, 0, none⟩) (Nat.le_succ _) (.slice A2 (n - 1 - ((x + 7) / 8).toNat) c2)).setCell (p := ⟨w.heap.size + 1, 1, none⟩) (Nat.le_succ _) (.int .i64 ((p : Int) + 1 + (x + 7) / 8))
  have g12' : ((U.setCell ⟨w.heap.size + 1, 0, none⟩ (.slice A2 (n - 1 - ((x + 7) / 8).toNat) c2)).setCell ⟨w.heap.size + 1, 1, none⟩ (.int .i64 ((p : Int) + 1 + (x + 7) / 8))).rangeAt b12 0 (pfx f x P).toList := fun j v hv => by
    rw [Nat.zero_add]
    exact t12.cell (by simpa using hv)
  refine hK.out _ _ ⟨t9.cell (i := 0) rfl, t9.cell (i := 1) rfl, g12'⟩ (fun hHeld2 => ?_)
  clear hK K hHeld
  refine wpAnyH_ready (rs := [3]) (by kernel_rfl) (by simp) ?_
  refine AllReadyH.cons rfl (fun K hK => ?_) AllReadyH.nil
  refine wp_store_row 28 _ _ rfl (w.heap.size + 1 + 1) (pfx f x P) rfl rfl 28 (pfx 0 0 zero16) t5.drew HI.out HS.out (pfx_one _ _ _) ?_
  have hfin := t5.setRow (cs' := pfx f x P)
  have hfin4 := t4.keep (setRow_other _ (w.heap.size + 1 + 1) _ (pfx f x P) (by omega))
  have hfin9 := t9.keep (setRow_other _ (w.heap.size + 1 + 1) _ (pfx f x P) (by omega))
  have hfin12 := t12.keep (setRow_other _ (w.heap.size + 1 + 1) _ (pfx f x P) (by omega))
  have hbF := bl_setRow (cs := pfx f x P) (g := w.heap.size + 1 + 1) hbT (by omega)
  refine hK.out _ _ ⟨hfin9.cell (i := 0) rfl, hfin9.cell (i := 1) rfl, fun j v hv => ?_⟩ (fun hHeld3 => ?_)
  · rw [Nat.zero_add]
    exact hfin12.cell (by simpa using hv)
  clear hK K hHeld2
  refine wpAnyH_take (i := 4) (v := ?_) rfl (by kernel_rfl) (by kernel_rfl) (by kernel_rfl) (fun _ _ _ h => h) (Or.inl ⟨by rfl, ?_⟩) (by assumption) ?_
  rotate_left
  · (intro W hSw; obtain ⟨s1, s2, s3⟩ := hSw; go_simp; try with_reducible rfl)
  simp only [Act.put, List.getElem_toArray, List.getElem_cons_zero, List.getElem_cons_succ, List.setIfInBounds_toArray, List.set_cons_zero, List.set_cons_succ]
  refine wpAnyH_done (by kernel_rfl) ?_ _
  iterate 3 go_step
  refine bodyPost_ret (results_2cells (p := 4) (q := 5) (t := 6) (fn := Tryd.f18) rfl _ _ (w.heap.size + 1) 32 #[.slice A2 (n - 1 - ((x + 7) / 8).toNat) c2, .int .i64 ((p : Int) + 1 + (x + 7) / 8)] _ (w.heap.size + 1 + 1) 28 (pfx f x P) _ rfl hfin4.drew rrd_desc rfl (rrd_info _ _) rfl hfin.drew pfx_desc rfl HI.out) rfl ⟨⟨A2, n - 1 - ((x + 7) / 8).toNat, c2, (p : Int) + 1 + (x + 7) / 8, ?_, fun _ => ?_⟩, hbF.drew⟩
  · have e1 : pF f (x :: ys) = f := by unfold pF; rw [if_pos HK.out]
    have e2 : pL f (x :: ys) = x := by unfold pL; rw [if_pos HK.out]; rfl
    have e3 : pA f (x :: ys) = P := by unfold pA; rw [if_pos HK.out]; exact HP.out
    rw [e1, e2, e3, HK.out]; rfl
  · have e : pN (x :: ys) = 1 + ((x + 7) / 8).toNat := rfl
    rw [e]
    refine ⟨by omega, hc2, by omega, ?_⟩
    intro W B xs h
    have h2 := HB2 W B (xs.drop 1) (HB W B xs h)
    rw [List.drop_drop, Nat.sub_sub] at h2
    exact h2
end Go.Proofs.YtiehbmhekncbhaaDoor
