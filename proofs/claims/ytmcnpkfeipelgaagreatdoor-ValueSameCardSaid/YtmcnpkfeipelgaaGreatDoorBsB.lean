/- basic.Read -/
import Derived.Test.YtmcnpkfeipelgaaGreatDoorBsA
import Derived.Test.YtmcnpkfeipelgaaGreatDoorAny
import Derived.Test.YtmcnpkfeipelgaaGreatDoorAt
namespace Go.Proofs.YtmcnpkfeipelgaaGreatDoor
open Go.RowKit Go.Maps

/-- An attribute that is a number. -/
def atV (k N : Int) : Array Value := #[.int .i64 k, .bool false, .int .u32 N, .int .u32 0, .slice none 0 0, .slice none 0 0, .slice none 0 0, .int .i64 0, .slice none 0 0]
def bRefuse (k : Int) : Int := if k = 6 then 1 else 2
set_option maxRecDepth 100000 in
theorem refusal_any (k : Int) (w : World) : Calls Tryz.prog 232 #[.int .i64 k] w fun e w' => e = .returned (.int .i64 (bRefuse k)) ∧ w = w' := by
  unfold bRefuse
  by_cases h : k = 6
  · subst h
    go_enter Tryz.func232, Tryz.ntmps232
    go_wp2
    go_ret
    exact ⟨rfl, rfl⟩
  · have q : (k == 6) = false := by simpa using h
    rw [if_neg h]
    go_enter Tryz.func232, Tryz.ntmps232
    go_wp2
    go_ret
    exact ⟨rfl, rfl⟩
set_option maxRecDepth 100000 in
theorem brow_info (a b c : Value) : (Tryz.prog.info? 151).map (·.size) = some (#[a, b, c] : Array Value).size := by kernel_rfl
set_option maxRecDepth 100000 in
theorem brow_desc : Tryz.prog.underlying 151 = some (.struct (Tryz.prog.fieldsOf 151)) := by kernel_rfl
theorem brow_one (s : Int) (f g : Nat) : (#[Value.int .i64 s, .func (.func f) #[] #[], .func (.func g) #[] #[]]).all (·.oneCell') = true := by simp [Value.oneCell']
set_option maxRecDepth 100000 in
theorem fits1_any (x : Int) (w : World) : Calls Tryz.prog 142 #[.int .u32 x] w fun e w' => e = .returned (.bool (decide (x ≤ 2))) ∧ w = w' := by
  go_enter Tryz.func142, Tryz.ntmps142
  go_wp2
  go_ret
  exact ⟨rfl, rfl⟩
set_option maxRecDepth 100000 in
theorem fits6_any (x : Int) (w : World) : Calls Tryz.prog 149 #[.int .u32 x] w fun e w' => e = .returned (.bool (x == 0)) ∧ w = w' := by
  go_enter Tryz.func149, Tryz.ntmps149
  go_wp2
  go_ret
  exact ⟨rfl, rfl⟩
set_option maxRecDepth 100000 in
theorem fitsF_any (x : Int) (w : World) : Calls Tryz.prog 141 #[.int .u32 x] w fun e w' => e = .returned (.bool true) ∧ w = w' := by
  go_enter Tryz.func141, Tryz.ntmps141
  go_wp2
  go_ret
  exact ⟨rfl, rfl⟩
theorem brow1 : bRow 1 = #[.int .i64 1, .func (.func 142) #[] #[], .func (.func 143) #[] #[]] := rfl
theorem bkn1 : bKnown 1 = true := rfl
set_option maxRecDepth 100000 in
set_option maxHeartbeats 1600000 in
theorem bread_1n (A : Option Addr) (n c : Nat) (xs : List Int) (w : World) (hx : Bytes w w.heap.size A n xs) (hn : n ≤ 1000000) (hsz : (n : Int) ≠ 1) :
    Calls Tryz.prog 228 #[.int .i64 1, .slice A n c] w fun e w' => e = .returned (.tuple #[.agg (atV 0 0), .int .i64 (bRefuse 1)]) ∧ Below w.heap.size w w' := by
  have hb0 := bl_alloc (bl_refl w) (.cells (atV 0 0) 37)
  have o0 := Own.new w 37 (atV 0 0)
  have HX := Lib.hid hx
  have HL := Lib.hid hx.1
  unfold atV at hb0 o0
  have e1 : ((n : Int) != 1) = true := by simpa using hsz
  have HN := Lib.hid hsz
  clear hsz
  unfold atV
  clear hx
  go_enter Tryz.func228, Tryz.ntmps228
  go_wp2_with fail
  refine (rows_any _).mono ?_
  rintro e w1 ⟨b, rfl, hown, hb1⟩
  have o1 := o0.step hb1
  have hb2 := bl_trans hb0 hb1
  have oN := Own.new w1 151 bNil
  have hbN := bl_alloc hb2 (.cells bNil 151)
  have hlt1 := o1.lt
  go_wp2_with (first | (at_lookup; refine wpList_lookup_own_ok _ rfl _ _ 153 rfl 3 151 bint_key Tryz.underlying153 heldE (brow_zero _) (.held (.agg bNil)) [] rfl b 6 rMap rfl hown _ _ rfl (keyOf_int_mk Tryz.underlying3 rfl) ?_; intro v ps hv; obtain rfl := brow_at hv; rw [(rMap_at 1).2, brow1, bkn1]; clear hv hown) | (refine wpList_store_row rfl 151 _ _ rfl w1.heap.size #[.int .i64 1, .func (.func 142) #[] #[], .func (.func 143) #[] #[]] rfl rfl 151 bNil oN (brow_info _ _ _) rfl (brow_one _ _ _) ?_))
  have oR := oN.setRow (cs' := #[.int .i64 1, .func (.func 142) #[] #[], .func (.func 143) #[] #[]])
  have hbR := bl_setRow (g := w1.heap.size) (cs := #[.int .i64 1, .func (.func 142) #[] #[], .func (.func 143) #[] #[]]) hbN hb2.size
  have oA := (o1.alloc (.cells bNil 151)).keep (setRow_other (w1.alloc (.cells bNil 151)) w1.heap.size w.heap.size #[.int .i64 1, .func (.func 142) #[] #[], .func (.func 143) #[] #[]] (by omega))
  unfold bNil at oN oR hbR oA
  generalize (w1.alloc (.cells #[.int .i64 0, .nilFunc, .nilFunc] 151)).setRow w1.heap.size #[.int .i64 1, .func (.func 142) #[] #[], .func (.func 143) #[] #[]] = V at *
  have hlR := oR.lt
  have HXV := Lib.hid (show Bytes V.drew V.drew.heap.size A n xs from (HX.out.below hbR).more hbR.size)
  have HS0 : V.drew.cell? ⟨w1.heap.size, 0, none⟩ = some (.int .i64 1) := oR.cell (i := 0) rfl
  clear o0 o1 oN hbN hb2 hb0 hb1
  go_region_held3 (fun W => W.cell? ⟨w1.heap.size, 0, none⟩ = some (.int .i64 1)) (with_reducible first | exact HS0 | exact HS2 | exact HS3) ((first
    | (go_at_call 13; (with_reducible refine (new_any A n c xs _ HXV.out (by omega)).mono ?_); rintro e w4 ⟨g, rfl, hg, hr, hb4⟩; have hgV : V.heap.size ≤ g := hg; have HS2 : w4.cell? ⟨w1.heap.size, 0, none⟩ = some (.int .i64 1) := (oR.drew.step hb4).cell (i := 0) rfl)
    | (go_at_call 88; (with_reducible refine (num_any g xs 0 1 _ hr (by have := HL.out; omega) (by omega)).mono ?_); rintro e w5 ⟨rfl, hr5, hg5⟩; have HS3 : w5.cell? ⟨w1.heap.size, 0, none⟩ = some (.int .i64 1) := ((oR.drew.step hb4).grown hg5 (by intro e; have := Option.some.inj e; omega)).cell (i := 0) rfl)))
  have oR5 := (oR.drew.step hb4).grown hg5 (by intro e; have := Option.some.inj e; omega)
  have oA5 := (oA.drew.step hb4).grown hg5 (by intro e; have := Option.some.inj e; omega)
  have hb5 : Below w.heap.size w w5 := bl_only (bl_trans hbR.drew hb4) hg5 (by have := hbR.size; omega)
  clear oR oA hb4 hg5 hr5 hr HS0 HS2 HS3 hgV hg hlR hlt1 hbR HXV
  have r0 := oR5.cell (i := 0) (v := .int .i64 1) rfl
  have r1 := oR5.cell (i := 1) (v := .func (.func 142) #[] #[]) rfl
  go_wp2_with (first | (go_at_call 142; refine (fits1_any (numV xs 1) _).mono ?_; rintro e w' ⟨rfl, rfl⟩) | (go_at_call 232; refine (refusal_any 1 _).mono ?_; rintro e w' ⟨rfl, rfl⟩) | (refine wpList_store_row rfl 37 _ _ rfl w.heap.size #[.int .i64 0, .bool false, .int .u32 0, .int .u32 0, .slice none 0 0, .slice none 0 0, .slice none 0 0, .int .i64 0, .slice none 0 0] rfl rfl 37 #[.int .i64 0, .bool false, .int .u32 0, .int .u32 0, .slice none 0 0, .slice none 0 0, .slice none 0 0, .int .i64 0, .slice none 0 0] oA5 (at_info9 _ _ _ _ _ _ _ _ _) rfl (at_one _ _) ?_))
  have oZ := oA5.setRow (cs' := #[.int .i64 0, .bool false, .int .u32 0, .int .u32 0, .slice none 0 0, .slice none 0 0, .slice none 0 0, .int .i64 0, .slice none 0 0])
  have hbZ := bl_setRow (g := w.heap.size) (cs := #[.int .i64 0, .bool false, .int .u32 0, .int .u32 0, .slice none 0 0, .slice none 0 0, .slice none 0 0, .int .i64 0, .slice none 0 0]) hb5 (Nat.le_refl _)
  refine bodyPost_ret (results_cell_tmp (p := 4) (t := 5) (fn := Tryz.f228) rfl _ _ w.heap.size 37 #[.int .i64 0, .bool false, .int .u32 0, .int .u32 0, .slice none 0 0, .slice none 0 0, .slice none 0 0, .int .i64 0, .slice none 0 0] _ rfl oZ at_desc rfl (at_info9 _ _ _ _ _ _ _ _ _)) rfl ⟨rfl, hbZ⟩
set_option maxRecDepth 100000 in
set_option maxHeartbeats 1600000 in
theorem bread_1y (A : Option Addr) (n c : Nat) (xs : List Int) (w : World) (hx : Bytes w w.heap.size A n xs) (hn : n ≤ 1000000) (hsz : (n : Int) = 1) (hq : numV xs 1 ≤ 2) :
    Calls Tryz.prog 228 #[.int .i64 1, .slice A n c] w fun e w' => e = .returned (.tuple #[.agg (atV 1 (numV xs 1)), .int .i64 (0)]) ∧ Below w.heap.size w w' := by
  have hb0 := bl_alloc (bl_refl w) (.cells (atV 0 0) 37)
  have o0 := Own.new w 37 (atV 0 0)
  have HX := Lib.hid hx
  have HL := Lib.hid hx.1
  unfold atV at hb0 o0
  have e1 : ((n : Int) != 1) = false := by simpa using hsz
  have HN := Lib.hid hsz
  clear hsz
  unfold atV
  have e2 : decide (numV xs 1 ≤ 2) = true := by simpa using hq
  have HQ := Lib.hid hq
  clear hq
  clear hx
  go_enter Tryz.func228, Tryz.ntmps228
  go_wp2_with fail
  refine (rows_any _).mono ?_
  rintro e w1 ⟨b, rfl, hown, hb1⟩
  have o1 := o0.step hb1
  have hb2 := bl_trans hb0 hb1
  have oN := Own.new w1 151 bNil
  have hbN := bl_alloc hb2 (.cells bNil 151)
  have hlt1 := o1.lt
  go_wp2_with (first | (at_lookup; refine wpList_lookup_own_ok _ rfl _ _ 153 rfl 3 151 bint_key Tryz.underlying153 heldE (brow_zero _) (.held (.agg bNil)) [] rfl b 6 rMap rfl hown _ _ rfl (keyOf_int_mk Tryz.underlying3 rfl) ?_; intro v ps hv; obtain rfl := brow_at hv; rw [(rMap_at 1).2, brow1, bkn1]; clear hv hown) | (refine wpList_store_row rfl 151 _ _ rfl w1.heap.size #[.int .i64 1, .func (.func 142) #[] #[], .func (.func 143) #[] #[]] rfl rfl 151 bNil oN (brow_info _ _ _) rfl (brow_one _ _ _) ?_))
  have oR := oN.setRow (cs' := #[.int .i64 1, .func (.func 142) #[] #[], .func (.func 143) #[] #[]])
  have hbR := bl_setRow (g := w1.heap.size) (cs := #[.int .i64 1, .func (.func 142) #[] #[], .func (.func 143) #[] #[]]) hbN hb2.size
  have oA := (o1.alloc (.cells bNil 151)).keep (setRow_other (w1.alloc (.cells bNil 151)) w1.heap.size w.heap.size #[.int .i64 1, .func (.func 142) #[] #[], .func (.func 143) #[] #[]] (by omega))
  unfold bNil at oN oR hbR oA
  generalize (w1.alloc (.cells #[.int .i64 0, .nilFunc, .nilFunc] 151)).setRow w1.heap.size #[.int .i64 1, .func (.func 142) #[] #[], .func (.func 143) #[] #[]] = V at *
  have hlR := oR.lt
  have HXV := Lib.hid (show Bytes V.drew V.drew.heap.size A n xs from (HX.out.below hbR).more hbR.size)
  have HS0 : V.drew.cell? ⟨w1.heap.size, 0, none⟩ = some (.int .i64 1) := oR.cell (i := 0) rfl
  clear o0 o1 oN hbN hb2 hb0 hb1
  go_region_held3 (fun W => W.cell? ⟨w1.heap.size, 0, none⟩ = some (.int .i64 1)) (with_reducible first | exact HS0 | exact HS2 | exact HS3) ((first
    | (go_at_call 13; (with_reducible refine (new_any A n c xs _ HXV.out (by omega)).mono ?_); rintro e w4 ⟨g, rfl, hg, hr, hb4⟩; have hgV : V.heap.size ≤ g := hg; have HS2 : w4.cell? ⟨w1.heap.size, 0, none⟩ = some (.int .i64 1) := (oR.drew.step hb4).cell (i := 0) rfl)
    | (go_at_call 88; (with_reducible refine (num_any g xs 0 1 _ hr (by have := HL.out; omega) (by omega)).mono ?_); rintro e w5 ⟨rfl, hr5, hg5⟩; have HS3 : w5.cell? ⟨w1.heap.size, 0, none⟩ = some (.int .i64 1) := ((oR.drew.step hb4).grown hg5 (by intro e; have := Option.some.inj e; omega)).cell (i := 0) rfl)))
  have oR5 := (oR.drew.step hb4).grown hg5 (by intro e; have := Option.some.inj e; omega)
  have oA5 := (oA.drew.step hb4).grown hg5 (by intro e; have := Option.some.inj e; omega)
  have hb5 : Below w.heap.size w w5 := bl_only (bl_trans hbR.drew hb4) hg5 (by have := hbR.size; omega)
  clear oR oA hb4 hg5 hr5 hr HS0 HS2 HS3 hgV hg hlR hlt1 hbR HXV
  have r0 := oR5.cell (i := 0) (v := .int .i64 1) rfl
  have r1 := oR5.cell (i := 1) (v := .func (.func 142) #[] #[]) rfl
  go_wp2_with (first | (go_at_call 142; refine (fits1_any (numV xs 1) _).mono ?_; rintro e w' ⟨rfl, rfl⟩) | (go_at_call 232; refine (refusal_any 1 _).mono ?_; rintro e w' ⟨rfl, rfl⟩) | (refine wpList_store_row rfl 37 _ _ rfl w.heap.size #[.int .i64 1, .bool false, .int .u32 (numV xs 1), .int .u32 0, .slice none 0 0, .slice none 0 0, .slice none 0 0, .int .i64 0, .slice none 0 0] rfl rfl 37 #[.int .i64 0, .bool false, .int .u32 0, .int .u32 0, .slice none 0 0, .slice none 0 0, .slice none 0 0, .int .i64 0, .slice none 0 0] oA5 (at_info9 _ _ _ _ _ _ _ _ _) rfl (at_one _ _) ?_))
  have oZ := oA5.setRow (cs' := #[.int .i64 1, .bool false, .int .u32 (numV xs 1), .int .u32 0, .slice none 0 0, .slice none 0 0, .slice none 0 0, .int .i64 0, .slice none 0 0])
  have hbZ := bl_setRow (g := w.heap.size) (cs := #[.int .i64 1, .bool false, .int .u32 (numV xs 1), .int .u32 0, .slice none 0 0, .slice none 0 0, .slice none 0 0, .int .i64 0, .slice none 0 0]) hb5 (Nat.le_refl _)
  refine bodyPost_ret (results_cell_tmp (p := 4) (t := 5) (fn := Tryz.f228) rfl _ _ w.heap.size 37 #[.int .i64 1, .bool false, .int .u32 (numV xs 1), .int .u32 0, .slice none 0 0, .slice none 0 0, .slice none 0 0, .int .i64 0, .slice none 0 0] _ rfl oZ at_desc rfl (at_info9 _ _ _ _ _ _ _ _ _)) rfl ⟨rfl, hbZ⟩
set_option maxRecDepth 100000 in
set_option maxHeartbeats 1600000 in
theorem bread_1r (A : Option Addr) (n c : Nat) (xs : List Int) (w : World) (hx : Bytes w w.heap.size A n xs) (hn : n ≤ 1000000) (hsz : (n : Int) = 1) (hq : ¬ numV xs 1 ≤ 2) :
    Calls Tryz.prog 228 #[.int .i64 1, .slice A n c] w fun e w' => e = .returned (.tuple #[.agg (atV 0 0), .int .i64 (bRefuse 1)]) ∧ Below w.heap.size w w' := by
  have hb0 := bl_alloc (bl_refl w) (.cells (atV 0 0) 37)
  have o0 := Own.new w 37 (atV 0 0)
  have HX := Lib.hid hx
  have HL := Lib.hid hx.1
  unfold atV at hb0 o0
  have e1 : ((n : Int) != 1) = false := by simpa using hsz
  have HN := Lib.hid hsz
  clear hsz
  unfold atV
  have e2 : decide (numV xs 1 ≤ 2) = false := by simpa using hq
  have HQ := Lib.hid hq
  clear hq
  clear hx
  go_enter Tryz.func228, Tryz.ntmps228
  go_wp2_with fail
  refine (rows_any _).mono ?_
  rintro e w1 ⟨b, rfl, hown, hb1⟩
  have o1 := o0.step hb1
  have hb2 := bl_trans hb0 hb1
  have oN := Own.new w1 151 bNil
  have hbN := bl_alloc hb2 (.cells bNil 151)
  have hlt1 := o1.lt
  go_wp2_with (first | (at_lookup; refine wpList_lookup_own_ok _ rfl _ _ 153 rfl 3 151 bint_key Tryz.underlying153 heldE (brow_zero _) (.held (.agg bNil)) [] rfl b 6 rMap rfl hown _ _ rfl (keyOf_int_mk Tryz.underlying3 rfl) ?_; intro v ps hv; obtain rfl := brow_at hv; rw [(rMap_at 1).2, brow1, bkn1]; clear hv hown) | (refine wpList_store_row rfl 151 _ _ rfl w1.heap.size #[.int .i64 1, .func (.func 142) #[] #[], .func (.func 143) #[] #[]] rfl rfl 151 bNil oN (brow_info _ _ _) rfl (brow_one _ _ _) ?_))
  have oR := oN.setRow (cs' := #[.int .i64 1, .func (.func 142) #[] #[], .func (.func 143) #[] #[]])
  have hbR := bl_setRow (g := w1.heap.size) (cs := #[.int .i64 1, .func (.func 142) #[] #[], .func (.func 143) #[] #[]]) hbN hb2.size
  have oA := (o1.alloc (.cells bNil 151)).keep (setRow_other (w1.alloc (.cells bNil 151)) w1.heap.size w.heap.size #[.int .i64 1, .func (.func 142) #[] #[], .func (.func 143) #[] #[]] (by omega))
  unfold bNil at oN oR hbR oA
  generalize (w1.alloc (.cells #[.int .i64 0, .nilFunc, .nilFunc] 151)).setRow w1.heap.size #[.int .i64 1, .func (.func 142) #[] #[], .func (.func 143) #[] #[]] = V at *
  have hlR := oR.lt
  have HXV := Lib.hid (show Bytes V.drew V.drew.heap.size A n xs from (HX.out.below hbR).more hbR.size)
  have HS0 : V.drew.cell? ⟨w1.heap.size, 0, none⟩ = some (.int .i64 1) := oR.cell (i := 0) rfl
  clear o0 o1 oN hbN hb2 hb0 hb1
  go_region_held3 (fun W => W.cell? ⟨w1.heap.size, 0, none⟩ = some (.int .i64 1)) (with_reducible first | exact HS0 | exact HS2 | exact HS3) ((first
    | (go_at_call 13; (with_reducible refine (new_any A n c xs _ HXV.out (by omega)).mono ?_); rintro e w4 ⟨g, rfl, hg, hr, hb4⟩; have hgV : V.heap.size ≤ g := hg; have HS2 : w4.cell? ⟨w1.heap.size, 0, none⟩ = some (.int .i64 1) := (oR.drew.step hb4).cell (i := 0) rfl)
    | (go_at_call 88; (with_reducible refine (num_any g xs 0 1 _ hr (by have := HL.out; omega) (by omega)).mono ?_); rintro e w5 ⟨rfl, hr5, hg5⟩; have HS3 : w5.cell? ⟨w1.heap.size, 0, none⟩ = some (.int .i64 1) := ((oR.drew.step hb4).grown hg5 (by intro e; have := Option.some.inj e; omega)).cell (i := 0) rfl)))
  have oR5 := (oR.drew.step hb4).grown hg5 (by intro e; have := Option.some.inj e; omega)
  have oA5 := (oA.drew.step hb4).grown hg5 (by intro e; have := Option.some.inj e; omega)
  have hb5 : Below w.heap.size w w5 := bl_only (bl_trans hbR.drew hb4) hg5 (by have := hbR.size; omega)
  clear oR oA hb4 hg5 hr5 hr HS0 HS2 HS3 hgV hg hlR hlt1 hbR HXV
  have r0 := oR5.cell (i := 0) (v := .int .i64 1) rfl
  have r1 := oR5.cell (i := 1) (v := .func (.func 142) #[] #[]) rfl
  go_wp2_with (first | (go_at_call 142; refine (fits1_any (numV xs 1) _).mono ?_; rintro e w' ⟨rfl, rfl⟩) | (go_at_call 232; refine (refusal_any 1 _).mono ?_; rintro e w' ⟨rfl, rfl⟩) | (refine wpList_store_row rfl 37 _ _ rfl w.heap.size #[.int .i64 0, .bool false, .int .u32 0, .int .u32 0, .slice none 0 0, .slice none 0 0, .slice none 0 0, .int .i64 0, .slice none 0 0] rfl rfl 37 #[.int .i64 0, .bool false, .int .u32 0, .int .u32 0, .slice none 0 0, .slice none 0 0, .slice none 0 0, .int .i64 0, .slice none 0 0] oA5 (at_info9 _ _ _ _ _ _ _ _ _) rfl (at_one _ _) ?_))
  have oZ := oA5.setRow (cs' := #[.int .i64 0, .bool false, .int .u32 0, .int .u32 0, .slice none 0 0, .slice none 0 0, .slice none 0 0, .int .i64 0, .slice none 0 0])
  have hbZ := bl_setRow (g := w.heap.size) (cs := #[.int .i64 0, .bool false, .int .u32 0, .int .u32 0, .slice none 0 0, .slice none 0 0, .slice none 0 0, .int .i64 0, .slice none 0 0]) hb5 (Nat.le_refl _)
  refine bodyPost_ret (results_cell_tmp (p := 4) (t := 5) (fn := Tryz.f228) rfl _ _ w.heap.size 37 #[.int .i64 0, .bool false, .int .u32 0, .int .u32 0, .slice none 0 0, .slice none 0 0, .slice none 0 0, .int .i64 0, .slice none 0 0] _ rfl oZ at_desc rfl (at_info9 _ _ _ _ _ _ _ _ _)) rfl ⟨rfl, hbZ⟩
theorem numV_zero (xs : List Int) : numV xs 0 = 0 := by
  unfold numV numOk
  simp
theorem brow6 : bRow 6 = #[.int .i64 0, .func (.func 149) #[] #[], .func (.func 150) #[] #[]] := rfl
theorem bkn6 : bKnown 6 = true := rfl
set_option maxRecDepth 100000 in
set_option maxHeartbeats 1600000 in
theorem bread_6n (A : Option Addr) (n c : Nat) (xs : List Int) (w : World) (hx : Bytes w w.heap.size A n xs) (hn : n ≤ 1000000) (hsz : (n : Int) ≠ 0) :
    Calls Tryz.prog 228 #[.int .i64 6, .slice A n c] w fun e w' => e = .returned (.tuple #[.agg (atV 0 0), .int .i64 (bRefuse 6)]) ∧ Below w.heap.size w w' := by
  have hb0 := bl_alloc (bl_refl w) (.cells (atV 0 0) 37)
  have o0 := Own.new w 37 (atV 0 0)
  have HX := Lib.hid hx
  have HL := Lib.hid hx.1
  unfold atV at hb0 o0
  have e1 : ((n : Int) != 0) = true := by simpa using hsz
  have HN := Lib.hid hsz
  clear hsz
  unfold atV
  clear hx
  go_enter Tryz.func228, Tryz.ntmps228
  go_wp2_with fail
  refine (rows_any _).mono ?_
  rintro e w1 ⟨b, rfl, hown, hb1⟩
  have o1 := o0.step hb1
  have hb2 := bl_trans hb0 hb1
  have oN := Own.new w1 151 bNil
  have hbN := bl_alloc hb2 (.cells bNil 151)
  have hlt1 := o1.lt
  go_wp2_with (first | (at_lookup; refine wpList_lookup_own_ok _ rfl _ _ 153 rfl 3 151 bint_key Tryz.underlying153 heldE (brow_zero _) (.held (.agg bNil)) [] rfl b 6 rMap rfl hown _ _ rfl (keyOf_int_mk Tryz.underlying3 rfl) ?_; intro v ps hv; obtain rfl := brow_at hv; rw [(rMap_at 6).2, brow6, bkn6]; clear hv hown) | (refine wpList_store_row rfl 151 _ _ rfl w1.heap.size #[.int .i64 0, .func (.func 149) #[] #[], .func (.func 150) #[] #[]] rfl rfl 151 bNil oN (brow_info _ _ _) rfl (brow_one _ _ _) ?_))
  have oR := oN.setRow (cs' := #[.int .i64 0, .func (.func 149) #[] #[], .func (.func 150) #[] #[]])
  have hbR := bl_setRow (g := w1.heap.size) (cs := #[.int .i64 0, .func (.func 149) #[] #[], .func (.func 150) #[] #[]]) hbN hb2.size
  have oA := (o1.alloc (.cells bNil 151)).keep (setRow_other (w1.alloc (.cells bNil 151)) w1.heap.size w.heap.size #[.int .i64 0, .func (.func 149) #[] #[], .func (.func 150) #[] #[]] (by omega))
  unfold bNil at oN oR hbR oA
  generalize (w1.alloc (.cells #[.int .i64 0, .nilFunc, .nilFunc] 151)).setRow w1.heap.size #[.int .i64 0, .func (.func 149) #[] #[], .func (.func 150) #[] #[]] = V at *
  have hlR := oR.lt
  have HXV := Lib.hid (show Bytes V.drew V.drew.heap.size A n xs from (HX.out.below hbR).more hbR.size)
  have HS0 : V.drew.cell? ⟨w1.heap.size, 0, none⟩ = some (.int .i64 0) := oR.cell (i := 0) rfl
  clear o0 o1 oN hbN hb2 hb0 hb1
  go_region_held3 (fun W => W.cell? ⟨w1.heap.size, 0, none⟩ = some (.int .i64 0)) (with_reducible first | exact HS0 | exact HS2 | exact HS3) ((first
    | (go_at_call 13; (with_reducible refine (new_any A n c xs _ HXV.out (by omega)).mono ?_); rintro e w4 ⟨g, rfl, hg, hr, hb4⟩; have hgV : V.heap.size ≤ g := hg; have HS2 : w4.cell? ⟨w1.heap.size, 0, none⟩ = some (.int .i64 0) := (oR.drew.step hb4).cell (i := 0) rfl)
    | (go_at_call 88; (with_reducible refine (num_any g xs 0 0 _ hr (by have := HL.out; omega) (by omega)).mono ?_); rintro e w5 ⟨rfl, hr5, hg5⟩; have HS3 : w5.cell? ⟨w1.heap.size, 0, none⟩ = some (.int .i64 0) := ((oR.drew.step hb4).grown hg5 (by intro e; have := Option.some.inj e; omega)).cell (i := 0) rfl)))
  have oR5 := (oR.drew.step hb4).grown hg5 (by intro e; have := Option.some.inj e; omega)
  have oA5 := (oA.drew.step hb4).grown hg5 (by intro e; have := Option.some.inj e; omega)
  have hb5 : Below w.heap.size w w5 := bl_only (bl_trans hbR.drew hb4) hg5 (by have := hbR.size; omega)
  clear oR oA hb4 hg5 hr5 hr HS0 HS2 HS3 hgV hg hlR hlt1 hbR HXV
  have r0 := oR5.cell (i := 0) (v := .int .i64 0) rfl
  have r1 := oR5.cell (i := 1) (v := .func (.func 149) #[] #[]) rfl
  go_wp2_with (first | (go_at_call 149; refine (fits6_any (numV xs 0) _).mono ?_; rintro e w' ⟨rfl, rfl⟩) | (go_at_call 232; refine (refusal_any 6 _).mono ?_; rintro e w' ⟨rfl, rfl⟩) | (refine wpList_store_row rfl 37 _ _ rfl w.heap.size #[.int .i64 0, .bool false, .int .u32 0, .int .u32 0, .slice none 0 0, .slice none 0 0, .slice none 0 0, .int .i64 0, .slice none 0 0] rfl rfl 37 #[.int .i64 0, .bool false, .int .u32 0, .int .u32 0, .slice none 0 0, .slice none 0 0, .slice none 0 0, .int .i64 0, .slice none 0 0] oA5 (at_info9 _ _ _ _ _ _ _ _ _) rfl (at_one _ _) ?_))
  have oZ := oA5.setRow (cs' := #[.int .i64 0, .bool false, .int .u32 0, .int .u32 0, .slice none 0 0, .slice none 0 0, .slice none 0 0, .int .i64 0, .slice none 0 0])
  have hbZ := bl_setRow (g := w.heap.size) (cs := #[.int .i64 0, .bool false, .int .u32 0, .int .u32 0, .slice none 0 0, .slice none 0 0, .slice none 0 0, .int .i64 0, .slice none 0 0]) hb5 (Nat.le_refl _)
  refine bodyPost_ret (results_cell_tmp (p := 4) (t := 5) (fn := Tryz.f228) rfl _ _ w.heap.size 37 #[.int .i64 0, .bool false, .int .u32 0, .int .u32 0, .slice none 0 0, .slice none 0 0, .slice none 0 0, .int .i64 0, .slice none 0 0] _ rfl oZ at_desc rfl (at_info9 _ _ _ _ _ _ _ _ _)) rfl ⟨rfl, hbZ⟩
set_option maxRecDepth 100000 in
set_option maxHeartbeats 1600000 in
theorem bread_6y (A : Option Addr) (n c : Nat) (xs : List Int) (w : World) (hx : Bytes w w.heap.size A n xs) (hn : n ≤ 1000000) (hsz : (n : Int) = 0) :
    Calls Tryz.prog 228 #[.int .i64 6, .slice A n c] w fun e w' => e = .returned (.tuple #[.agg (atV 6 (numV xs 0)), .int .i64 (0)]) ∧ Below w.heap.size w w' := by
  have hb0 := bl_alloc (bl_refl w) (.cells (atV 0 0) 37)
  have o0 := Own.new w 37 (atV 0 0)
  have HX := Lib.hid hx
  have HL := Lib.hid hx.1
  unfold atV at hb0 o0
  have e1 : ((n : Int) != 0) = false := by simpa using hsz
  have HN := Lib.hid hsz
  clear hsz
  unfold atV
  have e2 := numV_zero xs
  clear hx
  go_enter Tryz.func228, Tryz.ntmps228
  go_wp2_with fail
  refine (rows_any _).mono ?_
  rintro e w1 ⟨b, rfl, hown, hb1⟩
  have o1 := o0.step hb1
  have hb2 := bl_trans hb0 hb1
  have oN := Own.new w1 151 bNil
  have hbN := bl_alloc hb2 (.cells bNil 151)
  have hlt1 := o1.lt
  go_wp2_with (first | (at_lookup; refine wpList_lookup_own_ok _ rfl _ _ 153 rfl 3 151 bint_key Tryz.underlying153 heldE (brow_zero _) (.held (.agg bNil)) [] rfl b 6 rMap rfl hown _ _ rfl (keyOf_int_mk Tryz.underlying3 rfl) ?_; intro v ps hv; obtain rfl := brow_at hv; rw [(rMap_at 6).2, brow6, bkn6]; clear hv hown) | (refine wpList_store_row rfl 151 _ _ rfl w1.heap.size #[.int .i64 0, .func (.func 149) #[] #[], .func (.func 150) #[] #[]] rfl rfl 151 bNil oN (brow_info _ _ _) rfl (brow_one _ _ _) ?_))
  have oR := oN.setRow (cs' := #[.int .i64 0, .func (.func 149) #[] #[], .func (.func 150) #[] #[]])
  have hbR := bl_setRow (g := w1.heap.size) (cs := #[.int .i64 0, .func (.func 149) #[] #[], .func (.func 150) #[] #[]]) hbN hb2.size
  have oA := (o1.alloc (.cells bNil 151)).keep (setRow_other (w1.alloc (.cells bNil 151)) w1.heap.size w.heap.size #[.int .i64 0, .func (.func 149) #[] #[], .func (.func 150) #[] #[]] (by omega))
  unfold bNil at oN oR hbR oA
  generalize (w1.alloc (.cells #[.int .i64 0, .nilFunc, .nilFunc] 151)).setRow w1.heap.size #[.int .i64 0, .func (.func 149) #[] #[], .func (.func 150) #[] #[]] = V at *
  have hlR := oR.lt
  have HXV := Lib.hid (show Bytes V.drew V.drew.heap.size A n xs from (HX.out.below hbR).more hbR.size)
  have HS0 : V.drew.cell? ⟨w1.heap.size, 0, none⟩ = some (.int .i64 0) := oR.cell (i := 0) rfl
  clear o0 o1 oN hbN hb2 hb0 hb1
  go_region_held3 (fun W => W.cell? ⟨w1.heap.size, 0, none⟩ = some (.int .i64 0)) (with_reducible first | exact HS0 | exact HS2 | exact HS3) ((first
    | (go_at_call 13; (with_reducible refine (new_any A n c xs _ HXV.out (by omega)).mono ?_); rintro e w4 ⟨g, rfl, hg, hr, hb4⟩; have hgV : V.heap.size ≤ g := hg; have HS2 : w4.cell? ⟨w1.heap.size, 0, none⟩ = some (.int .i64 0) := (oR.drew.step hb4).cell (i := 0) rfl)
    | (go_at_call 88; (with_reducible refine (num_any g xs 0 0 _ hr (by have := HL.out; omega) (by omega)).mono ?_); rintro e w5 ⟨rfl, hr5, hg5⟩; have HS3 : w5.cell? ⟨w1.heap.size, 0, none⟩ = some (.int .i64 0) := ((oR.drew.step hb4).grown hg5 (by intro e; have := Option.some.inj e; omega)).cell (i := 0) rfl)))
  have oR5 := (oR.drew.step hb4).grown hg5 (by intro e; have := Option.some.inj e; omega)
  have oA5 := (oA.drew.step hb4).grown hg5 (by intro e; have := Option.some.inj e; omega)
  have hb5 : Below w.heap.size w w5 := bl_only (bl_trans hbR.drew hb4) hg5 (by have := hbR.size; omega)
  clear oR oA hb4 hg5 hr5 hr HS0 HS2 HS3 hgV hg hlR hlt1 hbR HXV
  have r0 := oR5.cell (i := 0) (v := .int .i64 0) rfl
  have r1 := oR5.cell (i := 1) (v := .func (.func 149) #[] #[]) rfl
  go_wp2_with (first | (go_at_call 149; refine (fits6_any (numV xs 0) _).mono ?_; rintro e w' ⟨rfl, rfl⟩) | (go_at_call 232; refine (refusal_any 6 _).mono ?_; rintro e w' ⟨rfl, rfl⟩) | (refine wpList_store_row rfl 37 _ _ rfl w.heap.size #[.int .i64 6, .bool false, .int .u32 (numV xs 0), .int .u32 0, .slice none 0 0, .slice none 0 0, .slice none 0 0, .int .i64 0, .slice none 0 0] rfl rfl 37 #[.int .i64 0, .bool false, .int .u32 0, .int .u32 0, .slice none 0 0, .slice none 0 0, .slice none 0 0, .int .i64 0, .slice none 0 0] oA5 (at_info9 _ _ _ _ _ _ _ _ _) rfl (at_one _ _) ?_))
  have oZ := oA5.setRow (cs' := #[.int .i64 6, .bool false, .int .u32 (numV xs 0), .int .u32 0, .slice none 0 0, .slice none 0 0, .slice none 0 0, .int .i64 0, .slice none 0 0])
  have hbZ := bl_setRow (g := w.heap.size) (cs := #[.int .i64 6, .bool false, .int .u32 (numV xs 0), .int .u32 0, .slice none 0 0, .slice none 0 0, .slice none 0 0, .int .i64 0, .slice none 0 0]) hb5 (Nat.le_refl _)
  refine bodyPost_ret (results_cell_tmp (p := 4) (t := 5) (fn := Tryz.f228) rfl _ _ w.heap.size 37 #[.int .i64 6, .bool false, .int .u32 (numV xs 0), .int .u32 0, .slice none 0 0, .slice none 0 0, .slice none 0 0, .int .i64 0, .slice none 0 0] _ rfl oZ at_desc rfl (at_info9 _ _ _ _ _ _ _ _ _)) rfl ⟨rfl, hbZ⟩
set_option maxRecDepth 100000 in
set_option maxHeartbeats 1600000 in
theorem bread_Fn (k : Int) (hwf : (Lit.int .i64 k).wf = true) (g' : Nat) (hrow : Hid (bRow k = #[.int .i64 4, .func (.func 141) #[] #[], .func (.func g') #[] #[]])) (hkn : Hid (bKnown k = true)) (A : Option Addr) (n c : Nat) (xs : List Int) (w : World) (hx : Bytes w w.heap.size A n xs) (hn : n ≤ 1000000) (hsz : (n : Int) ≠ 4) :
    Calls Tryz.prog 228 #[.int .i64 k, .slice A n c] w fun e w' => e = .returned (.tuple #[.agg (atV 0 0), .int .i64 (bRefuse k)]) ∧ Below w.heap.size w w' := by
  have hb0 := bl_alloc (bl_refl w) (.cells (atV 0 0) 37)
  have o0 := Own.new w 37 (atV 0 0)
  have HX := Lib.hid hx
  have HL := Lib.hid hx.1
  unfold atV at hb0 o0
  have e1 : ((n : Int) != 4) = true := by simpa using hsz
  have HN := Lib.hid hsz
  clear hsz
  unfold atV
  clear hx
  go_enter Tryz.func228, Tryz.ntmps228
  go_wp2_with fail
  refine (rows_any _).mono ?_
  rintro e w1 ⟨b, rfl, hown, hb1⟩
  have o1 := o0.step hb1
  have hb2 := bl_trans hb0 hb1
  have oN := Own.new w1 151 bNil
  have hbN := bl_alloc hb2 (.cells bNil 151)
  have hlt1 := o1.lt
  go_wp2_with (first | (at_lookup; refine wpList_lookup_own_ok _ rfl _ _ 153 rfl 3 151 bint_key Tryz.underlying153 heldE (brow_zero _) (.held (.agg bNil)) [] rfl b 6 rMap rfl hown _ _ rfl (keyOf_int_mk Tryz.underlying3 hwf) ?_; intro v ps hv; obtain rfl := brow_at hv; rw [(rMap_at k).2, hrow.out, hkn.out]; clear hv hown) | (refine wpList_store_row rfl 151 _ _ rfl w1.heap.size #[.int .i64 4, .func (.func 141) #[] #[], .func (.func g') #[] #[]] rfl rfl 151 bNil oN (brow_info _ _ _) rfl (brow_one _ _ _) ?_))
  have oR := oN.setRow (cs' := #[.int .i64 4, .func (.func 141) #[] #[], .func (.func g') #[] #[]])
  have hbR := bl_setRow (g := w1.heap.size) (cs := #[.int .i64 4, .func (.func 141) #[] #[], .func (.func g') #[] #[]]) hbN hb2.size
  have oA := (o1.alloc (.cells bNil 151)).keep (setRow_other (w1.alloc (.cells bNil 151)) w1.heap.size w.heap.size #[.int .i64 4, .func (.func 141) #[] #[], .func (.func g') #[] #[]] (by omega))
  unfold bNil at oN oR hbR oA
  generalize (w1.alloc (.cells #[.int .i64 0, .nilFunc, .nilFunc] 151)).setRow w1.heap.size #[.int .i64 4, .func (.func 141) #[] #[], .func (.func g') #[] #[]] = V at *
  have hlR := oR.lt
  have HXV := Lib.hid (show Bytes V.drew V.drew.heap.size A n xs from (HX.out.below hbR).more hbR.size)
  have HS0 : V.drew.cell? ⟨w1.heap.size, 0, none⟩ = some (.int .i64 4) := oR.cell (i := 0) rfl
  clear o0 o1 oN hbN hb2 hb0 hb1
  go_region_held3 (fun W => W.cell? ⟨w1.heap.size, 0, none⟩ = some (.int .i64 4)) (with_reducible first | exact HS0 | exact HS2 | exact HS3) ((first
    | (go_at_call 13; (with_reducible refine (new_any A n c xs _ HXV.out (by omega)).mono ?_); rintro e w4 ⟨g, rfl, hg, hr, hb4⟩; have hgV : V.heap.size ≤ g := hg; have HS2 : w4.cell? ⟨w1.heap.size, 0, none⟩ = some (.int .i64 4) := (oR.drew.step hb4).cell (i := 0) rfl)
    | (go_at_call 88; (with_reducible refine (num_any g xs 0 4 _ hr (by have := HL.out; omega) (by omega)).mono ?_); rintro e w5 ⟨rfl, hr5, hg5⟩; have HS3 : w5.cell? ⟨w1.heap.size, 0, none⟩ = some (.int .i64 4) := ((oR.drew.step hb4).grown hg5 (by intro e; have := Option.some.inj e; omega)).cell (i := 0) rfl)))
  have oR5 := (oR.drew.step hb4).grown hg5 (by intro e; have := Option.some.inj e; omega)
  have oA5 := (oA.drew.step hb4).grown hg5 (by intro e; have := Option.some.inj e; omega)
  have hb5 : Below w.heap.size w w5 := bl_only (bl_trans hbR.drew hb4) hg5 (by have := hbR.size; omega)
  clear oR oA hb4 hg5 hr5 hr HS0 HS2 HS3 hgV hg hlR hlt1 hbR HXV
  have r0 := oR5.cell (i := 0) (v := .int .i64 4) rfl
  have r1 := oR5.cell (i := 1) (v := .func (.func 141) #[] #[]) rfl
  go_wp2_with (first | (go_at_call 141; refine (fitsF_any (numV xs 4) _).mono ?_; rintro e w' ⟨rfl, rfl⟩) | (go_at_call 232; refine (refusal_any k _).mono ?_; rintro e w' ⟨rfl, rfl⟩) | (refine wpList_store_row rfl 37 _ _ rfl w.heap.size #[.int .i64 0, .bool false, .int .u32 0, .int .u32 0, .slice none 0 0, .slice none 0 0, .slice none 0 0, .int .i64 0, .slice none 0 0] rfl rfl 37 #[.int .i64 0, .bool false, .int .u32 0, .int .u32 0, .slice none 0 0, .slice none 0 0, .slice none 0 0, .int .i64 0, .slice none 0 0] oA5 (at_info9 _ _ _ _ _ _ _ _ _) rfl (at_one _ _) ?_))
  have oZ := oA5.setRow (cs' := #[.int .i64 0, .bool false, .int .u32 0, .int .u32 0, .slice none 0 0, .slice none 0 0, .slice none 0 0, .int .i64 0, .slice none 0 0])
  have hbZ := bl_setRow (g := w.heap.size) (cs := #[.int .i64 0, .bool false, .int .u32 0, .int .u32 0, .slice none 0 0, .slice none 0 0, .slice none 0 0, .int .i64 0, .slice none 0 0]) hb5 (Nat.le_refl _)
  refine bodyPost_ret (results_cell_tmp (p := 4) (t := 5) (fn := Tryz.f228) rfl _ _ w.heap.size 37 #[.int .i64 0, .bool false, .int .u32 0, .int .u32 0, .slice none 0 0, .slice none 0 0, .slice none 0 0, .int .i64 0, .slice none 0 0] _ rfl oZ at_desc rfl (at_info9 _ _ _ _ _ _ _ _ _)) rfl ⟨rfl, hbZ⟩
set_option maxRecDepth 100000 in
set_option maxHeartbeats 1600000 in
theorem bread_Fy (k : Int) (hwf : (Lit.int .i64 k).wf = true) (g' : Nat) (hrow : Hid (bRow k = #[.int .i64 4, .func (.func 141) #[] #[], .func (.func g') #[] #[]])) (hkn : Hid (bKnown k = true)) (A : Option Addr) (n c : Nat) (xs : List Int) (w : World) (hx : Bytes w w.heap.size A n xs) (hn : n ≤ 1000000) (hsz : (n : Int) = 4) :
    Calls Tryz.prog 228 #[.int .i64 k, .slice A n c] w fun e w' => e = .returned (.tuple #[.agg (atV k (numV xs 4)), .int .i64 (0)]) ∧ Below w.heap.size w w' := by
  have hb0 := bl_alloc (bl_refl w) (.cells (atV 0 0) 37)
  have o0 := Own.new w 37 (atV 0 0)
  have HX := Lib.hid hx
  have HL := Lib.hid hx.1
  unfold atV at hb0 o0
  have e1 : ((n : Int) != 4) = false := by simpa using hsz
  have HN := Lib.hid hsz
  clear hsz
  unfold atV
  clear hx
  go_enter Tryz.func228, Tryz.ntmps228
  go_wp2_with fail
  refine (rows_any _).mono ?_
  rintro e w1 ⟨b, rfl, hown, hb1⟩
  have o1 := o0.step hb1
  have hb2 := bl_trans hb0 hb1
  have oN := Own.new w1 151 bNil
  have hbN := bl_alloc hb2 (.cells bNil 151)
  have hlt1 := o1.lt
  go_wp2_with (first | (at_lookup; refine wpList_lookup_own_ok _ rfl _ _ 153 rfl 3 151 bint_key Tryz.underlying153 heldE (brow_zero _) (.held (.agg bNil)) [] rfl b 6 rMap rfl hown _ _ rfl (keyOf_int_mk Tryz.underlying3 hwf) ?_; intro v ps hv; obtain rfl := brow_at hv; rw [(rMap_at k).2, hrow.out, hkn.out]; clear hv hown) | (refine wpList_store_row rfl 151 _ _ rfl w1.heap.size #[.int .i64 4, .func (.func 141) #[] #[], .func (.func g') #[] #[]] rfl rfl 151 bNil oN (brow_info _ _ _) rfl (brow_one _ _ _) ?_))
  have oR := oN.setRow (cs' := #[.int .i64 4, .func (.func 141) #[] #[], .func (.func g') #[] #[]])
  have hbR := bl_setRow (g := w1.heap.size) (cs := #[.int .i64 4, .func (.func 141) #[] #[], .func (.func g') #[] #[]]) hbN hb2.size
  have oA := (o1.alloc (.cells bNil 151)).keep (setRow_other (w1.alloc (.cells bNil 151)) w1.heap.size w.heap.size #[.int .i64 4, .func (.func 141) #[] #[], .func (.func g') #[] #[]] (by omega))
  unfold bNil at oN oR hbR oA
  generalize (w1.alloc (.cells #[.int .i64 0, .nilFunc, .nilFunc] 151)).setRow w1.heap.size #[.int .i64 4, .func (.func 141) #[] #[], .func (.func g') #[] #[]] = V at *
  have hlR := oR.lt
  have HXV := Lib.hid (show Bytes V.drew V.drew.heap.size A n xs from (HX.out.below hbR).more hbR.size)
  have HS0 : V.drew.cell? ⟨w1.heap.size, 0, none⟩ = some (.int .i64 4) := oR.cell (i := 0) rfl
  clear o0 o1 oN hbN hb2 hb0 hb1
  go_region_held3 (fun W => W.cell? ⟨w1.heap.size, 0, none⟩ = some (.int .i64 4)) (with_reducible first | exact HS0 | exact HS2 | exact HS3) ((first
    | (go_at_call 13; (with_reducible refine (new_any A n c xs _ HXV.out (by omega)).mono ?_); rintro e w4 ⟨g, rfl, hg, hr, hb4⟩; have hgV : V.heap.size ≤ g := hg; have HS2 : w4.cell? ⟨w1.heap.size, 0, none⟩ = some (.int .i64 4) := (oR.drew.step hb4).cell (i := 0) rfl)
    | (go_at_call 88; (with_reducible refine (num_any g xs 0 4 _ hr (by have := HL.out; omega) (by omega)).mono ?_); rintro e w5 ⟨rfl, hr5, hg5⟩; have HS3 : w5.cell? ⟨w1.heap.size, 0, none⟩ = some (.int .i64 4) := ((oR.drew.step hb4).grown hg5 (by intro e; have := Option.some.inj e; omega)).cell (i := 0) rfl)))
  have oR5 := (oR.drew.step hb4).grown hg5 (by intro e; have := Option.some.inj e; omega)
  have oA5 := (oA.drew.step hb4).grown hg5 (by intro e; have := Option.some.inj e; omega)
  have hb5 : Below w.heap.size w w5 := bl_only (bl_trans hbR.drew hb4) hg5 (by have := hbR.size; omega)
  clear oR oA hb4 hg5 hr5 hr HS0 HS2 HS3 hgV hg hlR hlt1 hbR HXV
  have r0 := oR5.cell (i := 0) (v := .int .i64 4) rfl
  have r1 := oR5.cell (i := 1) (v := .func (.func 141) #[] #[]) rfl
  go_wp2_with (first | (go_at_call 141; refine (fitsF_any (numV xs 4) _).mono ?_; rintro e w' ⟨rfl, rfl⟩) | (go_at_call 232; refine (refusal_any k _).mono ?_; rintro e w' ⟨rfl, rfl⟩) | (refine wpList_store_row rfl 37 _ _ rfl w.heap.size #[.int .i64 k, .bool false, .int .u32 (numV xs 4), .int .u32 0, .slice none 0 0, .slice none 0 0, .slice none 0 0, .int .i64 0, .slice none 0 0] rfl rfl 37 #[.int .i64 0, .bool false, .int .u32 0, .int .u32 0, .slice none 0 0, .slice none 0 0, .slice none 0 0, .int .i64 0, .slice none 0 0] oA5 (at_info9 _ _ _ _ _ _ _ _ _) rfl (at_one _ _) ?_))
  have oZ := oA5.setRow (cs' := #[.int .i64 k, .bool false, .int .u32 (numV xs 4), .int .u32 0, .slice none 0 0, .slice none 0 0, .slice none 0 0, .int .i64 0, .slice none 0 0])
  have hbZ := bl_setRow (g := w.heap.size) (cs := #[.int .i64 k, .bool false, .int .u32 (numV xs 4), .int .u32 0, .slice none 0 0, .slice none 0 0, .slice none 0 0, .int .i64 0, .slice none 0 0]) hb5 (Nat.le_refl _)
  refine bodyPost_ret (results_cell_tmp (p := 4) (t := 5) (fn := Tryz.f228) rfl _ _ w.heap.size 37 #[.int .i64 k, .bool false, .int .u32 (numV xs 4), .int .u32 0, .slice none 0 0, .slice none 0 0, .slice none 0 0, .int .i64 0, .slice none 0 0] _ rfl oZ at_desc rfl (at_info9 _ _ _ _ _ _ _ _ _)) rfl ⟨rfl, hbZ⟩
end Go.Proofs.YtmcnpkfeipelgaaGreatDoor
