/- prefix.Read -/
import Derived.Test.YtecbbjdcnlocdaaDoorPfxM
import Derived.Test.YtecbbjdcnlocdaaDoorRdrB
namespace Go.Proofs.YtecbbjdcnlocdaaDoor
open Go.RowKit

theorem only_setRow {a w : World} {g k : Nat} {cs : Array Value} (h : a.grownBy w (some g)) (hk : a.heap.size ≤ k) : a.grownBy (w.setRow k cs) (some g) :=
  ⟨h.os, h.tape, h.output, by simpa using h.size, fun i hi hne => (setRow_other w k i _ (by omega)).trans (h.block i hi hne)⟩

set_option maxRecDepth 100000 in
theorem number_one (B g : Nat) (x : Int) (xs : List Int) (p : Nat) (w : World) (h : RdrB B w g (x :: xs) p) (hl : (x :: xs).length ≤ 1000000000) (hp : p ≤ 1000000000) :
    Calls Tryd.prog 51 #[.pointer (some ⟨g, 0, none⟩), .int .i64 1] w fun e w' => e = .returned (.tuple #[.int .u32 x, .bool true]) ∧
      RdrB B w' g xs (p + 1) ∧ w.grownBy w' (some g) := by
  refine (number_yesB B g _ p 1 w h hl hp (by omega) (by omega) (by rw [List.length_cons]; omega)).mono ?_
  rintro e w' ⟨rfl, hr, hg⟩
  refine ⟨?_, hr, hg⟩
  show Ending.returned (.tuple #[.int .u32 (big [x]), _]) = _
  simp [big]

set_option maxHeartbeats 400000 in
set_option maxRecDepth 100000 in
theorem pread_nil (f : Int) (g p : Nat) (w : World) (h : Rdr w g [] p) :
    Calls Tryd.prog 28 #[.int .i64 f, .pointer (some ⟨g, 0, none⟩)] w fun e w' => e = .returned (.tuple #[.agg (pfx 0 0 zero16), .bool false]) ∧ Below w.heap.size w w' := by
  have hz18 : #[.int .i64 0, .int .i64 0, .int .u8 0, .int .u8 0, .int .u8 0, .int .u8 0, .int .u8 0, .int .u8 0, .int .u8 0, .int .u8 0, .int .u8 0, .int .u8 0, .int .u8 0, .int .u8 0, .int .u8 0, .int .u8 0, .int .u8 0, .int .u8 0] = pfx 0 0 zero16 := pfx_zero.symm
  have ho := Own.new w 41 (pfx 0 0 zero16)
  have h1 := h.below (bl_alloc (bl_refl w) (.cells (pfx 0 0 zero16) 41))
  go_enter Tryd.func28, Tryd.ntmps28
  go_wp2_with fail
  refine (number_no g [] p 1 _ h1 (by simp) (by omega) (by omega) (by simp)).mono ?_
  rintro e w' ⟨rfl, rfl⟩
  go_wp2_with (refine wpList_store_row rfl 41 _ _ rfl w.heap.size (pfx 0 0 zero16) rfl rfl 41 (pfx 0 0 zero16) ho (pfx_info rfl) rfl (pfx_one 0 0 zero16) ?_)
  have hfin := ho.setRow (cs' := pfx 0 0 zero16)
  exact bodyPost_ret (results_cell_tmp (p := 4) (t := 5) (fn := Tryd.f28) rfl _ _ w.heap.size 41 (pfx 0 0 zero16) _ rfl hfin pfx_desc rfl (pfx_info rfl)) rfl ⟨rfl, bl_setRow (bl_alloc (bl_refl w) _) (Nat.le_refl _)⟩

set_option maxHeartbeats 400000 in
set_option maxRecDepth 100000 in
theorem pread_bad (B : Nat) (f x : Int) (xs : List Int) (g p : Nat) (w : World) (h : RdrB B w g (x :: xs) p) (hl : (x :: xs).length ≤ 1000000000) (hp : p ≤ 1000000000) (hk : lenOk f x = false) :
    Calls Tryd.prog 28 #[.int .i64 f, .pointer (some ⟨g, 0, none⟩)] w fun e w' => e = .returned (.tuple #[.agg (pfx 0 0 zero16), .bool false]) ∧ RdrB B w' g xs (p + 1) ∧ w.grownBy w' (some g) := by
  have hz18 : #[.int .i64 0, .int .i64 0, .int .u8 0, .int .u8 0, .int .u8 0, .int .u8 0, .int .u8 0, .int .u8 0, .int .u8 0, .int .u8 0, .int .u8 0, .int .u8 0, .int .u8 0, .int .u8 0, .int .u8 0, .int .u8 0, .int .u8 0, .int .u8 0] = pfx 0 0 zero16 := pfx_zero.symm
  have ho := Own.new w 41 (pfx 0 0 zero16)
  have hg0 := h.lt
  have hBs := h.size
  have hb0 := bl_alloc (bl_refl w) (.cells (pfx 0 0 zero16) 41)
  have h1 := h.below hb0
  have hx := h.range x (List.mem_cons_self ..)
  have hx0 := hx.1
  have hx1 := hx.2
  have HL := Lib.hid hk
  clear hk hx
  go_enter Tryd.func28, Tryd.ntmps28
  go_wp2_with fail
  refine (number_one B g x xs p _ h1 hl hp).mono ?_
  rintro e w1 ⟨rfl, hr1, hgr⟩
  have ho1 := ho.grown hgr (fun e => by cases e; omega)
  have hgr1 := only_trans (only_of_below hb0 (some g)) hgr
  clear hb0 h1 ho
  go_wp2_with fail
  refine (hasLength_any f _ _).mono ?_
  rw [HL.out]
  rintro e w' ⟨rfl, rfl⟩
  go_wp2_with (refine wpList_store_row rfl 41 _ _ rfl w.heap.size (pfx 0 0 zero16) rfl rfl 41 (pfx 0 0 zero16) ho1 (pfx_info rfl) rfl (pfx_one 0 0 zero16) ?_)
  have hfin := ho1.setRow (cs' := pfx 0 0 zero16)
  exact bodyPost_ret (results_cell_tmp (p := 4) (t := 5) (fn := Tryd.f28) rfl _ _ w.heap.size 41 (pfx 0 0 zero16) _ rfl hfin pfx_desc rfl (pfx_info rfl)) rfl ⟨rfl, hr1.setRow hBs (by omega), only_setRow hgr1 (Nat.le_refl _)⟩

theorem lenOk_range {f x : Int} (h : lenOk f x = true) : 0 ≤ x ∧ x ≤ 128 := by
  have := width_ge f
  simp only [lenOk, decide_eq_true_eq] at h
  omega
theorem lenOk_make {f x : Int} (h : lenOk f x = true) : makeOk f x (sizeOfBits x).toNat = true := by
  have hr := lenOk_range h
  have hw : widthOf f = 32 ∨ widthOf f = 128 ∨ widthOf f = 0 := by unfold widthOf; split <;> (try split) <;> omega
  simp only [makeOk, h, Bool.true_and, decide_eq_true_eq]
  simp only [lenOk, decide_eq_true_eq] at h
  unfold sizeOfBits
  omega

set_option maxHeartbeats 400000 in
set_option maxRecDepth 100000 in
theorem pread_short (B : Nat) (f x : Int) (xs : List Int) (g p : Nat) (w : World) (h : RdrB B w g (x :: xs) p) (hl : (x :: xs).length ≤ 1000000000) (hp : p ≤ 999999999) (hk : lenOk f x = true) (hs : xs.length < (sizeOfBits x).toNat) :
    Calls Tryd.prog 28 #[.int .i64 f, .pointer (some ⟨g, 0, none⟩)] w fun e w' => e = .returned (.tuple #[.agg (pfx 0 0 zero16), .bool false]) ∧ RdrB B w' g xs (p + 1) ∧ w.grownBy w' (some g) := by
  have hz18 : #[.int .i64 0, .int .i64 0, .int .u8 0, .int .u8 0, .int .u8 0, .int .u8 0, .int .u8 0, .int .u8 0, .int .u8 0, .int .u8 0, .int .u8 0, .int .u8 0, .int .u8 0, .int .u8 0, .int .u8 0, .int .u8 0, .int .u8 0, .int .u8 0] = pfx 0 0 zero16 := pfx_zero.symm
  have ho := Own.new w 41 (pfx 0 0 zero16)
  have hg0 := h.lt
  have hBs := h.size
  have hb0 := bl_alloc (bl_refl w) (.cells (pfx 0 0 zero16) 41)
  have h1 := h.below hb0
  have hx := lenOk_range hk
  have hx0 := hx.1
  have hx1 := hx.2
  have HL := Lib.hid hk
  have HS := Lib.hid hs
  have hl' : xs.length ≤ 1000000000 := by rw [List.length_cons] at hl; omega
  clear hk hx hs
  go_enter Tryd.func28, Tryd.ntmps28
  go_wp2_with fail
  refine (number_one B g x xs p _ h1 hl (by omega)).mono ?_
  rintro e w1 ⟨rfl, hr1, hgr⟩
  have ho1 := ho.grown hgr (fun e => by cases e; omega)
  have hgr1 := only_trans (only_of_below hb0 (some g)) hgr
  clear hb0 h1 ho
  go_wp2_with fail
  refine (hasLength_any f _ _).mono ?_
  rw [HL.out]
  rintro e w' ⟨rfl, rfl⟩
  go_wp2_with fail
  refine (psize_any x _ hx0 (by omega)).mono ?_
  rintro e w' ⟨rfl, rfl⟩
  go_wp2_with fail
  refine (take_no g xs (p + 1) _ _ hr1.rdr hl' (.inr (by have := HS.out; omega))).mono ?_
  rintro e w' ⟨rfl, rfl⟩
  go_wp2_with (refine wpList_store_row rfl 41 _ _ rfl w.heap.size (pfx 0 0 zero16) rfl rfl 41 (pfx 0 0 zero16) ho1 (pfx_info rfl) rfl (pfx_one 0 0 zero16) ?_)
  have hfin := ho1.setRow (cs' := pfx 0 0 zero16)
  exact bodyPost_ret (results_cell_tmp (p := 4) (t := 5) (fn := Tryd.f28) rfl _ _ w.heap.size 41 (pfx 0 0 zero16) _ rfl hfin pfx_desc rfl (pfx_info rfl)) rfl ⟨rfl, hr1.setRow hBs (by omega), only_setRow hgr1 (Nat.le_refl _)⟩

set_option maxHeartbeats 400000 in
set_option maxRecDepth 100000 in
theorem pread_yes (B : Nat) (f x : Int) (xs : List Int) (g p : Nat) (w : World) (h : RdrB B w g (x :: xs) p) (hl : (x :: xs).length ≤ 1000000000) (hp : p ≤ 999999999) (hk : lenOk f x = true) (hs : (sizeOfBits x).toNat ≤ xs.length) :
    Calls Tryd.prog 28 #[.int .i64 f, .pointer (some ⟨g, 0, none⟩)] w fun e w' => e = .returned (.tuple #[.agg (pfx f x (maskL x (padTo (xs.take (sizeOfBits x).toNat)))), .bool true]) ∧ RdrB B w' g (xs.drop (sizeOfBits x).toNat) (p + 1 + (sizeOfBits x).toNat) ∧ w.grownBy w' (some g) := by
  have hz18 : #[.int .i64 0, .int .i64 0, .int .u8 0, .int .u8 0, .int .u8 0, .int .u8 0, .int .u8 0, .int .u8 0, .int .u8 0, .int .u8 0, .int .u8 0, .int .u8 0, .int .u8 0, .int .u8 0, .int .u8 0, .int .u8 0, .int .u8 0, .int .u8 0] = pfx 0 0 zero16 := pfx_zero.symm
  have ho := Own.new w 41 (pfx 0 0 zero16)
  have hg0 := h.lt
  have hBs := h.size
  have hb0 := bl_alloc (bl_refl w) (.cells (pfx 0 0 zero16) 41)
  have h1 := h.below hb0
  have hx := lenOk_range hk
  have hx0 := hx.1
  have hx1 := hx.2
  have hsz : 0 ≤ sizeOfBits x ∧ sizeOfBits x ≤ 16 := by unfold sizeOfBits; omega
  have hs0 := hsz.1
  have hs1 := hsz.2
  have hlen : (xs.take (sizeOfBits x).toNat).length ≤ 16 := by rw [List.length_take]; omega
  have hpl : IsAddr (padTo (xs.take (sizeOfBits x).toNat)) := padTo_addr hlen (fun y hy => h.range y (List.mem_cons_of_mem _ (List.mem_of_mem_take hy)))
  have hma := maskL_addr x hpl
  have HR := Lib.hid (fun (y : Int) (hy : y ∈ xs.take (sizeOfBits x).toNat) => h.range y (List.mem_cons_of_mem _ (List.mem_of_mem_take hy)))
  have HK := Lib.hid (lenOk_make hk)
  have HL := Lib.hid hk
  have HS := Lib.hid hs
  have HN := Lib.hid (show (xs.take (sizeOfBits x).toNat).length = (sizeOfBits x).toNat by rw [List.length_take]; omega)
  have hl' : xs.length ≤ 1000000000 := by rw [List.length_cons] at hl; omega
  clear hk hx hs hsz hlen
  go_enter Tryd.func28, Tryd.ntmps28
  go_wp2_with fail
  refine (number_one B g x xs p _ h1 hl (by omega)).mono ?_
  rintro e w1 ⟨rfl, hr1, hgr⟩
  have ho1 := ho.grown hgr (fun e => by cases e; omega)
  have hgr1 := only_trans (only_of_below hb0 (some g)) hgr
  clear hb0 h1 ho
  go_wp2_with fail
  refine (hasLength_any f _ _).mono ?_
  rw [HL.out]
  rintro e w' ⟨rfl, rfl⟩
  go_wp2_with fail
  refine (psize_any x _ hx0 (by omega)).mono ?_
  rintro e w' ⟨rfl, rfl⟩
  go_wp2_with fail
  refine (take_yesB B g xs (p + 1) _ _ hr1 hl' (by omega) hs0 (by have := HS.out; omega)).mono ?_
  rintro e w2 ⟨j, rfl, hj, hoj, hr2, hgr2⟩
  have ho2 := ho1.grown hgr2 (fun e => by cases e; omega)
  have hgr3 := only_trans hgr1 hgr2
  have hby := Bytes.of_owned hoj HR.out hoj.lt
  rw [HN.out] at hby
  have hsz1 := hgr1.size
  clear hgr hgr1 hgr2 ho1 hr1 hoj
  go_wp2_with fail
  refine (pmake_yes f x _ _ _ _ _ hby HK.out).mono ?_
  rintro e w3 ⟨rfl, hb3⟩
  have ho3 := ho2.step hb3
  have hr3 := hr2.below hb3
  have hgr4 := only_below hgr3 hb3
  have hi3 := Lib.hid (pfx_info (f := f) (l := x) hma.1)
  clear ho2 hr2 hgr3 hby
  go_wp2_with (refine wpList_store_row rfl 41 _ _ rfl w.heap.size (pfx f x (maskL x (padTo (xs.take (sizeOfBits x).toNat)))) rfl rfl 41 (pfx 0 0 zero16) ho3 hi3.out (by rw [pfx_size hma.1]; rfl) (pfx_one _ _ _) ?_)
  have hfin := ho3.setRow (cs' := pfx f x (maskL x (padTo (xs.take (sizeOfBits x).toNat))))
  exact bodyPost_ret (results_cell_tmp (p := 4) (t := 5) (fn := Tryd.f28) rfl _ _ w.heap.size 41 (pfx f x (maskL x (padTo (xs.take (sizeOfBits x).toNat)))) _ rfl hfin pfx_desc rfl hi3.out) rfl ⟨rfl, hr3.setRow hBs (by omega), only_setRow hgr4 (Nat.le_refl _)⟩
end Go.Proofs.YtecbbjdcnlocdaaDoor
