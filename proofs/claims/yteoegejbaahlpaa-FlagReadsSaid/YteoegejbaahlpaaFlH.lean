/- flag.Read -/
import Derived.Test.YteoegejbaahlpaaFlE
import Derived.Test.YteoegejbaahlpaaFlCa
import Derived.Test.YteoegejbaahlpaaPfxR
namespace Go.Proofs.Yteoegejbaahlpaa
open Go.RowKit

def hOk (xs : List Int) : Bool := match xs with
  | a :: _ :: zs => decide (fk a ≤ (zs.length : Int))
  | _ => false
def hN (xs : List Int) : Nat := 2 + (fk (xs.headD 0)).toNat
def hR (xs : List Int) : Array Value := match xs with
  | a :: b :: zs => if fk a ≤ (zs.length : Int) then #[.int .i64 a, .int .i64 b, .int .i64 (big (zs.take (fk a).toNat))] else #[.int .i64 0, .int .i64 0, .int .i64 0]
  | _ => #[.int .i64 0, .int .i64 0, .int .i64 0]
theorem only_far {a w : World} {g : Nat} (h : a.grownBy w (some g)) {p : Addr} (hp : a.heap.size ≤ p.block) (u : Value) : a.grownBy (w.setCell p u) (some g) :=
  ⟨h.os, h.tape, h.output, by simpa using h.size, fun i hi hne => (Below.heap_setCell w p u i (by omega)).trans (h.block i hi hne)⟩
set_option maxRecDepth 100000 in
theorem numb_one (g : Nat) (x : Int) (xs : List Int) (p : Nat) (w : World) (h : Rdr w g (x :: xs) p) (hl : (x :: xs).length ≤ 1000000000) (hp : p ≤ 1000000000) :
    Calls Try.prog 61 #[.pointer (some ⟨g, 0, none⟩), .int .i64 1] w fun e w' => e = .returned (.tuple #[.int .u32 x, .bool true]) ∧
      Rdr w' g xs (p + 1) ∧ w.grownBy w' (some g) := by
  refine (number_yes g _ p 1 w h hl hp (by omega) (by omega) (by rw [List.length_cons]; omega)).mono ?_
  rintro e w' ⟨rfl, hr, hg⟩
  refine ⟨?_, hr, hg⟩
  show Ending.returned (.tuple #[.int .u32 (big [x]), _]) = _
  simp [big]

set_option maxRecDepth 100000 in
set_option maxHeartbeats 400000 in
theorem fread_none (xs : List Int) (hx : xs.length ≤ 1) (g p : Nat) (w : World) (h : Rdr w g xs p) (hp : p ≤ 100000000) :
    Calls Try.prog 35 #[.pointer (some ⟨g, 0, none⟩)] w fun e w' => e = .returned (.tuple #[.agg (hR xs), .bool (hOk xs)]) ∧ (hOk xs = true → Rdr w' g (xs.drop (hN xs)) (p + hN xs)) ∧ w.grownBy w' (some g) := by
  have ho := Own.new w 55 #[.int .i64 0, .int .i64 0, .int .i64 0]
  have hb0 := bl_alloc (bl_refl w) (.cells #[.int .i64 0, .int .i64 0, .int .i64 0] 55)
  have h1 := h.below hb0
  have hgl := h.lt
  have hk0 : fk 0 = 1 := by decide
  match xs, hx, h1 with
  | [], _, h1 =>
    go_enter Try.func35, Try.ntmps35
    go_wp2_with fail
    refine (number_no g [] p 1 _ h1 (by simp) (by omega) (by omega) (by simp)).mono ?_
    rintro e w' ⟨rfl, rfl⟩
    go_wp2_with fail
    refine (number_no g [] p 1 _ h1 (by simp) (by omega) (by omega) (by simp)).mono ?_
    rintro e w' ⟨rfl, rfl⟩
    go_wp2_with fail
    refine (lengthSize_any 0 _).mono ?_
    rw [hk0]
    rintro e w' ⟨rfl, rfl⟩
    go_wp2_with fail
    refine (number_no g [] p 1 _ h1 (by simp) (by omega) (by omega) (by simp)).mono ?_
    rintro e w' ⟨rfl, rfl⟩
    go_wp2
    refine bodyPost_ret (results_cell_tmp (p := 2) (t := 3) (fn := Try.f35) rfl _ _ w.heap.size 55 #[.int .i64 0, .int .i64 0, .int .i64 0] _ rfl ho fhead_desc rfl (fhead_info _ _ _)) rfl ⟨rfl, (by intro hh; simp [hOk] at hh), only_of_below hb0 _⟩
  | [a], _, h1 =>
    have hr := h1.range a (List.mem_cons_self ..)
    have ha0 := hr.1
    have ha1 := hr.2
    have hfk := fk_cases a
    have hk1 : 1 ≤ fk a := by omega
    have hk4 : fk a ≤ 4 := by omega
    clear hfk hr
    go_enter Try.func35, Try.ntmps35
    go_wp2_with fail
    refine (numb_one g a [] p _ h1 (by simp) (by omega)).mono ?_
    rintro e w1 ⟨rfl, hr1, hg1⟩
    have o1 := ho.grown hg1 (fun e => by cases e; omega)
    have hgr := only_trans (only_of_below hb0 (some g)) hg1
    go_wp2_with fail
    refine (number_no g [] (p + 1) 1 _ hr1 (by simp) (by omega) (by omega) (by simp)).mono ?_
    rintro e w' ⟨rfl, rfl⟩
    go_wp2_with fail
    refine (lengthSize_any a _).mono ?_
    rintro e w' ⟨rfl, rfl⟩
    go_wp2_with fail
    refine (number_no g [] (p + 1) (fk a) _ hr1 (by simp) hk1 hk4 (by simp; omega)).mono ?_
    rintro e w' ⟨rfl, rfl⟩
    have c0 := o1.cell (i := 0) (v := .int .i64 0) rfl
    have c1 := o1.cell (i := 1) (v := .int .i64 0) rfl
    have c2 := o1.cell (i := 2) (v := .int .i64 0) rfl
    have f0 := o1.frozen 0
    have f1 := o1.frozen 1
    have f2 := o1.frozen 2
    have hlt := o1.lt
    go_wp2
    refine bodyPost_ret (results_cell_tmp (p := 2) (t := 3) (fn := Try.f35) rfl _ _ w.heap.size 55 #[.int .i64 0, .int .i64 0, .int .i64 0] _ rfl (own_three o1 _ _ _) fhead_desc rfl (fhead_info _ _ _)) rfl ⟨rfl, (by intro hh; simp [hOk] at hh), only_far (p := ⟨w.heap.size, 2, none⟩) (only_far (p := ⟨w.heap.size, 1, none⟩) (only_far (p := ⟨w.heap.size, 0, none⟩) hgr (Nat.le_refl _) _) (Nat.le_refl _) _) (Nat.le_refl _) _⟩

set_option maxRecDepth 100000 in
theorem numb_no (g p : Nat) (k : Int) (B : Nat) (xs : List Int) (w : World) (h : RdrB B w g xs p) (hl : xs.length ≤ 1000000000) (hk1 : 1 ≤ k) (hk4 : k ≤ 4) (hk : (xs.length : Int) < k) :
    Calls Try.prog 61 #[.pointer (some ⟨g, 0, none⟩), .int .i64 k] w fun e w' => e = .returned (.tuple #[.int .u32 0, .bool false]) ∧ w = w' :=
  number_no g xs p k w h.rdr hl hk1 hk4 (by omega)

set_option maxRecDepth 100000 in
set_option maxHeartbeats 800000 in
theorem fread_some (a b : Int) (zs : List Int) (B g p : Nat) (w : World) (h : RdrB B w g (a :: b :: zs) p) (hl : (a :: b :: zs).length ≤ 100000000) (hp : p ≤ 100000000) :
    Calls Try.prog 35 #[.pointer (some ⟨g, 0, none⟩)] w fun e w' => e = .returned (.tuple #[.agg (hR (a :: b :: zs)), .bool (hOk (a :: b :: zs))]) ∧ (hOk (a :: b :: zs) = true → RdrB B w' g ((a :: b :: zs).drop (hN (a :: b :: zs))) (p + hN (a :: b :: zs))) ∧ w.grownBy w' (some g) := by
  have ho := Own.new w 55 #[.int .i64 0, .int .i64 0, .int .i64 0]
  have hb0 := bl_alloc (bl_refl w) (.cells #[.int .i64 0, .int .i64 0, .int .i64 0] 55)
  have h1 := h.below hb0
  have hgl := h.lt
  have hBs := h.size
  have hra := h.range a (List.mem_cons_self ..)
  have hrb := h.range b (List.mem_cons_of_mem _ (List.mem_cons_self ..))
  have ha0 := hra.1
  have ha1 := hra.2
  have hb0' := hrb.1
  have hb1' := hrb.2
  have hfk := fk_cases a
  have hk1 : 1 ≤ fk a := by omega
  have hk4 : fk a ≤ 4 := by omega
  have hlz : zs.length + 2 ≤ 100000000 := by simpa using hl
  have HZ := Lib.hid (fun x hx => h.range x (List.mem_cons_of_mem _ (List.mem_cons_of_mem _ hx)))
  clear hra hrb
  by_cases hk : fk a ≤ (zs.length : Int)
  · have hbig := big_range (fk a).toNat (zs.take (fk a).toNat) (by rw [List.length_take]; omega) (fun x hx => HZ.out x (List.mem_of_mem_take hx))
    have hbg0 := hbig.1
    have hbg1 : big (zs.take (fk a).toNat) < 65536 := by
      have h2 := hbig.2
      rcases hfk with hf | hf <;> rw [hf] at h2 ⊢
      · have : (256 : Int) ^ (1 : Int).toNat = 256 := rfl
        omega
      · have : (256 : Int) ^ (2 : Int).toNat = 65536 := rfl
        omega
    have HR := Lib.hid (show hR (a :: b :: zs) = #[.int .i64 a, .int .i64 b, .int .i64 (big (zs.take (fk a).toNat))] by simp only [hR]; rw [if_pos hk])
    have HO := Lib.hid (show hOk (a :: b :: zs) = true by simp only [hOk]; simpa using hk)
    clear hbig hfk
    go_enter Try.func35, Try.ntmps35
    go_wp2_with fail
    refine (number_one B g a _ p _ h1 (by simp; omega) (by omega)).mono ?_
    rintro e w1 ⟨rfl, hr1, hg1⟩
    have o1 := ho.grown hg1 (fun e => by cases e; omega)
    have hgr1 := only_trans (only_of_below hb0 (some g)) hg1
    go_wp2_with fail
    refine (number_one B g b _ (p + 1) _ hr1 (by simp; omega) (by omega)).mono ?_
    rintro e w2 ⟨rfl, hr2, hg2⟩
    have o2 := o1.grown hg2 (fun e => by cases e; omega)
    have hgr2 := only_trans hgr1 hg2
    go_wp2_with fail
    refine (lengthSize_any a _).mono ?_
    rintro e w' ⟨rfl, rfl⟩
    go_wp2_with fail
    refine (number_yesB B g zs (p + 1 + 1) (fk a) _ hr2 (by omega) (by omega) hk1 hk4 hk).mono ?_
    rintro e w3 ⟨rfl, hr3, hg3⟩
    have o3 := o2.grown hg3 (fun e => by cases e; omega)
    have hgr3 := only_trans hgr2 hg3
    have c0 := o3.cell (i := 0) (v := .int .i64 0) rfl
    have c1 := o3.cell (i := 1) (v := .int .i64 0) rfl
    have c2 := o3.cell (i := 2) (v := .int .i64 0) rfl
    have f0 := o3.frozen 0
    have f1 := o3.frozen 1
    have f2 := o3.frozen 2
    have hlt := o3.lt
    go_wp2
    have hgl3 : w.heap.size ≠ g := by omega
    refine bodyPost_ret (results_cell_tmp (p := 2) (t := 3) (fn := Try.f35) rfl _ _ w.heap.size 55 #[.int .i64 a, .int .i64 b, .int .i64 (big (zs.take (fk a).toNat))] _ rfl (own_three o3 _ _ _) fhead_desc rfl (fhead_info _ _ _)) rfl ⟨by rw [HR.out, HO.out]; rfl, fun _ => ?_, only_far (p := ⟨w.heap.size, 2, none⟩) (only_far (p := ⟨w.heap.size, 1, none⟩) (only_far (p := ⟨w.heap.size, 0, none⟩) hgr3 (Nat.le_refl _) _) (Nat.le_refl _) _) (Nat.le_refl _) _⟩
    have e1 : (a :: b :: zs).drop (hN (a :: b :: zs)) = zs.drop (fk a).toNat := by
      unfold hN; rw [List.headD_cons, Nat.add_comm]; rfl
    have e2 : p + hN (a :: b :: zs) = p + 1 + 1 + (fk a).toNat := by unfold hN; rw [List.headD_cons]; omega
    rw [e1, e2]
    exact ((hr3.setCell (a := ⟨w.heap.size, 0, none⟩) hBs hgl3).setCell (a := ⟨w.heap.size, 1, none⟩) hBs hgl3).setCell (a := ⟨w.heap.size, 2, none⟩) hBs hgl3
  · have HR := Lib.hid (show hR (a :: b :: zs) = #[.int .i64 0, .int .i64 0, .int .i64 0] by simp only [hR]; rw [if_neg hk])
    have HO := Lib.hid (show hOk (a :: b :: zs) = false by simp only [hOk]; simpa using hk)
    clear hfk
    go_enter Try.func35, Try.ntmps35
    go_wp2_with fail
    refine (number_one B g a _ p _ h1 (by simp; omega) (by omega)).mono ?_
    rintro e w1 ⟨rfl, hr1, hg1⟩
    have o1 := ho.grown hg1 (fun e => by cases e; omega)
    have hgr1 := only_trans (only_of_below hb0 (some g)) hg1
    go_wp2_with fail
    refine (number_one B g b _ (p + 1) _ hr1 (by simp; omega) (by omega)).mono ?_
    rintro e w2 ⟨rfl, hr2, hg2⟩
    have o2 := o1.grown hg2 (fun e => by cases e; omega)
    have hgr2 := only_trans hgr1 hg2
    go_wp2_with fail
    refine (lengthSize_any a _).mono ?_
    rintro e w' ⟨rfl, rfl⟩
    go_wp2_with fail
    refine (numb_no g (p + 1 + 1) (fk a) B zs _ hr2 (by omega) hk1 hk4 (by omega)).mono ?_
    rintro e w' ⟨rfl, rfl⟩
    have c0 := o2.cell (i := 0) (v := .int .i64 0) rfl
    have c1 := o2.cell (i := 1) (v := .int .i64 0) rfl
    have c2 := o2.cell (i := 2) (v := .int .i64 0) rfl
    have f0 := o2.frozen 0
    have f1 := o2.frozen 1
    have f2 := o2.frozen 2
    have hlt := o2.lt
    go_wp2
    refine bodyPost_ret (results_cell_tmp (p := 2) (t := 3) (fn := Try.f35) rfl _ _ w.heap.size 55 #[.int .i64 0, .int .i64 0, .int .i64 0] _ rfl (own_three o2 _ _ _) fhead_desc rfl (fhead_info _ _ _)) rfl ⟨by rw [HR.out, HO.out]; rfl, (by rw [HO.out]; intro hh; cases hh), only_far (p := ⟨w.heap.size, 2, none⟩) (only_far (p := ⟨w.heap.size, 1, none⟩) (only_far (p := ⟨w.heap.size, 0, none⟩) hgr2 (Nat.le_refl _) _) (Nat.le_refl _) _) (Nat.le_refl _) _⟩
set_option maxRecDepth 100000 in
/-- flag.Read, whatever is left -/
theorem fread_any (xs : List Int) (g p : Nat) (w : World) (h : Rdr w g xs p) (hl : xs.length ≤ 100000000) (hp : p ≤ 100000000) :
    Calls Try.prog 35 #[.pointer (some ⟨g, 0, none⟩)] w fun e w' => e = .returned (.tuple #[.agg (hR xs), .bool (hOk xs)]) ∧ (hOk xs = true → Rdr w' g (xs.drop (hN xs)) (p + hN xs)) ∧ w.grownBy w' (some g) := by
  match xs, h, hl with
  | [], h, _ => exact fread_none [] (by simp) g p w h hp
  | [a], h, _ => exact fread_none [a] (by simp) g p w h hp
  | a :: b :: zs, h, hl =>
    refine (fread_some a b zs _ g p w h.toB hl hp).mono ?_
    rintro e w' ⟨rfl, hr, hg⟩
    exact ⟨rfl, fun hh => (hr hh).rdr, hg⟩
end Go.Proofs.Yteoegejbaahlpaa
