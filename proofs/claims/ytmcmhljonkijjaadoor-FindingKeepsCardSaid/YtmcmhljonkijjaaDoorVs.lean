/- Worse and Same on both sides -/
import Derived.Test.YtmcmhljonkijjaaDoorVd
namespace Go.Proofs.YtmcmhljonkijjaaDoor
open Go.RowKit Go.Sort

def vWorse (v u : Vd) : Bool := decide (u.k < v.k ∨ (v.k = u.k ∧ v.t < u.t))
def vSame (v u : Vd) : Bool := decide (v.k = u.k ∧ v.c = u.c ∧ v.s = u.s ∧ v.t = u.t ∧ v.xs = u.xs)
set_option maxRecDepth 100000 in
set_option maxHeartbeats 1600000 in
theorem fworse_any (v u : Vd) (w : World) :
    Calls Tryd.prog 76 #[.agg (vdc v), .agg (vdc u)] w fun e w' => e = .returned (.bool (vWorse v u)) ∧ Below w.heap.size w w' := by
  obtain ⟨k, c, s, A, n, cp, xs, t⟩ := v
  obtain ⟨k', c', s', A', n', cp', xs', t'⟩ := u
  simp only [vdc, vWorse]
  go_enter Tryd.func76, Tryd.ntmps76
  go_wp2
  all_goals go_ret
  all_goals refine ⟨ret_bool ?_, bl_alloc (bl_alloc (bl_refl w) _) _⟩
  all_goals first | rfl | (rw [Bool.eq_iff_iff]; simp only [decide_eq_true_eq]; omega)
set_option maxRecDepth 100000 in
set_option maxHeartbeats 1600000 in
theorem rworse_any (v u : Vd) (w : World) :
    Calls Tryd.prog 50 #[.agg (vdc v), .agg (vdc u)] w fun e w' => e = .returned (.bool (vWorse v u)) ∧ Below w.heap.size w w' := by
  obtain ⟨k, c, s, A, n, cp, xs, t⟩ := v
  obtain ⟨k', c', s', A', n', cp', xs', t'⟩ := u
  simp only [vdc, vWorse]
  go_enter Tryd.func50, Tryd.ntmps50
  go_wp2
  all_goals go_ret
  all_goals refine ⟨ret_bool ?_, bl_alloc (bl_alloc (bl_refl w) _) _⟩
  all_goals first | rfl | (rw [Bool.eq_iff_iff]; simp only [decide_eq_true_eq]; omega)
theorem str_inj {xs ys : List Int} (hx : ∀ x ∈ xs, 0 ≤ x ∧ x ≤ 255) (hy : ∀ x ∈ ys, 0 ≤ x ∧ x ≤ 255) : (strOfNums xs = strOfNums ys) ↔ xs = ys := by
  constructor
  · intro h
    have h2 := congrArg (fun b : ByteArray => b.data.toList) h
    simp only [strOfNums_data] at h2
    clear h
    induction xs generalizing ys with
    | nil => cases ys with
      | nil => rfl
      | cons y ys => simp at h2
    | cons x xs ih => cases ys with
      | nil => simp at h2
      | cons y ys =>
        simp only [List.map_cons, List.cons.injEq] at h2
        have h3 := congrArg UInt8.toNat h2.1
        have a := hx x List.mem_cons_self
        have b := hy y List.mem_cons_self
        simp only [UInt8.toNat_ofNat'] at h3
        rw [ih (fun z hz => hx z (List.mem_cons_of_mem _ hz)) (fun z hz => hy z (List.mem_cons_of_mem _ hz)) h2.2]
        congr 1
        omega
  · intro h; rw [h]
theorem toList_iff (a b : ByteArray) : a.toList = b.toList ↔ a = b := by
  rw [ByteArray.toList_eq, ByteArray.toList_eq]
  exact ⟨fun h => ByteArray.ext (Array.ext' h), fun h => by rw [h]⟩
set_option maxRecDepth 100000 in
theorem rsame1_any (A A2 : Option Addr) (n n2 c c2 : Nat) (xs ys : List Int) (w : World) (B B2 : Nat) (hx : Bytes w B A n xs) (hy : Bytes w B2 A2 n2 ys) :
    Calls Tryd.prog 48 #[.slice A n c, .slice A2 n2 c2] w fun e w' => e = .returned (.bool (decide (xs = ys))) ∧ w = w' := by
  have h1 := bytes_str (c := c) hx
  have h2 := bytes_str (c := c2) hy
  have hi := Lib.hid (str_inj hx.2.1 hy.2.1)
  go_enter Tryd.func48, Tryd.ntmps48
  go_wp2
  go_ret
  refine ⟨ret_bool ?_, rfl⟩
  rw [Bool.eq_iff_iff]
  simp only [beq_iff_eq, decide_eq_true_eq, toList_iff, hi.out]
set_option maxRecDepth 100000 in
set_option maxHeartbeats 1600000 in
theorem rsame4_any (v u : Vd) (w : World) (hv : v.Ok w w.heap.size) (hu : u.Ok w w.heap.size) :
    Calls Tryd.prog 23 #[.agg (vdc v), .agg (vdc u)] w fun e w' => e = .returned (.bool (vSame v u)) ∧ Below w.heap.size w w' := by
  have hx := hv.1
  have hy := hu.1
  clear hv hu
  obtain ⟨k, c, s, A, n, cp, xs, t⟩ := v
  obtain ⟨k', c', s', A', n', cp', ys, t'⟩ := u
  simp only [vdc, vSame] at hx hy ⊢
  have hb := bl_alloc (bl_alloc (bl_refl w) (.cells #[.int .i64 k, .int .i64 c, .int .i64 s, .slice A n cp, .int .i64 t] 40)) (.cells #[.int .i64 k', .int .i64 c', .int .i64 s', .slice A' n' cp', .int .i64 t'] 40)
  have hx1 := Lib.hid (hx.below hb)
  have hy1 := Lib.hid (hy.below hb)
  clear hx hy
  by_cases hk : k = k' ∧ c = c' ∧ s = s' ∧ t = t'
  · obtain ⟨rfl, rfl, rfl, rfl⟩ := hk
    go_enter Tryd.func23, Tryd.ntmps23
    go_wp2_with fail
    refine (rsame1_any _ _ _ _ _ _ _ _ _ _ _ hx1.out hy1.out).mono ?_
    rintro e w1 ⟨rfl, rfl⟩
    go_wp2
    go_ret
    exact ⟨ret_bool (by simp), hb⟩
  · go_enter Tryd.func23, Tryd.ntmps23
    go_wp2_with fail
    all_goals first
      | (exfalso; omega)
      | (go_ret; exact ⟨ret_bool (by symm; rw [decide_eq_false_iff_not]; rintro ⟨h1, h2, h3, h4, _⟩; exact hk ⟨h1, h2, h3, h4⟩), bl_alloc (bl_alloc (bl_refl w) _) _⟩)
end Go.Proofs.YtmcmhljonkijjaaDoor
