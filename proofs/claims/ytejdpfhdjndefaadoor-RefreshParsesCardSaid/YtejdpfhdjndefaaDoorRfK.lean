/- RefreshParses: the walk -/
import Derived.Test.YtejdpfhdjndefaaDoorRfJ
import Derived.Test.YtejdpfhdjndefaaDoorRfI
namespace Go.Proofs.YtejdpfhdjndefaaDoor
open Go.RowKit Extern.Stop

set_option maxRecDepth 100000 in
theorem rf_eql_same (a b c : Int) (W : World) : (binOp .eql 52 (.agg #[.int .i64 a, .int .i64 b, .int .i64 c]) (.agg #[.int .i64 a, .int .i64 b, .int .i64 c])).run Tryd.prog W = Result.ok (.bool true) W := by
  rw [rf_eql]; simp
theorem rfForm_back {x0 x1 x2 x3 : Int} (l0 : 0 ≤ x0) (u0 : x0 ≤ 255) (l1 : 0 ≤ x1) (u1 : x1 ≤ 255) : rfForm (x0 * 256 + x1) x2 x3 = [x0, x1, x2, x3] := by
  unfold rfForm
  rw [show (2 : Int).toNat = 2 from rfl, digitsOf_2]
  rw [show (x0 * 256 + x1) / 256 % 256 = x0 by omega, show (x0 * 256 + x1) % 256 = x1 by omega]
  rfl
set_option maxRecDepth 100000 in
theorem rfparses_early (A : Option Addr) (n c : Nat) (w : World) (ht : Fams w) (hm : n ≤ maxLen) (h : 300 < n) :
    Calls Tryd.prog 10 #[.slice A n c] w fun e w' => e = .returned (.bool true) ∧ Below w.heap.size w w' := by
  unfold maxLen at hm
  go_enter Tryd.func10, Tryd.ntmps10
  go_wp2_with fail
  refine (alive19_any _ ht).mono ?_
  rintro e w1 ⟨rfl, hb1⟩
  go_wp2
  go_ret
  exact ⟨rfl, hb1⟩
set_option maxRecDepth 100000 in
set_option maxHeartbeats 1600000 in
theorem rfparses_no (A : Option Addr) (n c : Nat) (w : World) (ht : Fams w) (h : n ≤ 300) (h4 : n ≠ 4) :
    Calls Tryd.prog 10 #[.slice A n c] w fun e w' => e = .returned (.bool true) ∧ Below w.heap.size w w' := by
  have hq := rf_eql_same 0 0 0
  have H4 := Lib.hid h4
  have hok : rfOk 0 0 0 = true := by decide
  have HK := Lib.hid hok
  clear h4 hok
  go_enter Tryd.func10, Tryd.ntmps10
  go_wp2_with fail
  refine (rfparse_no A n c _ H4.out).mono ?_
  rintro e w1 ⟨rfl, hb1⟩
  have ht1 := (ht.below hb1).alloc (.cells #[.int .i64 0, .int .i64 0, .int .i64 0] 52)
  have hb2 := bl_alloc hb1 (.cells #[.int .i64 0, .int .i64 0, .int .i64 0] 52)
  have o2 := Own.new w1 52 #[.int .i64 0, .int .i64 0, .int .i64 0]
  clear ht hb1
  go_wp2_with fail
  refine (rrfparse_no A n c _ H4.out).mono ?_
  rintro e w2 ⟨rfl, hb3⟩
  have ht2 := (ht1.below hb3).alloc (.cells #[.int .i64 0, .int .i64 0, .int .i64 0] 55)
  have hb4 := bl_alloc (bl_trans hb2 hb3) (.cells #[.int .i64 0, .int .i64 0, .int .i64 0] 55)
  have o3 := (o2.step hb3).alloc (.cells #[.int .i64 0, .int .i64 0, .int .i64 0] 55)
  have o4 := Own.new w2 55 #[.int .i64 0, .int .i64 0, .int .i64 0]
  obtain ⟨c0, c1, c2⟩ := own_thr o3
  clear ht1 hb2 hb3 o2
  go_wp2_with fail
  refine (rfbytes_yes 0 0 0 _ HK.out).mono ?_
  rintro e w3 ⟨g, rfl, hg, ho, hb5⟩
  have ht3 := ht2.below hb5
  have hb6 := bl_trans hb4 hb5
  have o5 := o3.step hb5
  have o6 := o4.step hb5
  clear hb4 hb5 ht2 o3 o4 hg ho c0 c1 c2
  go_wp2_with fail
  refine (alive19_any _ ht3).mono ?_
  rintro e w4 ⟨rfl, hb7⟩
  have hb8 := bl_trans hb6 hb7
  obtain ⟨c0, c1, c2⟩ := own_thr (o5.step hb7)
  obtain ⟨d0, d1, d2⟩ := own_thr (o6.step hb7)
  go_wp2
  go_ret
  exact ⟨rfl, hb8⟩
set_option maxRecDepth 100000 in
set_option maxHeartbeats 1600000 in
theorem rfparses_yes (A : Option Addr) (c : Nat) (xs : List Int) (w : World) (ht : Fams w) (hx : Bytes w w.heap.size A 4 xs) :
    Calls Tryd.prog 10 #[.slice A 4 c] w fun e w' => e = .returned (.bool true) ∧ Below w.heap.size w w' := by
  obtain ⟨b, o, x0, x1, x2, x3, hA, hb, hxs, c0, c1, c2, c3, l0, u0, l1, u1, l2, u2, l3, u3⟩ := hx.four
  have HX := Lib.hid hxs
  have hok : rfOk (x0 * 256 + x1) x2 x3 = true := by unfold rfOk; simp; omega
  have HK := Lib.hid hok
  have HF := Lib.hid (rfForm_back (x2 := x2) (x3 := x3) l0 u0 l1 u1)
  have hE : ∃ a, a = x0 * 256 + x1 := ⟨_, rfl⟩
  obtain ⟨a, hE⟩ := hE
  have HE := Lib.hid hE
  rw [← hE] at HK HF
  have hq := rf_eql_same a x2 x3
  have hpa : ∀ w, Bytes w w.heap.size A 4 xs → Calls Tryd.prog 36 #[.slice A 4 c] w fun e w' => e = .returned (.tuple #[.agg #[.int .i64 a, .int .i64 x2, .int .i64 x3], .bool true]) ∧ Below w.heap.size w w' := fun w h => by
    have := rfparse_yes A c xs w h
    rw [HX.out] at this
    rw [HE.out]
    exact this
  have hpb : ∀ w, Bytes w w.heap.size A 4 xs → Calls Tryd.prog 37 #[.slice A 4 c] w fun e w' => e = .returned (.tuple #[.agg #[.int .i64 a, .int .i64 x2, .int .i64 x3], .bool true]) ∧ Below w.heap.size w w' := fun w h => by
    have := rrfparse_yes A c xs w h
    rw [HX.out] at this
    rw [HE.out]
    exact this
  have HPA := Lib.hid hpa
  have HPB := Lib.hid hpb
  clear hpa hpb hE hok hxs c0 c1 c2 c3 l0 u0 l1 u1 l2 u2 l3 u3 hA hb
  go_enter Tryd.func10, Tryd.ntmps10
  go_wp2_with fail
  refine (HPA.out _ hx).mono ?_
  rintro e w1 ⟨rfl, hb1⟩
  have ht1 := (ht.below hb1).alloc (.cells #[.int .i64 a, .int .i64 x2, .int .i64 x3] 52)
  have hb2 := bl_alloc hb1 (.cells #[.int .i64 a, .int .i64 x2, .int .i64 x3] 52)
  have o2 := Own.new w1 52 #[.int .i64 a, .int .i64 x2, .int .i64 x3]
  have hx2 := (hx.below hb2).more hb2.size
  clear ht hb1
  go_wp2_with fail
  refine (HPB.out _ hx2).mono ?_
  rintro e w2 ⟨rfl, hb3⟩
  have ht2 := (ht1.below hb3).alloc (.cells #[.int .i64 a, .int .i64 x2, .int .i64 x3] 55)
  have hb4 := bl_alloc (bl_trans hb2 hb3) (.cells #[.int .i64 a, .int .i64 x2, .int .i64 x3] 55)
  have o3 := (o2.step hb3).alloc (.cells #[.int .i64 a, .int .i64 x2, .int .i64 x3] 55)
  have o4 := Own.new w2 55 #[.int .i64 a, .int .i64 x2, .int .i64 x3]
  obtain ⟨c0, c1, c2⟩ := own_thr o3
  clear ht1 hb2 hb3 o2 hx2
  go_wp2_with fail
  refine (rfbytes_yes a x2 x3 _ HK.out).mono ?_
  rw [HF.out]
  rintro e w3 ⟨g, rfl, hg, ho, hb5⟩
  have ht3 := ht2.below hb5
  have hb6 := bl_trans hb4 hb5
  have o5 := o3.step hb5
  have o6 := o4.step hb5
  have hr : ∀ x ∈ [x0, x1, x2, x3], 0 ≤ x ∧ x ≤ 255 := by rw [← HX.out]; exact hx.2.1
  clear hb4 hb5 ht2 o3 o4 hg c0 c1 c2
  go_wp2_with fail
  refine (alive19_any _ ht3).mono ?_
  rintro e w4 ⟨rfl, hb7⟩
  have hb8 := bl_trans hb6 hb7
  obtain ⟨c0, c1, c2⟩ := own_thr (o5.step hb7)
  obtain ⟨d0, d1, d2⟩ := own_thr (o6.step hb7)
  have ho2 := ho.step hb7
  have hy := Bytes.of_owned (xs := [x0, x1, x2, x3]) ho2 hr ho2.lt
  have hz := (hx.below hb8).more hb8.size
  clear hb6 hb7 ht3 o5 o6 ho ho2 hr
  go_wp2_with fail
  refine (bytesEq_any _ _ _ _ _ _ _ _ _ _ _ hy hz (by simp) (by simp)).mono ?_
  rintro e w5 ⟨rfl, m, rfl⟩
  have hdec : decide ([x0, x1, x2, x3] = xs) = true := by rw [HX.out]; simp
  rw [hdec]
  have hb9 := bl_drewN hb8 m
  go_wp2
  go_ret
  exact ⟨rfl, hb9⟩
set_option maxRecDepth 100000 in
theorem rfparses_all (A : Option Addr) (n c : Nat) (xs : List Int) (w : World) (ht : Fams w) (hx : Bytes w w.heap.size A n xs) (hm : n ≤ maxLen) :
    Calls Tryd.prog 10 #[.slice A n c] w fun e w' => e = .returned (.bool true) ∧ Below w.heap.size w w' := by
  by_cases h : 300 < n
  · exact rfparses_early A n c w ht hm h
  · by_cases h4 : n = 4
    · subst h4
      exact rfparses_yes A c xs w ht hx
    · exact rfparses_no A n c w ht (by omega) h4
end Go.Proofs.YtejdpfhdjndefaaDoor
