/- peerageref04.Wrap -/
import Derived.Test.YtejdpfhdjndefaaDoorHdE
namespace Go.Proofs.YtejdpfhdjndefaaDoor
open Go.RowKit

theorem own_base_le2 {w : World} {base b : Nat} {e : TypeId} {size n : Nat} {v : Value} {xs : List Value} (h : w.ownsRow base e size v n xs) (hb : b ≤ base) : w.ownsRow b e size v n xs := by
  refine ⟨h.1, ?_⟩
  rcases h.2 with hn | ⟨g, cap, cur, hv, hbg, rest⟩
  · exact .inl hn
  · exact .inr ⟨g, cap, cur, hv, Nat.le_trans hb hbg, rest⟩
set_option maxRecDepth 100000 in
set_option maxHeartbeats 800000 in
theorem rwrap_yes (a0 a1 a2 a3 a4 a5 : Bool) (k : Int) (A : Option Addr) (n c : Nat) (xs : List Int) (w : World) (hx : Bytes w w.heap.size A n xs) (hk : hAllow a1 k (19 + n) = true) :
    Calls Tryd.prog 18 #[.agg #[.bool a0, .bool a1, .bool a2, .bool a3, .bool a4, .bool a5], .int .i64 k, .slice A n c] w fun e w' => ∃ v, e = .returned (.tuple #[v, .bool true]) ∧ w'.ownsRow w.heap.size 5 1 v (19 + n) ((hForm (19 + n) k ++ xs).map (Value.int .u8)) ∧ Below w.heap.size w w' := by
  obtain ⟨hkn, hn⟩ := hKnown (by omega) hk
  have HO := Lib.hid (hOkOf (by omega) hk)
  have e0 : (hLeast k == 0) = false := by rcases hkn with rfl | rfl | rfl | rfl | rfl <;> decide
  simp only [hAllow, Bool.and_eq_true, decide_eq_true_eq] at hk
  have e1 : decide (19 + (n : Int) < hLeast k) = false := by simp; omega
  have e2 : decide (hLim a1 k < 19 + (n : Int)) = false := by simp; omega
  have hb0 := bl_alloc (bl_refl w) (.cells #[.bool a0, .bool a1, .bool a2, .bool a3, .bool a4, .bool a5] 23)
  have HX := Lib.hid hx.1
  clear hk hkn
  go_enter Tryd.func18, Tryd.ntmps18
  go_wp2_with fail
  refine (rleast_any k _).mono ?_
  rintro e w1 ⟨rfl, rfl⟩
  go_wp2_with fail
  refine (rleast_any k _).mono ?_
  rintro e w1 ⟨rfl, rfl⟩
  go_wp2_with fail
  refine (rlimit_any a0 a1 a2 a3 a4 a5 k _).mono ?_
  rintro e w1 ⟨rfl, hb1⟩
  have hb2 := bl_trans hb0 hb1
  clear hb0 hb1
  go_wp2_with fail
  refine (rhbytes_yes (19 + n) k _ HO.out).mono ?_
  rintro e w2 ⟨v, rfl, ho, hb3⟩
  have hb4 := bl_trans hb2 hb3
  have ho2 := own_base_le2 ho hb2.size
  have hx2 := hx.below hb4
  clear hb2 hb3 ho
  go_wp2_with (at_builtin; refine wpList_append_grow _ rfl _ _ rfl sl_bytes w.heap.size _ 19 _ rfl ho2 w.heap.size A n c (xs.map (Value.int .u8)) rfl (by rw [List.length_map, ← HX.out]; omega) hx2.2.2 ints1 (by unfold maxLen; omega) (by omega) hb4.size ?_; intro v1 w1 hown1 hgrow1)
  have hb5 : Below w.heap.size w w1 := hb4.grown hgrow1 hb4.size (own_base ho2)
  rw [← List.map_append] at hown1
  go_wp2
  go_ret2
  exact ⟨_, rfl, hown1, hb5⟩
set_option maxRecDepth 100000 in
set_option maxHeartbeats 800000 in
theorem rwrap_no (a0 a1 a2 a3 a4 a5 : Bool) (k : Int) (A : Option Addr) (n c : Nat) (w : World) (hm : n ≤ 1000000000) (hk : hAllow a1 k (19 + n) = false) :
    Calls Tryd.prog 18 #[.agg #[.bool a0, .bool a1, .bool a2, .bool a3, .bool a4, .bool a5], .int .i64 k, .slice A n c] w fun e w' => e = .returned (.tuple #[.slice none 0 0, .bool false]) ∧ Below w.heap.size w w' := by

  have hw : IntKind.i64.wrap (19 + (n : Int)) = 19 + (n : Int) := by rw [IntKind.wrap_i64]; omega
  have hb0 := bl_alloc (bl_refl w) (.cells #[.bool a0, .bool a1, .bool a2, .bool a3, .bool a4, .bool a5] 23)
  simp only [hAllow, Bool.and_eq_false_iff, decide_eq_false_iff_not] at hk
  have HK := Lib.hid hk
  clear hk
  by_cases h0 : hLeast k = 0
  · have e0 : (hLeast k == 0) = true := by simpa using h0
    clear h0
    go_enter Tryd.func18, Tryd.ntmps18
    go_wp2_with fail
    refine (rleast_any k _).mono ?_
    rintro e w1 ⟨rfl, rfl⟩
    go_wp2
    go_ret2
    exact ⟨rfl, hb0⟩
  have e0 : (hLeast k == 0) = false := by simpa using h0
  clear h0
  by_cases h1 : 19 + (n : Int) < hLeast k
  · have e1 : decide (19 + (n : Int) < hLeast k) = true := by simpa using h1
    clear h1
    go_enter Tryd.func18, Tryd.ntmps18
    go_wp2_with fail
    refine (rleast_any k _).mono ?_
    rintro e w1 ⟨rfl, rfl⟩
    go_wp2_with fail
    refine (rleast_any k _).mono ?_
    rintro e w1 ⟨rfl, rfl⟩
    go_wp2
    go_ret2
    exact ⟨rfl, hb0⟩
  have e1 : decide (19 + (n : Int) < hLeast k) = false := by simpa using h1
  have e2 : decide (hLim a1 k < 19 + (n : Int)) = true := by have := HK.out; simp; omega
  clear h1
  go_enter Tryd.func18, Tryd.ntmps18
  go_wp2_with fail
  refine (rleast_any k _).mono ?_
  rintro e w1 ⟨rfl, rfl⟩
  go_wp2_with fail
  refine (rleast_any k _).mono ?_
  rintro e w1 ⟨rfl, rfl⟩
  go_wp2_with fail
  refine (rlimit_any a0 a1 a2 a3 a4 a5 k _).mono ?_
  rintro e w1 ⟨rfl, hb1⟩
  have hb2 := bl_trans hb0 hb1
  go_wp2
  go_ret2
  exact ⟨rfl, hb2⟩
end Go.Proofs.YtejdpfhdjndefaaDoor
