/- NlriReads: the walk -/
import Derived.Test.YteoegejbaahlpaaRLc
import Derived.Test.YteoegejbaahlpaaAl3
import Derived.Test.YteoegejbaahlpaaRteq
namespace Go.Proofs.Yteoegejbaahlpaa
open Go.RowKit Extern.Stop

set_option maxRecDepth 100000 in
theorem rl_any (f : Int) (add : Bool) (A : Option Addr) (n c : Nat) (xs : List Int) (w : World) (hx : Bytes w w.heap.size A n xs) (hc : n ≤ c) (hn : n ≤ 1000000) :
    Calls Try.prog 16 #[.int .i64 f, .bool add, .slice A n c] w fun e w' => ∃ v at_, e = .returned (.tuple #[v, .int .i64 at_]) ∧ ReadsTo f add xs w' v at_ ∧ Below w.heap.size w w' := by
  cases add
  · exact rl_false f A n c xs w hx hc hn
  · exact rl_true f A n c xs w hx hc hn
set_option maxRecDepth 100000 in
theorem nreads_early (f : Int) (add : Bool) (A : Option Addr) (n c : Nat) (w : World) (hm : n ≤ maxLen) (h : 1000 < n) :
    Calls Try.prog 3 #[.int .i64 f, .bool add, .slice A n c] w fun e w' => e = .returned (.bool true) ∧ Below w.heap.size w w' := by
  unfold maxLen at hm
  go_enter Try.func3, Try.ntmps3
  go_wp2_with fail
  refine (alive3_any _).mono ?_
  rintro e w1 ⟨rfl, hb1⟩
  go_wp2
  go_ret
  exact ⟨rfl, hb1⟩

set_option maxRecDepth 100000 in
set_option maxHeartbeats 1600000 in
theorem nreads_main (f : Int) (add : Bool) (A : Option Addr) (n c : Nat) (xs : List Int) (w : World) (hx : Bytes w w.heap.size A n xs) (hc : n ≤ c) (h : n ≤ 1000) :
    Calls Try.prog 3 #[.int .i64 f, .bool add, .slice A n c] w fun e w' => e = .returned (.bool true) ∧ Below w.heap.size w w' := by
  have HX := Lib.hid hx
  clear hx
  go_enter Try.func3, Try.ntmps3
  go_wp2_with fail
  refine (nread_any f add A n c xs _ HX.out (by omega)).mono ?_
  rintro e w1 ⟨v, a, rfl, h1, hb1⟩
  go_wp2_with fail
  refine (rl_any f add A n c xs _ ((HX.out.below hb1).more hb1.size) hc (by omega)).mono ?_
  rintro e w2 ⟨v2, a2, rfl, h2, hb2⟩
  have hbw := bl_trans hb1 hb2
  obtain ⟨rfl, hh⟩ := reads_same h1 h2
  clear h1 h2
  rcases hh with ⟨rs, A1, c1, A2, c2, rfl, hp, rfl, rfl, hr1, hr2⟩ | ⟨ha, rfl, rfl⟩
  · have HV := Lib.hid (hp.valid HX.out.2.1)
    have hrl : rs.length ≤ 1000 := by have h1 := hp.le.2; have h2 := HX.out.1; omega
    have hr3 := (hr1.below hb2).more hb2.size
    clear hr1 hp hb1 hb2
    go_wp2_with fail
    refine (alive3_any _).mono ?_
    rintro e w3 ⟨rfl, hb3⟩
    have hr4 := (hr3.below hb3).more hb3.size
    have hr5 := (hr2.below hb3).more hb3.size
    have hbw3 := bl_trans hbw hb3
    go_wp2_with fail
    refine (routesEq_same A1 A2 rs.length c1 c2 rs _ _ _ hr4 hr5 (by omega)).mono ?_
    rintro e w4 ⟨rfl, m, rfl⟩
    have hr6 : Routes (w3.drewN m) (w3.drewN m).heap.size A1 rs.length rs := hr4
    have hbw4 := bl_drewN hbw3 m
    go_wp2_with fail
    refine (nvalid_any f add A1 rs.length c1 rs _ hr6 (by omega)).mono ?_
    rw [HV.out]
    rintro e w5 ⟨rfl, hb5⟩
    go_wp2
    go_ret
    exact ⟨rfl, bl_trans hbw4 hb5⟩
  · go_wp2_with fail
    refine (alive3_any _).mono ?_
    rintro e w3 ⟨rfl, hb3⟩
    have hbw3 := bl_trans hbw hb3
    go_wp2_with fail
    refine (routesEq_same none none 0 0 0 [] _ 0 0 ⟨rfl, (by simp), .inl rfl⟩ ⟨rfl, (by simp), .inl rfl⟩ (by omega)).mono ?_
    rintro e w4 ⟨rfl, m, rfl⟩
    have hbw4 := bl_drewN hbw3 m
    go_wp2
    go_ret
    exact ⟨rfl, hbw4⟩
set_option maxRecDepth 100000 in
theorem nreads_all (f : Int) (add : Bool) (A : Option Addr) (n c : Nat) (xs : List Int) (w : World) (hx : Bytes w w.heap.size A n xs) (hc : n ≤ c) (hm : n ≤ maxLen) :
    Calls Try.prog 3 #[.int .i64 f, .bool add, .slice A n c] w fun e w' => e = .returned (.bool true) ∧ Below w.heap.size w w' := by
  by_cases h : 1000 < n
  · exact nreads_early f add A n c w hm h
  · exact nreads_main f add A n c xs w hx hc (by omega)
end Go.Proofs.Yteoegejbaahlpaa
