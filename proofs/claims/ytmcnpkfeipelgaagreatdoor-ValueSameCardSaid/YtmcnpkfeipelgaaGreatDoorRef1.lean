/- peerageref01: All, Cat, Take, Part, Big, Number -/
import Derived.Test.YtmcnpkfeipelgaaGreatDoorEq
import Derived.Test.YtmcnpkfeipelgaaGreatDoorAll
import Derived.Deep.RegionWith
namespace Go.Proofs.YtmcnpkfeipelgaaGreatDoor
open Go.RowKit

set_option maxRecDepth 100000 in
set_option maxHeartbeats 400000 in
theorem rtake_no (A : Option Addr) (n c : Nat) (p k : Int) (w : World) (hk : k < 0 ∨ (n : Int) < k) (hn : n ≤ 1000000000) :
    Calls Tryz.prog 159 #[.agg #[.slice A n c, .int .i64 p], .int .i64 k] w fun e w' => e = .returned (.tuple #[.agg #[.slice A n c, .int .i64 p], .slice none 0 0, .bool false]) ∧ Below w.heap.size w w' := by
  rcases hk with hk | hk
  · go_enter Tryz.func159, Tryz.ntmps159
    go_wp2
    exact bodyPost_ret (v := .tuple #[.agg #[.slice A n c, .int .i64 p], .slice none 0 0, .bool false]) (by simp [results, Tryz.results159, go_sem]) rfl ⟨rfl, bl_alloc (bl_alloc (bl_refl w) _) _⟩
  · have hk0 : ¬ k < 0 := by omega
    go_enter Tryz.func159, Tryz.ntmps159
    go_wp2
    exact bodyPost_ret (v := .tuple #[.agg #[.slice A n c, .int .i64 p], .slice none 0 0, .bool false]) (by simp [results, Tryz.results159, go_sem]) rfl ⟨rfl, bl_alloc (bl_alloc (bl_refl w) _) _⟩

/-- The slice (A1, m) holds what the slice (A, n) holds behind its first k bytes, in every world. -/
def Behind (A : Option Addr) (n k : Nat) (A1 : Option Addr) : Prop := ∀ (W : World) (B : Nat) (xs : List Int), Bytes W B A n xs → Bytes W B A1 (n - k) (xs.drop k)

set_option maxRecDepth 100000 in
set_option maxHeartbeats 400000 in
theorem rtake_yes (A : Option Addr) (n c : Nat) (p k : Int) (w : World) (hc : n ≤ c) (hn : n ≤ 1000000000) (hp0 : 0 ≤ p) (hp : p ≤ 1000000000) (hk0 : 0 ≤ k) (hk : k ≤ (n : Int)) :
    Calls Tryz.prog 159 #[.agg #[.slice A n c, .int .i64 p], .int .i64 k] w fun e w' => ∃ A1 c1, e = .returned (.tuple #[.agg #[.slice A1 (n - k.toNat) c1, .int .i64 (p + k)], .slice A k.toNat c, .bool true]) ∧
      n - k.toNat ≤ c1 ∧ Behind A n k.toNat A1 ∧ Below w.heap.size w w' := by
  have HB : Behind A n k.toNat (if c = k.toNat then A else Option.map (fun x => x.add k.toNat) A) := fun W B xs h => h.cut (by omega) hc
  go_enter Tryz.func159, Tryz.ntmps159
  go_wp2
  go_region
  revert HB
  generalize (if c = k.toNat then A else Option.map (fun x => x.add k.toNat) A) = A'
  intro HB
  go_wp2
  have hb := (bl_alloc (bl_alloc (bl_refl w) (.cells #[.slice A n c, .int .i64 p] 68)) (.cells #[.slice A' (n - k.toNat) (c - k.toNat), .int .i64 (p + k)] 68)).drew
  exact bodyPost_ret (v := .tuple #[.agg #[.slice A' (n - k.toNat) (c - k.toNat), .int .i64 (p + k)], .slice A k.toNat c, .bool true]) (by simp [results, Tryz.results159, go_sem]) rfl ⟨A', c - k.toNat, rfl, by omega, HB, hb⟩

set_option maxRecDepth 100000 in
set_option maxHeartbeats 400000 in
theorem rbig_any (A : Option Addr) (n c : Nat) (xs : List Int) (w : World) (B : Nat) (hx : Bytes w B A n xs) (hn : n ≤ 4) :
    Calls Tryz.prog 123 #[.slice A n c] w fun e w' => e = .returned (.int .u32 (big xs)) ∧ w = w' := by
  have HN := Lib.hid hx.1
  go_enter Tryz.func123, Tryz.ntmps123
  go_wp2
  go_loop [3, 4] (fun s i => ∃ k : Nat, k ≤ n ∧ i = .int .i64 k ∧ s = .int .u32 (big (xs.take k))) (fun _ i => n - (intOf i).toNat)
  case atStart => exact ⟨0, Nat.zero_le _, rfl, rfl⟩
  case round =>
    obtain ⟨k, hk, rfl, rfl⟩ := hrel
    by_cases hlt : k < n
    · obtain ⟨b, o, rfl, hb, hc, h0, h1⟩ := hx.at_ hlt
      have hkx : k < xs.length := HN.out ▸ hlt
      have hbt := big_take_lt (m := n) k hx.2.1 hn hlt
      rw [show (xs.take n) = xs from List.take_of_length_le (by have := HN.out; omega)] at hbt
      have hsn := Lib.hid (big_snoc (xs.take k) (nth xs k))
      have htk := Lib.hid (take_nth hkx)
      go_wp2
      go_round
      case rel => exact ⟨k + 1, by omega, by go_num, by rw [htk.out, hsn.out]⟩
      case measure => simp [intOf]; omega
    · have e : xs.take k = xs := List.take_of_length_le (by have := HN.out; omega)
      have HE := Lib.hid e
      clear e
      go_wp2
      go_ret
      exact ⟨by show Ending.returned (.int .u32 (big (xs.take k))) = _; rw [HE.out], rfl⟩

set_option maxRecDepth 100000 in
set_option maxHeartbeats 400000 in
theorem rnum_bad (A : Option Addr) (n c : Nat) (p k : Int) (w : World) (hk : k < 1 ∨ 4 < k) :
    Calls Tryz.prog 139 #[.agg #[.slice A n c, .int .i64 p], .int .i64 k] w fun e w' => e = .returned (.tuple #[.agg #[.slice A n c, .int .i64 p], .int .u32 0, .bool false]) ∧ Below w.heap.size w w' := by
  rcases hk with hk | hk
  · go_enter Tryz.func139, Tryz.ntmps139
    go_wp2
    exact bodyPost_ret (v := .tuple #[.agg #[.slice A n c, .int .i64 p], .int .u32 0, .bool false]) (by simp [results, Tryz.results139, go_sem]) rfl ⟨rfl, bl_alloc (bl_alloc (bl_refl w) _) _⟩
  · have hk0 : ¬ k < 1 := by omega
    go_enter Tryz.func139, Tryz.ntmps139
    go_wp2
    exact bodyPost_ret (v := .tuple #[.agg #[.slice A n c, .int .i64 p], .int .u32 0, .bool false]) (by simp [results, Tryz.results139, go_sem]) rfl ⟨rfl, bl_alloc (bl_alloc (bl_refl w) _) _⟩

set_option maxRecDepth 100000 in
set_option maxHeartbeats 400000 in
theorem rnum_yes (A : Option Addr) (n c : Nat) (xs : List Int) (p k : Int) (w : World) (hx : Bytes w w.heap.size A n xs) (hc : n ≤ c) (hn : n ≤ 1000000000) (hp0 : 0 ≤ p) (hp : p ≤ 1000000000) (hk1 : 1 ≤ k) (hk4 : k ≤ 4) (hk : k ≤ (n : Int)) :
    Calls Tryz.prog 139 #[.agg #[.slice A n c, .int .i64 p], .int .i64 k] w fun e w' => ∃ A1 c1, e = .returned (.tuple #[.agg #[.slice A1 (n - k.toNat) c1, .int .i64 (p + k)], .int .u32 (big (xs.take k.toNat)), .bool true]) ∧
      n - k.toNat ≤ c1 ∧ Behind A n k.toNat A1 ∧ Below w.heap.size w w' := by
  have hb0 := bl_alloc (bl_alloc (bl_refl w) (.cells #[.slice A n c, .int .i64 p] 68)) (.cells #[.slice none 0 0, .int .i64 0] 68)
  have h2 := hx.front (k := k.toNat) (by omega)
  go_enter Tryz.func139, Tryz.ntmps139
  go_wp2_with fail
  refine (rtake_yes A n c p k _ hc hn hp0 hp (by omega) hk).mono ?_
  rintro e w1 ⟨A1, c1, rfl, hc1, HB, hb1⟩
  have o4 : Own w1 (w.heap.size + 1) 68 #[.slice none 0 0, .int .i64 0] := by
    have h := Own.new (w.alloc (.cells #[.slice A n c, .int .i64 p] 68)) 68 #[.slice none 0 0, .int .i64 0]
    have h' := h.below hb1 h.lt
    simpa using h'
  have q0 := o4.cell (i := 0) rfl
  have q1 := o4.cell (i := 1) rfl
  have f0 := o4.frozen 0
  have f1 := o4.frozen 1
  have hlt : w.heap.size + 1 < w1.heap.size := o4.lt
  have hbw := bl_trans hb0 hb1
  have h2' : Bytes (w1.alloc (.cells #[.slice A1 (n - k.toNat) c1, .int .i64 (p + k)] 68)) w.heap.size A k.toNat (xs.take k.toNat) := h2.below (bl_alloc hbw _)
  clear hb0 hb1
  go_wp2_with fail
  go_region_with (go_at_call 123; refine (rbig_any A k.toNat c (xs.take k.toNat) _ w.heap.size (by exact h2') (by omega)).mono ?_; rintro e w' ⟨rfl, rfl⟩)
  all_goals
    go_wp2
    have oW := (own_two o4 (.slice A1 (n - k.toNat) c1) (.int .i64 (p + k))).1.alloc (.cells #[.slice A1 (n - k.toNat) c1, .int .i64 (p + k)] 68)
    have g0 := oW.cell (i := 0) (v := .slice A1 (n - k.toNat) c1) rfl
    have g1 := oW.cell (i := 1) (v := .int .i64 (p + k)) rfl
    refine bodyPost_ret (v := .tuple #[.agg #[.slice A1 (n - k.toNat) c1, .int .i64 (p + k)], .int .u32 (big (xs.take k.toNat)), .bool true]) (by simp [results, Tryz.results139, go_sem, g0, g1]) rfl ⟨A1, c1, rfl, hc1, HB, ?_⟩
    exact (bl_alloc ((hbw.setCell (p := ⟨w.heap.size + 1, 0, none⟩) (Nat.le_succ _) _).setCell (p := ⟨w.heap.size + 1, 1, none⟩) (Nat.le_succ _) _) _).drew

set_option maxRecDepth 100000 in
set_option maxHeartbeats 400000 in
theorem rnum_no (A : Option Addr) (n c : Nat) (p k : Int) (w : World) (hn : n ≤ 1000000000) (hk1 : 1 ≤ k) (hk4 : k ≤ 4) (hk : (n : Int) < k) :
    Calls Tryz.prog 139 #[.agg #[.slice A n c, .int .i64 p], .int .i64 k] w fun e w' => e = .returned (.tuple #[.agg #[.slice A n c, .int .i64 p], .int .u32 0, .bool false]) ∧ Below w.heap.size w w' := by
  have hb0 := bl_alloc (bl_alloc (bl_refl w) (.cells #[.slice A n c, .int .i64 p] 68)) (.cells #[.slice none 0 0, .int .i64 0] 68)
  go_enter Tryz.func139, Tryz.ntmps139
  go_wp2_with fail
  refine (rtake_no A n c p k _ (.inr hk) hn).mono ?_
  rintro e w1 ⟨rfl, hb1⟩
  have o4 : Own w1 (w.heap.size + 1) 68 #[.slice none 0 0, .int .i64 0] := by
    have h := Own.new (w.alloc (.cells #[.slice A n c, .int .i64 p] 68)) 68 #[.slice none 0 0, .int .i64 0]
    have h' := h.below hb1 h.lt
    simpa using h'
  have q0 := o4.cell (i := 0) rfl
  have q1 := o4.cell (i := 1) rfl
  have f0 := o4.frozen 0
  have f1 := o4.frozen 1
  have hlt : w.heap.size + 1 < w1.heap.size := o4.lt
  have hbw := bl_trans hb0 hb1
  clear hb0 hb1
  have h2' : ∀ W : World, Bytes W w.heap.size none 0 [] := fun W => Bytes.nil _ _ _
  go_wp2_with fail
  go_region_with (go_at_call 123; refine (rbig_any none 0 0 [] _ w.heap.size (h2' _) (by omega)).mono ?_; rintro e w' ⟨rfl, rfl⟩)
  all_goals
    go_wp2
    have oW := (own_two o4 (.slice A n c) (.int .i64 p)).1.alloc (.cells #[.slice A n c, .int .i64 p] 68)
    have g0 := oW.cell (i := 0) (v := .slice A n c) rfl
    have g1 := oW.cell (i := 1) (v := .int .i64 p) rfl
    refine bodyPost_ret (v := .tuple #[.agg #[.slice A n c, .int .i64 p], .int .u32 0, .bool false]) (by simp [results, Tryz.results139, go_sem, big, g0, g1]) rfl ⟨rfl, ?_⟩
    exact (bl_alloc ((hbw.setCell (p := ⟨w.heap.size + 1, 0, none⟩) (Nat.le_succ _) _).setCell (p := ⟨w.heap.size + 1, 1, none⟩) (Nat.le_succ _) _) _).drew
end Go.Proofs.YtmcnpkfeipelgaaGreatDoor
