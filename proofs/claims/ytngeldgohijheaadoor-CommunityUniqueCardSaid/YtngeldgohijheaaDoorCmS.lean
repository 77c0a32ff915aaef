/- peerageref09.same, Same at equal attributes -/
import Derived.Test.YtngeldgohijheaaDoorCmB
import Derived.Test.YtngeldgohijheaaDoorCmL
import Derived.Deep.QuietTactic
namespace Go.Proofs.YtngeldgohijheaaDoor
open Go.RowKit

theorem take_eq_succC {xs ys : List Int} {k : Nat} (hx : k < xs.length) (hy : k < ys.length) (h : xs.take k = ys.take k) (e : nth xs k = nth ys k) : xs.take (k + 1) = ys.take (k + 1) := by
  rw [take_nth hx, take_nth hy, h, e]
set_option maxRecDepth 100000 in
set_option maxHeartbeats 1600000 in
theorem rsame_u32 (A A' : Option Addr) (n n' c c' : Nat) (xs ys : List Int) (w : World) (B B' : Nat) (hx : U32s w B A n xs) (hy : U32s w B' A' n' ys) (hn : n ≤ 1000000000) (hn' : n' ≤ 1000000000) :
    Calls Tryd.prog 42 #[.slice A n c, .slice A' n' c'] w fun e w' => e = .returned (.bool (decide (xs = ys))) ∧ ∃ m, w.drewN m = w' := by
  have HN := Lib.hid hx.1
  have HN' := Lib.hid hy.1
  by_cases hne : n = n'
  · subst hne
    go_enter Tryd.func42, Tryd.ntmps42
    go_wp2
    go_loopw [5] (fun i wr => ∃ (k m : Nat), k ≤ n ∧ i = .int .i64 k ∧ xs.take k = ys.take k ∧ wr = w.drewN m) (fun i _ => n - (intOf i).toNat)
    case atStart => exact ⟨0, 0, Nat.zero_le _, rfl, by simp, rfl⟩
    case round =>
      obtain ⟨k, m, hk, rfl, heq, rfl⟩ := hrel
      have HEQ := Lib.hid heq
      clear heq
      by_cases hlt : k < n
      · obtain ⟨b, o, rfl, hb, hc⟩ := hx.at_ hlt
        obtain ⟨b', o', rfl, hb', hc'⟩ := hy.at_ hlt
        have hkx : k < xs.length := HN.out ▸ hlt
        have hky : k < ys.length := HN'.out ▸ hlt
        by_cases he : nth xs k = nth ys k
        · have he1 : (nth xs k != nth ys k) = false := by simp [he]
          have HE := Lib.hid he
          clear he
          go_wp2
          go_quiet (fail)
          go_wp2
          go_roundw
          case rel => exact ⟨k + 1, _, by omega, by go_num, take_eq_succC hkx hky HEQ.out HE.out, rfl⟩
          case measure => simp [intOf]; omega
        · have he1 : (nth xs k != nth ys k) = true := by simp [he]
          have HE := Lib.hid he
          clear he
          go_wp2
          go_quiet (fail)
          go_wp2
          go_ret
          exact ⟨by rw [decide_eq_false (fun e => HE.out (by rw [e]))]; rfl, m + nq, by simp⟩
      · have e : xs = ys := by
          have h1 := HN.out
          have h2 := HN'.out
          have h3 := HEQ.out
          rw [List.take_of_length_le (by omega), List.take_of_length_le (by omega)] at h3
          exact h3
        have HE := Lib.hid e
        clear e
        go_wp2
        go_ret
        exact ⟨by rw [decide_eq_true HE.out]; rfl, _, rfl⟩
  · have he1 : ((n : Int) != (n' : Int)) = true := by rw [bne_iff_ne]; omega
    have HE := Lib.hid (show xs ≠ ys from fun e => hne (by rw [hx.1, hy.1, e]))
    clear hne
    go_enter Tryd.func42, Tryd.ntmps42
    go_wp2
    go_ret
    exact ⟨by rw [decide_eq_false HE.out]; rfl, 0, rfl⟩
theorem cmNo_bare {a : At} (h : cmB a = true) : bareB (cmNo a) = true := by
  have := cmNo_pl a
  rw [h] at this
  unfold plB at this
  simp only [Bool.and_eq_true] at this
  exact this.2
set_option maxRecDepth 100000 in
set_option maxHeartbeats 3200000 in
theorem rsame09_yes (a b : At) (xs : List Int) (w : World) (hk : a.k = b.k) (hp : a.p = b.p) (ha : cmB a = true) (hb : cmB b = true) (hxa : U32s w w.heap.size a.A2 a.n2 xs) (hxb : U32s w w.heap.size b.A2 b.n2 xs) (hn : xs.length ≤ 1000000) :
    Calls Tryd.prog 13 #[.agg (atc a), .agg (atc b)] w fun e w' => e = .returned (.bool true) ∧ Below w.heap.size w w' := by
  have hB1 := Lib.hid (fun W => rbare_any (cmNo a) W)
  have hB2 := Lib.hid (fun W => rbare_any (cmNo b) W)
  rw [cmNo_bare ha] at hB1
  rw [cmNo_bare hb] at hB2
  have z1 := of_decide_eq_true ha
  have z2 := of_decide_eq_true hb
  have HX := Lib.hid hxa
  have HY := Lib.hid hxb
  have hl1 := hxa.1
  have hl2 := hxb.1
  clear ha hb hxa hxb
  unfold cmNo atc at hB1 hB2
  unfold atc
  obtain ⟨k, p, N, M, A1, n1, c1, A2, n2, c2, A3, n3, c3, f, A4, n4, c4⟩ := a
  obtain ⟨k', p', N', M', A1', n1', c1', A2', n2', c2', A3', n3', c3', f', A4', n4', c4'⟩ := b
  dsimp only at *
  obtain ⟨rfl, rfl, rfl, rfl, rfl, rfl⟩ := z1
  obtain ⟨rfl, rfl, rfl, rfl, rfl, rfl⟩ := z2
  subst hk hp
  have y1 : n2 ≤ 1000000 := by omega
  have y2 : n2' ≤ 1000000 := by omega
  clear hl1 hl2
  have h1 : (k == k) = true := by simp
  have h4 : (p == p) = true := by simp
  go_enter Tryd.func13, Tryd.ntmps13
  go_wp2_with fail
  have oX := (Own.new ((w.alloc (.cells #[.int .i64 k, .bool p, .int .u32 0, .int .u32 0, .slice A1 0 c1, .slice A2 n2 c2, .slice A3 0 c3, .int .i64 0, .slice A4 0 c4] 29)).alloc (.cells #[.int .i64 k, .bool p, .int .u32 0, .int .u32 0, .slice A1' 0 c1', .slice A2' n2' c2', .slice A3' 0 c3', .int .i64 0, .slice A4' 0 c4'] 29)) 29 #[.int .i64 k, .bool p, .int .u32 0, .int .u32 0, .slice A1 0 c1, .slice none 0 0, .slice A3 0 c3, .int .i64 0, .slice A4 0 c4]).alloc (.cells #[.int .i64 k, .bool p, .int .u32 0, .int .u32 0, .slice A1' 0 c1', .slice none 0 0, .slice A3' 0 c3', .int .i64 0, .slice A4' 0 c4'] 29)
  have oY := Own.new (((w.alloc (.cells #[.int .i64 k, .bool p, .int .u32 0, .int .u32 0, .slice A1 0 c1, .slice A2 n2 c2, .slice A3 0 c3, .int .i64 0, .slice A4 0 c4] 29)).alloc (.cells #[.int .i64 k, .bool p, .int .u32 0, .int .u32 0, .slice A1' 0 c1', .slice A2' n2' c2', .slice A3' 0 c3', .int .i64 0, .slice A4' 0 c4'] 29)).alloc (.cells #[.int .i64 k, .bool p, .int .u32 0, .int .u32 0, .slice A1 0 c1, .slice none 0 0, .slice A3 0 c3, .int .i64 0, .slice A4 0 c4] 29)) 29 #[.int .i64 k, .bool p, .int .u32 0, .int .u32 0, .slice A1' 0 c1', .slice none 0 0, .slice A3' 0 c3', .int .i64 0, .slice A4' 0 c4']
  have hbZ : Below w.heap.size w ((((w.alloc (.cells #[.int .i64 k, .bool p, .int .u32 0, .int .u32 0, .slice A1 0 c1, .slice A2 n2 c2, .slice A3 0 c3, .int .i64 0, .slice A4 0 c4] 29)).alloc (.cells #[.int .i64 k, .bool p, .int .u32 0, .int .u32 0, .slice A1' 0 c1', .slice A2' n2' c2', .slice A3' 0 c3', .int .i64 0, .slice A4' 0 c4'] 29)).alloc (.cells #[.int .i64 k, .bool p, .int .u32 0, .int .u32 0, .slice A1 0 c1, .slice none 0 0, .slice A3 0 c3, .int .i64 0, .slice A4 0 c4] 29)).alloc (.cells #[.int .i64 k, .bool p, .int .u32 0, .int .u32 0, .slice A1' 0 c1', .slice none 0 0, .slice A3' 0 c3', .int .i64 0, .slice A4' 0 c4'] 29)) := bl_alloc (bl_alloc (bl_alloc (bl_alloc (bl_refl w) _) _) _) _
  simp only [World.size_alloc] at oX oY
  generalize (((w.alloc (.cells #[.int .i64 k, .bool p, .int .u32 0, .int .u32 0, .slice A1 0 c1, .slice A2 n2 c2, .slice A3 0 c3, .int .i64 0, .slice A4 0 c4] 29)).alloc (.cells #[.int .i64 k, .bool p, .int .u32 0, .int .u32 0, .slice A1' 0 c1', .slice A2' n2' c2', .slice A3' 0 c3', .int .i64 0, .slice A4' 0 c4'] 29)).alloc (.cells #[.int .i64 k, .bool p, .int .u32 0, .int .u32 0, .slice A1 0 c1, .slice none 0 0, .slice A3 0 c3, .int .i64 0, .slice A4 0 c4] 29)).alloc (.cells #[.int .i64 k, .bool p, .int .u32 0, .int .u32 0, .slice A1' 0 c1', .slice none 0 0, .slice A3' 0 c3', .int .i64 0, .slice A4' 0 c4'] 29) = X at *
  refine (rsame_u32 _ _ _ _ _ _ xs xs _ w.heap.size w.heap.size (HX.out.below hbZ) (HY.out.below hbZ) (by omega) (by omega)).mono ?_
  rw [decide_eq_true (rfl : xs = xs)]
  rintro e w1 ⟨rfl, m, rfl⟩
  obtain ⟨e0, e1, e2, e3, e4, e5, e6, e7, e8⟩ := at_cells (oX.drewN m)
  have hb5 := bl_drewN hbZ m
  have oY5 := oY.drewN m
  generalize X.drewN m = X5 at *
  go_wp2_with fail
  refine (hB1.out _).mono ?_
  rintro e w2 ⟨rfl, hb6⟩
  obtain ⟨f0, f1, f2, f3, f4, f5, f6, f7, f8⟩ := at_cells (oY5.step hb6)
  go_wp2_with fail
  refine (hB2.out _).mono ?_
  rintro e w3 ⟨rfl, hb7⟩
  go_wp2
  go_ret
  exact ⟨rfl, bl_trans (bl_trans hb5 hb6) hb7⟩
end Go.Proofs.YtngeldgohijheaaDoor
