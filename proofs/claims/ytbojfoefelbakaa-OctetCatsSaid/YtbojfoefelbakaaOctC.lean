/- OctetCats: the walk -/
import Derived.Test.YtbojfoefelbakaaTot
import Derived.Test.YtbojfoefelbakaaAlive
namespace Go.Proofs.Ytbojfoefelbakaa
open Go.RowKit

set_option maxHeartbeats 800000 in
set_option maxRecDepth 100000 in
theorem cats_all (A : Option Addr) (n c : Nat) (ps : List Part) (x : Int) (w : World) (hx : Parts w w.heap.size A n ps) (hm : n ≤ maxLen) (hpm : ∀ p ∈ ps, p.n ≤ maxLen) :
    Calls Try.prog 6 #[.slice A n c, .int .u8 x] w fun e w' => e = .returned (.bool true) ∧ Below w.heap.size w w' := by
  unfold maxLen at hm hpm
  have HN := Lib.hid hx.1
  go_enter Try.func6, Try.ntmps6
  go_wp2
  go_loop [4, 5, 7, 11] (fun _ s _ i => ∃ k : Nat, k ≤ n ∧ i = .int .i64 k ∧ s = .int .i64 (lenTo ps k) ∧ lenTo ps k ≤ 800 ∧ (0 < k → n ≤ 50)) (fun _ _ _ i => n - (intOf i).toNat)
  case atStart => exact ⟨0, Nat.zero_le _, rfl, rfl, by simp [lenTo, flat], by omega⟩
  case round =>
    obtain ⟨k, hk, rfl, rfl, h8, h50⟩ := hrel
    by_cases hlt : k < n
    · have hkl : k < ps.length := HN.out ▸ hlt
      have hs := lenTo_succ hkl hx.2.1
      have hpn := hpm _ (pth_mem hkl)
      have HS := Lib.hid hs
      have HP := Lib.hid hpm
      clear hs hpm
      obtain ⟨b, o, rfl, hb, hc, hB⟩ := hx.at_ hlt
      clear hB
      by_cases hmin : (1000 : Int) < ((pth ps k).n : Int)
      · have h1 : (800 : Int) < (lenTo ps k : Int) + 1000 := by omega
        go_wp2_with fail
        refine (alive_any _).mono ?_
        rintro e w2 ⟨rfl, hb2⟩
        go_wp2
        go_ret
        exact ⟨rfl, hb2⟩
      by_cases hbig : (800 : Int) < (lenTo ps k : Int) + ((pth ps k).n : Int)
      · go_wp2_with fail
        refine (alive_any _).mono ?_
        rintro e w2 ⟨rfl, hb2⟩
        go_wp2
        go_ret
        exact ⟨rfl, hb2⟩
      · skip
        by_cases hmany : (50 : Int) < (n : Int)
        · go_wp2_with fail
          refine (alive_any _).mono ?_
          rintro e w2 ⟨rfl, hb2⟩
          go_wp2
          go_ret
          exact ⟨rfl, hb2⟩
        · go_wp2
          go_round
          case rel => exact ⟨k + 1, by omega, by go_num, by rw [HS.out]; go_num, by have := HS.out; omega, by omega⟩
          case measure => simp [intOf]; omega
    · have e2 : lenTo ps k = (flat ps).length := by rw [show k = ps.length by have := HN.out; omega, lenTo_all]
      have hfl : (flat ps).length ≤ 800 := by omega
      have hn : n ≤ 1000000000 := by omega
      have HP := Lib.hid hpm
      have HE := Lib.hid e2
      clear hpm e2
      go_wp2_with fail
      refine (cat_any _ _ _ _ _ hx hn (by omega)).mono ?_
      rintro e w1 ⟨rfl, hown1, hb1⟩
      have hr : ∀ x ∈ flat ps, 0 ≤ x ∧ x ≤ 255 := by
        intro y hy
        obtain ⟨p, hp, hyp⟩ := List.mem_flatMap.1 hy
        exact (hx.2.1 p hp).2.1 y hyp
      have ho1 := Own.of_full hown1
      have B1 := Bytes.of_owned ho1 hr ho1.lt
      go_wp2_with fail
      refine (alive_any _).mono ?_
      rintro e w2 ⟨rfl, hb2⟩
      have hb02 := bl_trans hb1 hb2
      have px2 : Parts w2 w2.heap.size A n ps := by
        have h := hx.below hb02
        exact ⟨h.1, fun p hp => ⟨(h.2.1 p hp).1, (h.2.1 p hp).2.1, (h.2.1 p hp).2.2.more hb02.size⟩, h.2.2.more hb02.size⟩
      have B2 := (B1.below hb2).more hb2.size
      go_wp2_with fail
      refine (rcat_any _ _ _ _ _ px2 hn (by omega)).mono ?_
      rintro e w3 ⟨v3, rfl, hown3, hb3⟩
      obtain ⟨A3, c3, rfl, hc3, hs3⟩ := own_val hown3
      have B3 : Bytes w3 w3.heap.size A3 (flat ps).length (flat ps) := ⟨rfl, hr, hs3⟩
      have hb03 := bl_trans hb02 hb3
      have B23 := (B2.below hb3).more hb3.size
      go_wp2_with fail
      refine (bytesEq_any _ _ _ _ _ _ _ _ _ _ _ B23 B3 (by omega) (by omega)).mono ?_
      rintro e w' ⟨rfl, m, rfl⟩
      have hdec : decide (flat ps = flat ps) = true := by simp
      have HD := Lib.hid hdec
      clear hdec
      rw [HD.out]
      go_wp2_with fail
      refine (all_any _ _ _ _ (flat ps) _ w3.heap.size (by exact B23) (by omega)).mono ?_
      rintro e w' ⟨rfl, rfl⟩
      have px3 : Parts (w3.drewN m) (w3.drewN m).heap.size A n ps := by
        have h := hx.below hb03
        exact ⟨h.1, fun p hp => ⟨(h.2.1 p hp).1, (h.2.1 p hp).2.1, (h.2.1 p hp).2.2.more hb03.size⟩, h.2.2.more hb03.size⟩
      go_wp2_with fail
      refine (rcat_any _ _ _ _ _ px3 hn (by omega)).mono ?_
      rintro e w4 ⟨v4, rfl, hown4, hb4⟩
      obtain ⟨A4, c4, rfl, hc4, hs4⟩ := own_val hown4
      have B4 : Bytes w4 w4.heap.size A4 (flat ps).length (flat ps) := ⟨rfl, hr, hs4⟩
      go_wp2_with fail
      refine (rall_any _ _ _ _ _ _ _ B4 (by omega)).mono ?_
      rintro e w' ⟨rfl, rfl⟩
      go_wp2
      go_ret
      exact ⟨by simp, bl_trans (bl_drewN hb03 m) hb4⟩
end Go.Proofs.Ytbojfoefelbakaa
