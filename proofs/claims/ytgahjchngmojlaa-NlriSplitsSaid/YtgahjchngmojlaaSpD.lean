/- peerageref03.Same at equal lists; slices.EqualFunc at lists of lists (written by gen/spd.py) -/
import Derived.Test.YtgahjchngmojlaaSpC
import Derived.Test.YtgahjchngmojlaaReq
namespace Go.Proofs.Ytgahjchngmojlaa
open Go.RowKit

set_option maxHeartbeats 3200000 in
set_option maxRecDepth 100000 in
theorem rsame3_same (A A' : Option Addr) (n c c' : Nat) (rs : List Rt) (w : World) (B B' : Nat) (hx : Routes w B A n rs) (hy : Routes w B' A' n rs) (hn : n ≤ 1000000000) :
    Calls Try.prog 14 #[.slice A n c, .slice A' n c'] w fun e w' => e = .returned (.bool true) ∧ Below w.heap.size w w' := by
  have HN := Lib.hid hx.1
  have q0 : ((n : Int) != (n : Int)) = false := by simp
  go_enter Try.func14, Try.ntmps14
  go_wp2
  go_loopw [5] (fun i wr => ∃ (k m : Nat), k ≤ n ∧ i = .int .i64 k ∧ wr = w.drewN m) (fun i _ => n - (intOf i).toNat)
  case atStart => exact ⟨0, 0, Nat.zero_le _, rfl, rfl⟩
  case round =>
    obtain ⟨k, m, hk, rfl, rfl⟩ := hrel
    by_cases hlt : k < n
    · obtain ⟨b, o, rfl, hb, hok, hr⟩ := hx.at_ hlt
      obtain ⟨b', o', rfl, hb', _, hr'⟩ := hy.at_ hlt
      have hneq := neq_rt hok
      have hi19 := Lib.hid (rt_infol hok.1.1)
      go_wp2_with fail
      refine wp_region_held_drew (S := (fun W => W.rangeAt b (o + k * 19) (rt (nthR rs k)).toList ∧ W.rangeAt b' (o' + k * 19) (rt (nthR rs k)).toList)) (by kernel_rfl) ⟨hr, hr'⟩ (fun hHeld => ?_)
      refine wpAnyH_take (i := 0) (v := ?_) rfl (by kernel_rfl) (by kernel_rfl) (by kernel_rfl) (fun _ _ _ h => h) (Or.inl ⟨by rfl, ?_⟩) (by assumption) ?_
      rotate_left
      · (intro W hSw; obtain ⟨s0, s1⟩ := hSw; go_simp; try with_reducible rfl)
      simp only [Act.put, List.getElem_toArray, List.getElem_cons_zero, List.setIfInBounds_toArray, List.set_cons_zero, List.set_cons_succ]
      refine wpAnyH_take (i := 1) (v := ?_) rfl (by kernel_rfl) (by kernel_rfl) (by kernel_rfl) (fun _ _ _ h => h) (Or.inl ⟨by rfl, ?_⟩) (by assumption) ?_
      rotate_left
      · (intro W hSw; obtain ⟨s0, s1⟩ := hSw; go_simp; try with_reducible rfl)
      simp only [Act.put, List.getElem_toArray, List.getElem_cons_zero, List.getElem_cons_succ, List.setIfInBounds_toArray, List.set_cons_zero, List.set_cons_succ]
      refine wpAnyH_take (i := 2) (v := ?_) rfl (by kernel_rfl) (by kernel_rfl) (by kernel_rfl) (fun _ _ _ h => h) (Or.inl ⟨by rfl, ?_⟩) (by assumption) ?_
      rotate_left
      · (intro W hSw; obtain ⟨s0, s1⟩ := hSw; go_simp; try with_reducible rfl)
      simp only [Act.put, List.getElem_toArray, List.getElem_cons_zero, List.getElem_cons_succ, List.setIfInBounds_toArray, List.set_cons_zero, List.set_cons_succ]
      refine wpAnyH_take (i := 3) (v := _) rfl (by kernel_rfl) (by kernel_rfl) (by kernel_rfl) (fun _ _ _ h => h) (yieldsIf_load_mid (by rfl) 31 _ rfl b (o + k * 19) rfl (rt (nthR rs k)).toList _ (fun W hW => hW.1) rt_desc rfl hi19.out) (by assumption) ?_
      simp only [Act.put, List.getElem_toArray, List.getElem_cons_zero, List.getElem_cons_succ, List.setIfInBounds_toArray, List.set_cons_zero, List.set_cons_succ]
      refine wpAnyH_take (i := 4) (v := ?_) rfl (by kernel_rfl) (by kernel_rfl) (by kernel_rfl) (fun _ _ _ h => h) (Or.inl ⟨by rfl, ?_⟩) (by assumption) ?_
      rotate_left
      · (intro W hSw; obtain ⟨s0, s1⟩ := hSw; go_simp; try with_reducible rfl)
      simp only [Act.put, List.getElem_toArray, List.getElem_cons_zero, List.getElem_cons_succ, List.setIfInBounds_toArray, List.set_cons_zero, List.set_cons_succ]
      refine wpAnyH_take (i := 5) (v := ?_) rfl (by kernel_rfl) (by kernel_rfl) (by kernel_rfl) (fun _ _ _ h => h) (Or.inl ⟨by rfl, ?_⟩) (by assumption) ?_
      rotate_left
      · (intro W hSw; obtain ⟨s0, s1⟩ := hSw; go_simp; try with_reducible rfl)
      simp only [Act.put, List.getElem_toArray, List.getElem_cons_zero, List.getElem_cons_succ, List.setIfInBounds_toArray, List.set_cons_zero, List.set_cons_succ]
      refine wpAnyH_take (i := 6) (v := ?_) rfl (by kernel_rfl) (by kernel_rfl) (by kernel_rfl) (fun _ _ _ h => h) (Or.inl ⟨by rfl, ?_⟩) (by assumption) ?_
      rotate_left
      · (intro W hSw; obtain ⟨s0, s1⟩ := hSw; go_simp; try with_reducible rfl)
      simp only [Act.put, List.getElem_toArray, List.getElem_cons_zero, List.getElem_cons_succ, List.setIfInBounds_toArray, List.set_cons_zero, List.set_cons_succ]
      refine wpAnyH_take (i := 7) (v := _) rfl (by kernel_rfl) (by kernel_rfl) (by kernel_rfl) (fun _ _ _ h => h) (yieldsIf_load_mid (by rfl) 31 _ rfl b' (o' + k * 19) rfl (rt (nthR rs k)).toList _ (fun W hW => hW.2) rt_desc rfl hi19.out) (by assumption) ?_
      simp only [Act.put, List.getElem_toArray, List.getElem_cons_zero, List.getElem_cons_succ, List.setIfInBounds_toArray, List.set_cons_zero, List.set_cons_succ]
      refine wpAnyH_take (i := 8) (v := ?_) rfl (by kernel_rfl) (by kernel_rfl) (by kernel_rfl) (fun _ _ _ h => h) (Or.inl ⟨by rfl, ?_⟩) (by assumption) ?_
      rotate_left
      · (intro W hSw; obtain ⟨s0, s1⟩ := hSw; go_simp; try with_reducible rfl)
      simp only [Act.put, List.getElem_toArray, List.getElem_cons_zero, List.getElem_cons_succ, List.setIfInBounds_toArray, List.set_cons_zero, List.set_cons_succ]
      refine wpAnyH_done (by kernel_rfl) ?_ _
      go_wp2
      go_roundw
      case rel => exact ⟨k + 1, m + 1, by omega, by go_num, rfl⟩
      case measure => simp [intOf]; omega
    · go_wp2
      go_ret
      exact ⟨rfl, bl_drewN (bl_refl w) m⟩
theorem RParts.more {w : World} {B B' : Nat} {A : Option Addr} {n : Nat} {ps : List RPart} (h : RParts w B A n ps) (hB : B ≤ B') : RParts w B' A n ps := ⟨h.1, fun p hp => (h.2.1 p hp).more hB, h.2.2.more hB⟩
theorem RParts.step {w w' : World} {A : Option Addr} {n : Nat} {ps : List RPart} (h : RParts w w.heap.size A n ps) (hb : Below w.heap.size w w') : RParts w' w'.heap.size A n ps := (h.below hb).more hb.size
theorem rpth_map {ps qs : List RPart} (h : ps.map RPart.xs = qs.map RPart.xs) {k : Nat} (hk : k < ps.length) (hk' : k < qs.length) : (rpth qs k).xs = (rpth ps k).xs := by
  have e := congrArg (fun l => l[k]?) h
  simp only [List.getElem?_map, rpth_some hk, rpth_some hk', Option.map_some] at e
  exact (Option.some.inj e).symm
set_option maxRecDepth 100000 in
set_option maxHeartbeats 3200000 in
theorem efnL_same (A A' : Option Addr) (n n' c c' : Nat) (ps qs : List RPart) (w : World) (h : RParts w w.heap.size A n ps) (h' : RParts w w.heap.size A' n' qs) (he : ps.map RPart.xs = qs.map RPart.xs) (hm : n ≤ 1000) (hs : ∀ p ∈ ps, p.n ≤ 1000) :
    Calls Try.prog 13 #[.slice A n c, .slice A' n' c', .func (.func 14) #[] #[]] w fun e w' => e = .returned (.bool true) ∧ Below w.heap.size w w' := by
  have hll := congrArg List.length he
  rw [List.length_map, List.length_map] at hll
  obtain rfl : n' = n := by rw [h.1, h'.1, hll]
  have HN := Lib.hid h.1
  have HN' := Lib.hid h'.1
  have HV := Lib.hid h
  have HV' := Lib.hid h'
  have HE := Lib.hid he
  have HS := Lib.hid hs
  clear h h' hll he hs
  have q0 : ((n' : Int) != (n' : Int)) = false := by simp
  go_enter Try.func13, Try.ntmps13
  go_wp2_with fail
  go_loopw [7, 8, 9, 17] (fun _ _ _ i wr => (∃ j : Nat, j ≤ n' ∧ i = .int .i64 j) ∧ Below w.heap.size w wr) (fun _ _ _ i _ => n' - (intOf i).toNat)
  case atStart => exact ⟨⟨0, Nat.zero_le _, rfl⟩, bl_refl w⟩
  case round =>
    obtain ⟨⟨j, hj, rfl⟩, hbw⟩ := hrel
    by_cases hlt : j < n'
    · obtain ⟨b, o, rfl, hbB, e0, hR1⟩ := (HV.out.below hbw).at_ hlt
      obtain ⟨b', o', rfl, hbB', f0, hR2⟩ := (HV'.out.below hbw).at_ hlt
      have hj1 : j < ps.length := by rw [← HN.out]; exact hlt
      have hj2 : j < qs.length := by rw [← HN'.out]; exact hlt
      have hsz := HS.out _ (rpth_mem hj1)
      rw [rpth_map HE.out hj1 hj2] at hR2
      have hnn : (rpth qs j).n = (rpth ps j).n := by rw [hR1.1, hR2.1]
      rw [hnn] at hR2 f0
      have hbs := hbw.size
      have HC := Lib.hid (rsame3_same (rpth ps j).a (rpth qs j).a (rpth ps j).n (rpth ps j).c (rpth qs j).c (rpth ps j).xs wr _ _ hR1 hR2 (by omega))
      clear hR1 hR2 hnn hj1 hj2
      generalize rpth ps j = p at *
      generalize rpth qs j = q at *
      obtain ⟨pa, pn, pc, px⟩ := p
      obtain ⟨qa, qn, qc, qx⟩ := q
      dsimp only at *
      go_wp2_with fail
      go_at_call 14
      refine HC.out.mono ?_
      rintro e w2 ⟨rfl, hb2⟩
      have hb3 := bl_trans hbw hb2
      clear e0 f0 HC hbw hb2
      go_wp2
      go_roundw
      case rel => exact ⟨⟨j + 1, by omega, by go_num⟩, hb3⟩
      case measure => simp [intOf]; omega
    · go_wp2
      go_ret
      exact ⟨rfl, hbw⟩
end Go.Proofs.Ytgahjchngmojlaa
