/- peerageref06.Same -/
import Derived.Test.YtecbbjdcnlocdaaDoorSgB
namespace Go.Proofs.YtecbbjdcnlocdaaDoor
open Go.RowKit

set_option maxRecDepth 100000 in
set_option maxHeartbeats 3200000 in
theorem rsameS_any (A A' : Option Addr) (n n' c c' : Nat) (ss ts : List Sg) (w : World) (B B' : Nat) (h : Segs w B A n ss) (h' : Segs w B' A' n' ts) (hm : n ≤ 1000) (hm' : n' ≤ 1000) (hs : ∀ s ∈ ss, s.n ≤ 1000) (hs' : ∀ s ∈ ts, s.n ≤ 1000) :
    Calls Tryd.prog 19 #[.slice A n c, .slice A' n' c'] w fun e w' => e = .returned (.bool (decide (ss.map sgK = ts.map sgK))) ∧ ∃ m, w.drewN m = w' := by
  have HV := Lib.hid h
  have HV' := Lib.hid h'
  have HN := Lib.hid h.1
  have HN' := Lib.hid h'.1
  have HS := Lib.hid hs
  have HS' := Lib.hid hs'
  clear h h' hs hs'
  by_cases hne : n = n'
  · subst hne
    go_enter Tryd.func19, Tryd.ntmps19
    go_wp2_with fail
    go_loopw [5] (fun i wr => ∃ (j m : Nat), j ≤ n ∧ i = .int .i64 j ∧ Hid ((ss.map sgK).take j = (ts.map sgK).take j) ∧ wr = w.drewN m) (fun i _ => n - (intOf i).toNat)
    case atStart => exact ⟨0, 0, Nat.zero_le _, rfl, Lib.hid rfl, rfl⟩
    case round =>
      obtain ⟨j, m, hj, rfl, HEQ, rfl⟩ := hrel
      by_cases hlt : j < n
      · obtain ⟨b, o, rfl, hbB, e0, e1⟩ := HV.out.at_ hlt
        obtain ⟨b', o', rfl, hbB', f0, f1⟩ := HV'.out.at_ hlt
        have hj1 := Lib.hid (show j < ss.length by rw [← HN.out]; exact hlt)
        have hj2 := Lib.hid (show j < ts.length by rw [← HN'.out]; exact hlt)
        have hSt := Lib.hid (sgtake_step hj1.out hj2.out HEQ.out)
        have hNe := Lib.hid (sgne hj1.out hj2.out)
        have hn1 := HS.out _ (sgth_mem hj1.out)
        have hn2 := HS'.out _ (sgth_mem hj2.out)
        have hU := segs_u32 HV.out hj1.out
        have hU' := segs_u32 HV'.out hj2.out
        generalize sgth ss j = s at *
        generalize sgth ts j = t at *
        obtain ⟨sk, sA, sn, sc, sx⟩ := s
        obtain ⟨tk, tA, tn, tc, tx⟩ := t
        dsimp only at *
        have HU := Lib.hid hU.1
        have HU' := Lib.hid hU'.1
        have hUx := Lib.hid hU
        have hUy := Lib.hid hU'
        clear hU hU'
        by_cases hk : sk = tk
        · subst hk
          by_cases hl : sn = tn
          · subst hl
            go_wp2
            go_quiet (fail)
            go_wp2
            go_loopw [6] (fun i wr => ∃ (q m2 : Nat), q ≤ sn ∧ i = .int .i64 q ∧ Hid (sx.take q = tx.take q) ∧ wr = w.drewN m2) (fun i _ => sn - (intOf i).toNat)
            case atStart => exact ⟨0, m + nq, Nat.zero_le _, rfl, Lib.hid rfl, by simp⟩
            case round =>
              obtain ⟨q, m2, hq, rfl, HQ, rfl⟩ := hrel
              by_cases hlq : q < sn
              · obtain ⟨b2, o2, rfl, _, hc2⟩ := hUx.out.at_ hlq
                obtain ⟨b3, o3, rfl, _, hc3⟩ := hUy.out.at_ hlq
                have hq1 := Lib.hid (show q < sx.length by rw [← HU.out]; exact hlq)
                have hq2 := Lib.hid (show q < tx.length by rw [← HU'.out]; exact hlq)
                by_cases he : nth sx q = nth tx q
                · have he1 : (nth sx q != nth tx q) = false := by simp [he]
                  have HE := Lib.hid he
                  clear he
                  go_wp2
                  go_quiet (fail)
                  go_wp2
                  go_roundw
                  case rel => exact ⟨q + 1, _, by omega, by go_num, Lib.hid (take_eq_succ hq1.out hq2.out HQ.out HE.out), rfl⟩
                  case measure => simp [intOf]; omega
                · have he1 : (nth sx q != nth tx q) = true := by simp [he]
                  have HE := Lib.hid (decide_eq_false (hNe.out (sgK_ne fun h => ne_of_nth he h.2)))
                  clear he
                  go_wp2
                  go_quiet (fail)
                  go_wp2
                  go_ret
                  exact ⟨ret_boolA HE.out.symm, m2 + nq, by simp⟩
              · have e : sx = tx := by
                  have h1 := HU.out
                  have h2 := HU'.out
                  have h3 := HQ.out
                  rw [List.take_of_length_le (by omega), List.take_of_length_le (by omega)] at h3
                  exact h3
                have hR := Lib.hid (hSt.out (sgK_eq ⟨rfl, e⟩))
                clear e
                go_wp2
                go_roundw
                case rel => exact ⟨j + 1, _, by omega, by go_num, hR, rfl⟩
                case measure => simp [intOf]; omega
          · have he1 : ((sn : Int) != (tn : Int)) = true := by rw [bne_iff_ne]; omega
            have HE := Lib.hid (decide_eq_false (hNe.out (sgK_ne fun h => hl (by rw [HU.out, HU'.out, h.2]))))
            clear hl
            go_wp2
            go_quiet (fail)
            go_wp2
            go_ret
            exact ⟨ret_boolA HE.out.symm, m + nq, by simp⟩
        · have he1 : (sk != tk) = true := by simp [hk]
          have HE := Lib.hid (decide_eq_false (hNe.out (sgK_ne fun h => hk h.1)))
          clear hk
          go_wp2
          go_quiet (fail)
          go_wp2
          go_ret
          exact ⟨ret_boolA HE.out.symm, m + nq, by simp⟩
      · have HE := Lib.hid (show decide (ss.map sgK = ts.map sgK) = true from decide_eq_true (by
          have h1 := HN.out
          have h2 := HN'.out
          have h3 := HEQ.out
          rw [List.take_of_length_le (by rw [List.length_map]; omega), List.take_of_length_le (by rw [List.length_map]; omega)] at h3
          exact h3))
        go_wp2
        go_ret
        exact ⟨ret_boolA HE.out.symm, _, rfl⟩
  · have he1 : ((n : Int) != (n' : Int)) = true := by rw [bne_iff_ne]; omega
    have HE := Lib.hid (show decide (ss.map sgK = ts.map sgK) = false from decide_eq_false (fun h => hne (by
      have := congrArg List.length h
      rw [List.length_map, List.length_map] at this
      exact HN.out.trans (this.trans HN'.out.symm))))
    clear hne
    go_enter Tryd.func19, Tryd.ntmps19
    go_wp2
    go_ret
    exact ⟨ret_boolA HE.out.symm, 0, rfl⟩
end Go.Proofs.YtecbbjdcnlocdaaDoor
