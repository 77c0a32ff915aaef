/- open.Same, peerageref17.Same, peeragelaw17.alive -/
import Derived.Test.YtniheakafkakhaaOsM
import Derived.Test.YtniheakafkakhaaCpB
import Derived.Test.YtniheakafkakhaaCpH
import Derived.Test.YtniheakafkakhaaEq
namespace Go.Proofs.Ytniheakafkakhaa
open Go.RowKit Go.Sort
theorem caps_nilO (w : World) (B : Nat) : Caps w B none 0 [] := ⟨rfl, (fun s hs => by cases hs), .inl rfl⟩
set_option maxRecDepth 100000 in
set_option maxHeartbeats 3200000 in
theorem rsame17_any (p q r : Int) (A : Option Addr) (n c : Nat) (p' q' r' : Int) (A' : Option Addr) (n' c' : Nat) (ss ts : List Cp) (w : World) (h : Caps w w.heap.size A n ss) (h' : Caps w w.heap.size A' n' ts) (hn : n ≤ 100000) (hn' : n' ≤ 100000) :
    Calls Try.prog 10 #[.agg #[.int .u32 p, .int .i64 q, .int .u32 r, .slice A n c], .agg #[.int .u32 p', .int .i64 q', .int .u32 r', .slice A' n' c']] w fun e w' => e = .returned (.bool (p == p' && (q == q' && (r == r' && decide (ss.map cpK = ts.map cpK))))) ∧ Below w.heap.size w w' := by
  obtain ⟨X, hX, oA, oB, hbX, hXs⟩ := two_boxesN w #[.int .u32 p, .int .i64 q, .int .u32 r, .slice A n c] #[.int .u32 p', .int .i64 q', .int .u32 r', .slice A' n' c'] 34 34
  clear hXs
  have hS := Lib.hid (rcsame_any A A' n n' c c' ss ts X (h.step hbX) (h'.step hbX) hn hn')
  generalize decide (ss.map cpK = ts.map cpK) = sm at *
  have HK : Hid ((p == p' && (q == q' && (r == r' && sm))) = (p == p' && (q == q' && (r == r' && sm)))) := Lib.hid rfl
  obtain ⟨a0, a1, a2, a3⟩ := own_end oA
  obtain ⟨b0, b1, b2, b3⟩ := own_end oB
  clear h h' hn hn'
  generalize hv : (p == p' && (q == q' && (r == r' && sm))) = v at HK ⊢
  replace hv := Lib.hid hv
  clear HK
  rcases hp : (p == p') with _ | _
  · have HV := Lib.hid (show v = false by rw [← hv.out, hp]; rfl)
    clear hv
    have hp2 : ¬ p = p' := by simpa using hp
    go_enter Try.func10, Try.ntmps10
    go_upto_region 1 with fail
    rw [← hX]
    clear hX
    go_wp2
    go_ret
    exact ⟨by rw [HV.out]; first | done | rfl, hbX⟩
  · rcases hq : (q == q') with _ | _
    · have HV := Lib.hid (show v = false by rw [← hv.out, hp, hq]; rfl)
      clear hv
      go_enter Try.func10, Try.ntmps10
      go_upto_region 1 with fail
      rw [← hX]
      clear hX
      go_wp2
      go_ret
      exact ⟨by rw [HV.out]; first | done | rfl, hbX⟩
    · rcases hr : (r == r') with _ | _
      · have HV := Lib.hid (show v = false by rw [← hv.out, hp, hq, hr]; rfl)
        clear hv
        go_enter Try.func10, Try.ntmps10
        go_upto_region 1 with fail
        rw [← hX]
        clear hX
        go_wp2
        go_ret
        exact ⟨by rw [HV.out]; first | done | rfl, hbX⟩
      · have HV := Lib.hid (show v = sm by rw [← hv.out, hp, hq, hr]; rfl)
        clear hv
        go_enter Try.func10, Try.ntmps10
        go_upto_region 1 with fail
        rw [← hX]
        clear hX
        go_wp2_with fail
        refine hS.out.mono ?_
        rintro e w2 ⟨rfl, hb2⟩
        have hb3 := bl_trans hbX hb2
        go_wp2
        go_ret
        exact ⟨by rw [HV.out]; first | done | rfl, hb3⟩
set_option maxRecDepth 100000 in
set_option maxHeartbeats 3200000 in
theorem osame17_any (p q r : Int) (A : Option Addr) (n c : Nat) (p' q' r' : Int) (A' : Option Addr) (n' c' : Nat) (ss ts : List Cp) (w : World) (h : Caps w w.heap.size A n ss) (h' : Caps w w.heap.size A' n' ts) (hn : n ≤ 1000) (hn' : n' ≤ 1000) :
    Calls Try.prog 13 #[.agg #[.int .u32 p, .int .i64 q, .int .u32 r, .slice A n c], .agg #[.int .u32 p', .int .i64 q', .int .u32 r', .slice A' n' c']] w fun e w' => e = .returned (.bool (p == p' && (q == q' && (r == r' && decide (ss.map cpK = ts.map cpK))))) ∧ Below w.heap.size w w' := by
  obtain ⟨X, hX, oA, oB, hbX, hXs⟩ := two_boxesN w #[.int .u32 p, .int .i64 q, .int .u32 r, .slice A n c] #[.int .u32 p', .int .i64 q', .int .u32 r', .slice A' n' c'] 27 27
  clear hXs
  have hS := Lib.hid (csame_any A A' n n' c c' ss ts X (h.step hbX) (h'.step hbX) hn hn')
  generalize decide (ss.map cpK = ts.map cpK) = sm at *
  have HK : Hid ((p == p' && (q == q' && (r == r' && sm))) = (p == p' && (q == q' && (r == r' && sm)))) := Lib.hid rfl
  obtain ⟨a0, a1, a2, a3⟩ := own_end oA
  obtain ⟨b0, b1, b2, b3⟩ := own_end oB
  clear h h' hn hn'
  generalize hv : (p == p' && (q == q' && (r == r' && sm))) = v at HK ⊢
  replace hv := Lib.hid hv
  clear HK
  rcases hp : (p == p') with _ | _
  · have HV := Lib.hid (show v = false by rw [← hv.out, hp]; rfl)
    clear hv
    have hp2 : ¬ p = p' := by simpa using hp
    go_enter Try.func13, Try.ntmps13
    go_upto_region 1 with fail
    rw [← hX]
    clear hX
    go_wp2
    go_ret
    exact ⟨by rw [HV.out]; first | done | rfl, hbX⟩
  · rcases hq : (q == q') with _ | _
    · have HV := Lib.hid (show v = false by rw [← hv.out, hp, hq]; rfl)
      clear hv
      go_enter Try.func13, Try.ntmps13
      go_upto_region 1 with fail
      rw [← hX]
      clear hX
      go_wp2
      go_ret
      exact ⟨by rw [HV.out]; first | done | rfl, hbX⟩
    · rcases hr : (r == r') with _ | _
      · have HV := Lib.hid (show v = false by rw [← hv.out, hp, hq, hr]; rfl)
        clear hv
        go_enter Try.func13, Try.ntmps13
        go_upto_region 1 with fail
        rw [← hX]
        clear hX
        go_wp2
        go_ret
        exact ⟨by rw [HV.out]; first | done | rfl, hbX⟩
      · have HV := Lib.hid (show v = sm by rw [← hv.out, hp, hq, hr]; rfl)
        clear hv
        go_enter Try.func13, Try.ntmps13
        go_upto_region 1 with fail
        rw [← hX]
        clear hX
        go_wp2_with fail
        refine hS.out.mono ?_
        rintro e w2 ⟨rfl, hb2⟩
        have hb3 := bl_trans hbX hb2
        go_wp2
        go_ret
        exact ⟨by rw [HV.out]; first | done | rfl, hb3⟩
set_option maxRecDepth 100000 in
theorem alive17_any (w : World) : Calls Try.prog 6 #[] w fun e w' => e = .returned (.bool true) ∧ Below w.heap.size w w' := by
  have hB := Lib.hid (obytes_any 1 0 1 none 0 0 [] w (caps_nilO _ _) (by omega) (by intro s hs; cases hs) (by omega) (by omega))
  go_enter Try.func6, Try.ntmps6
  go_wp2_with fail
  refine hB.out.mono ?_
  rintro e w2 ⟨A2, n2, c2, rfl, hx, hb2⟩
  rw [show oOk 1 0 1 [] = true by decide +kernel, if_pos rfl, show oFormK (oNum 1) 0 1 (oPar []) = [4, 0, 1, 0, 0, 0, 0, 0, 1, 0] by decide +kernel] at hx
  obtain rfl : n2 = 10 := hx.1
  have hb3 := bl_alloc hb2 (.cells #[.int .u8 4, .int .u8 0, .int .u8 1, .int .u8 0, .int .u8 0, .int .u8 0, .int .u8 0, .int .u8 0, .int .u8 1, .int .u8 0] 5)
  have hbE := bl_alloc (bl_refl w2) (.cells #[.int .u8 4, .int .u8 0, .int .u8 1, .int .u8 0, .int .u8 0, .int .u8 0, .int .u8 0, .int .u8 0, .int .u8 1, .int .u8 0] 5)
  have oE := Own.new w2 5 #[.int .u8 4, .int .u8 0, .int .u8 1, .int .u8 0, .int .u8 0, .int .u8 0, .int .u8 0, .int .u8 0, .int .u8 1, .int .u8 0]
  have hy := Bytes.of_owned (xs := [4, 0, 1, 0, 0, 0, 0, 0, 1, 0]) oE (by decide) oE.lt
  have hE := Lib.hid (bytesEq_any A2 (some ⟨w2.heap.size, 0, none⟩) 10 10 c2 10 _ _ _ _ _ (hx.stp hbE) hy (by omega) (by omega))
  rw [show oOk 1 0 1 [] = true by decide +kernel]
  clear hB hx hy oE
  go_wp2_with fail
  refine hE.out.mono ?_
  rintro e w3 ⟨rfl, m, rfl⟩
  have hb4 := bl_drewN hb3 m
  go_wp2
  go_ret
  exact ⟨by first | rfl | simp, hb4⟩
end Go.Proofs.Ytniheakafkakhaa
