/- segment.Same and its reference -/
import Derived.Test.YtniheakafkakhabDoorSgA
namespace Go.Proofs.YtniheakafkakhabDoor
open Go.RowKit

/-- What Same compares of a segment. -/
def sgK (s : Sg) : Int × List Int := (s.k, s.xs)
theorem sgtake_step {ss ts : List Sg} {k : Nat} (hk : k < ss.length) (hk' : k < ts.length) (h : (ss.map sgK).take k = (ts.map sgK).take k) (e : sgK (sgth ss k) = sgK (sgth ts k)) : (ss.map sgK).take (k + 1) = (ts.map sgK).take (k + 1) := by
  rw [List.take_add_one, List.take_add_one, h, List.getElem?_map, List.getElem?_map, sgth_some hk, sgth_some hk', Option.map_some, Option.map_some, e]
theorem sgne {ss ts : List Sg} {k : Nat} (hk : k < ss.length) (hk' : k < ts.length) (e : sgK (sgth ss k) ≠ sgK (sgth ts k)) : ss.map sgK ≠ ts.map sgK := fun h => e (by
  have h2 := congrArg (fun l => l[k]?) h
  simpa [List.getElem?_map, sgth_some hk, sgth_some hk'] using h2)
set_option maxRecDepth 100000 in
theorem u32eq_any (A A' : Option Addr) (n n' c c' : Nat) (xs ys : List Int) (w : World) (B B' : Nat) (hx : U32s w B A n xs) (hy : U32s w B' A' n' ys) (hn : n ≤ 1000000000) (hn' : n' ≤ 1000000000) :
    Calls Tryd.prog 36 #[.slice A n c, .slice A' n' c'] w fun e w' => e = .returned (.bool (decide (xs = ys))) ∧ ∃ m, w.drewN m = w' := by
  have HN := Lib.hid hx.1
  have HN' := Lib.hid hy.1
  by_cases hne : n = n'
  · subst hne
    go_enter Tryd.func36, Tryd.ntmps36
    go_wp2
    go_loopw [4, 5, 13] (fun _ _ i wr => ∃ (k m : Nat), k ≤ n ∧ i = .int .i64 k ∧ xs.take k = ys.take k ∧ wr = w.drewN m) (fun _ _ i _ => n - (intOf i).toNat)
    case atStart => exact ⟨0, 0, Nat.zero_le _, rfl, by simp, rfl⟩
    case round =>
      obtain ⟨k, m, hk, rfl, heq, rfl⟩ := hrel
      have HEQ := Lib.hid heq
      clear heq
      by_cases hlt : k < n
      · obtain ⟨b, o, rfl, hb, hc⟩ := hx.at_ hlt
        obtain ⟨b', o', rfl, hb', hc'⟩ := hy.at_ hlt
        have hkx : k < xs.length := HN.out ▸ hlt
        have hky : k < ys.length := HN'.out ▸ hlt
        by_cases he : nth xs k = nth ys k
        · have he1 : (nth xs k != nth ys k) = false := by simp [he]
          have HE := Lib.hid he
          clear he
          go_wp2
          go_quiet (fail)
          go_wp2
          go_roundw
          case rel => exact ⟨k + 1, _, by omega, by go_num, take_eq_succ hkx hky HEQ.out HE.out, rfl⟩
          case measure => simp [intOf]; omega
        · have he1 : (nth xs k != nth ys k) = true := by simp [he]
          have HE := Lib.hid he
          clear he
          go_wp2
          go_quiet (fail)
          go_wp2
          go_ret
          exact ⟨by rw [decide_eq_false (ne_of_nth HE.out)]; rfl, m + nq, by simp⟩
      · have e : xs = ys := by
          have h1 := HN.out
          have h2 := HN'.out
          have h3 := HEQ.out
          rw [List.take_of_length_le (by omega), List.take_of_length_le (by omega)] at h3
          exact h3
        have HE := Lib.hid e
        clear e
        go_wp2
        go_ret
        exact ⟨by rw [decide_eq_true HE.out]; rfl, _, rfl⟩
  · have he1 : ((n : Int) != (n' : Int)) = true := by rw [bne_iff_ne]; omega
    have e : xs ≠ ys := by
      rintro rfl
      exact hne (HN.out.trans HN'.out.symm)
    clear hne
    go_enter Tryd.func36, Tryd.ntmps36
    go_wp2
    go_ret
    exact ⟨by rw [decide_eq_false e]; rfl, 0, rfl⟩
theorem sgK_ne {k k' : Int} {A A' : Option Addr} {n n' c c' : Nat} {xs xs' : List Int} (h : ¬ (k = k' ∧ xs = xs')) : sgK ⟨k, A, n, c, xs⟩ ≠ sgK ⟨k', A', n', c', xs'⟩ := fun e => h (Prod.mk.injEq .. ▸ e)
theorem sgK_eq {k k' : Int} {A A' : Option Addr} {n n' c c' : Nat} {xs xs' : List Int} (h : k = k' ∧ xs = xs') : sgK ⟨k, A, n, c, xs⟩ = sgK ⟨k', A', n', c', xs'⟩ := by
  obtain ⟨rfl, rfl⟩ := h
  rfl
set_option maxRecDepth 100000 in
set_option maxHeartbeats 1600000 in
theorem ssame1_any (s t : Sg) (w : World) (h1 : U32s w w.heap.size s.A s.n s.xs) (h2 : U32s w w.heap.size t.A t.n t.xs) (n1 : s.n ≤ 1000000000) (n2 : t.n ≤ 1000000000) :
    Calls Tryd.prog 35 #[.agg #[.int .i64 s.k, .slice s.A s.n s.c], .agg #[.int .i64 t.k, .slice t.A t.n t.c]] w fun e w' => e = .returned (.bool (decide (sgK s = sgK t))) ∧ Below w.heap.size w w' := by
  obtain ⟨sk, sA, sn, sc, sx⟩ := s
  obtain ⟨tk, tA, tn, tc, tx⟩ := t
  dsimp only at *
  have hE := Lib.hid (fun W B B' h h' => u32eq_any sA tA sn tn sc tc sx tx W B B' h h' n1 n2)
  have hb2 := bl_alloc (bl_alloc (bl_refl w) (.cells #[.int .i64 sk, .slice sA sn sc] 31)) (.cells #[.int .i64 tk, .slice tA tn tc] 31)
  have H1 := Lib.hid (h1.below hb2)
  have H2 := Lib.hid (h2.below hb2)
  clear h1 h2
  by_cases hk : sk = tk
  · subst hk
    have hD : Hid (decide (sgK ⟨sk, sA, sn, sc, sx⟩ = sgK ⟨sk, tA, tn, tc, tx⟩) = decide (sx = tx)) := Lib.hid (by
      by_cases hx : sx = tx
      · rw [decide_eq_true hx, decide_eq_true (sgK_eq ⟨rfl, hx⟩)]
      · rw [decide_eq_false hx, decide_eq_false (sgK_ne fun h => hx h.2)])
    generalize decide (sgK ⟨sk, sA, sn, sc, sx⟩ = sgK ⟨sk, tA, tn, tc, tx⟩) = D at *
    generalize decide (sx = tx) = D2 at *
    go_enter Tryd.func35, Tryd.ntmps35
    go_wp2_with fail
    refine (hE.out _ _ _ H1.out H2.out).mono ?_
    rintro e w' ⟨rfl, m, rfl⟩
    go_wp2
    go_ret
    exact ⟨ret_boolA hD.out.symm, bl_drewN hb2 m⟩
  · have hD : Hid (decide (sgK ⟨sk, sA, sn, sc, sx⟩ = sgK ⟨tk, tA, tn, tc, tx⟩) = false) := Lib.hid (decide_eq_false (sgK_ne fun h => hk h.1))
    generalize decide (sgK ⟨sk, sA, sn, sc, sx⟩ = sgK ⟨tk, tA, tn, tc, tx⟩) = D at *
    have he : (sk == tk) = false := by simpa using hk
    clear hk
    go_enter Tryd.func35, Tryd.ntmps35
    go_wp2
    go_ret
    exact ⟨ret_boolA hD.out.symm, hb2⟩
theorem segs_u32 {w : World} {B n : Nat} {A : Option Addr} {ss : List Sg} (h : Segs w B A n ss) {k : Nat} (hk : k < ss.length) : U32s w B (sgth ss k).A (sgth ss k).n (sgth ss k).xs := (h.2.1 _ (sgth_mem hk)).2.2.2.2
set_option maxRecDepth 100000 in
set_option maxHeartbeats 3200000 in
theorem efnS_any (A A' : Option Addr) (n n' c c' : Nat) (ss ts : List Sg) (w : World) (h : Segs w w.heap.size A n ss) (h' : Segs w w.heap.size A' n' ts) (hm : n ≤ 1000) (hm' : n' ≤ 1000) (hs : ∀ s ∈ ss, s.n ≤ 1000) (hs' : ∀ s ∈ ts, s.n ≤ 1000) :
    Calls Tryd.prog 34 #[.slice A n c, .slice A' n' c', .func (.func 35) #[] #[]] w fun e w' => e = .returned (.bool (decide (ss.map sgK = ts.map sgK))) ∧ Below w.heap.size w w' := by
  have HV := Lib.hid h
  have HV' := Lib.hid h'
  have HN := Lib.hid h.1
  have HN' := Lib.hid h'.1
  have HS := Lib.hid hs
  have HS' := Lib.hid hs'
  clear h h' hs hs'
  by_cases hne : n = n'
  · subst hne
    go_enter Tryd.func34, Tryd.ntmps34
    go_wp2_with fail
    go_loopw [17] (fun i wr => (∃ j : Nat, j ≤ n ∧ i = .int .i64 j ∧ Hid ((ss.map sgK).take j = (ts.map sgK).take j)) ∧ Below w.heap.size w wr) (fun i _ => n - (intOf i).toNat)
    case atStart => exact ⟨⟨0, Nat.zero_le _, rfl, Lib.hid rfl⟩, bl_refl w⟩
    case round =>
      obtain ⟨⟨j, hj, rfl, HEQ⟩, hbw⟩ := hrel
      by_cases hlt : j < n
      · obtain ⟨b, o, rfl, hbB, e0, e1⟩ := (HV.out.below hbw).at_ hlt
        obtain ⟨b', o', rfl, hbB', f0, f1⟩ := (HV'.out.below hbw).at_ hlt
        have hj1 := Lib.hid (show j < ss.length by rw [← HN.out]; exact hlt)
        have hj2 := Lib.hid (show j < ts.length by rw [← HN'.out]; exact hlt)
        have hbs := hbw.size
        have hlb' : b' < wr.heap.size := by omega
        have hb1 := bl_alloc (bl_alloc hbw (.cells #[.int .i64 (sgth ss j).k, .slice (sgth ss j).A (sgth ss j).n (sgth ss j).c] 31)) (.cells #[.int .i64 (sgth ts j).k, .slice (sgth ts j).A (sgth ts j).n (sgth ts j).c] 31)
        have hC := Lib.hid (ssame1_any (sgth ss j) (sgth ts j) _ (((segs_u32 HV.out hj1.out).below hb1).more hb1.size) (((segs_u32 HV'.out hj2.out).below hb1).more hb1.size) (by have := HS.out _ (sgth_mem hj1.out); omega) (by have := HS'.out _ (sgth_mem hj2.out); omega))
        have hSt := Lib.hid (sgtake_step hj1.out hj2.out HEQ.out)
        have hNe := Lib.hid (sgne hj1.out hj2.out)
        generalize sgth ss j = s at *
        generalize sgth ts j = t at *
        obtain ⟨sk, sA, sn, sc, sx⟩ := s
        obtain ⟨tk, tA, tn, tc, tx⟩ := t
        dsimp only at *
        go_wp2_with fail
        go_at_call 35
        refine hC.out.mono ?_
        by_cases he : sgK ⟨sk, sA, sn, sc, sx⟩ = sgK ⟨tk, tA, tn, tc, tx⟩
        · have hR := Lib.hid (hSt.out he)
          rw [decide_eq_true he]
          clear he hSt hNe e0 e1 f0 f1
          rintro e w2 ⟨rfl, hb2⟩
          have hb3 := bl_trans hb1 hb2
          go_wp2
          go_roundw
          case rel => exact ⟨⟨j + 1, by omega, by go_num, hR⟩, hb3⟩
          case measure => simp [intOf]; omega
        · have hR := Lib.hid (decide_eq_false (hNe.out he))
          rw [decide_eq_false he]
          clear he hSt hNe e0 e1 f0 f1
          rintro e w2 ⟨rfl, hb2⟩
          have hb3 := bl_trans hb1 hb2
          go_wp2
          go_ret
          exact ⟨ret_boolA hR.out.symm, hb3⟩
      · have HE := Lib.hid (show decide (ss.map sgK = ts.map sgK) = true from decide_eq_true (by
          have h1 := HN.out
          have h2 := HN'.out
          have h3 := HEQ.out
          rw [List.take_of_length_le (by rw [List.length_map]; omega), List.take_of_length_le (by rw [List.length_map]; omega)] at h3
          exact h3))
        go_wp2
        go_ret
        exact ⟨ret_boolA HE.out.symm, hbw⟩
  · have he1 : ((n : Int) != (n' : Int)) = true := by rw [bne_iff_ne]; omega
    have HE := Lib.hid (show decide (ss.map sgK = ts.map sgK) = false from decide_eq_false (fun h => hne (by
      have := congrArg List.length h
      rw [List.length_map, List.length_map] at this
      exact HN.out.trans (this.trans HN'.out.symm))))
    clear hne
    go_enter Tryd.func34, Tryd.ntmps34
    go_wp2
    go_ret
    exact ⟨ret_boolA HE.out.symm, bl_refl w⟩
set_option maxRecDepth 100000 in
theorem ssame_any (A A' : Option Addr) (n n' c c' : Nat) (ss ts : List Sg) (w : World) (h : Segs w w.heap.size A n ss) (h' : Segs w w.heap.size A' n' ts) (hm : n ≤ 1000) (hm' : n' ≤ 1000) (hs : ∀ s ∈ ss, s.n ≤ 1000) (hs' : ∀ s ∈ ts, s.n ≤ 1000) :
    Calls Tryd.prog 24 #[.slice A n c, .slice A' n' c'] w fun e w' => e = .returned (.bool (decide (ss.map sgK = ts.map sgK))) ∧ Below w.heap.size w w' := by
  have hC := Lib.hid (efnS_any A A' n n' c c' ss ts w h h' hm hm' hs hs')
  generalize decide (ss.map sgK = ts.map sgK) = D at *
  clear h h' hs hs'
  go_enter Tryd.func24, Tryd.ntmps24
  go_wp2_with fail
  refine hC.out.mono ?_
  rintro e w' ⟨rfl, hb⟩
  go_wp2
  go_ret
  exact ⟨rfl, hb⟩
end Go.Proofs.YtniheakafkakhabDoor
