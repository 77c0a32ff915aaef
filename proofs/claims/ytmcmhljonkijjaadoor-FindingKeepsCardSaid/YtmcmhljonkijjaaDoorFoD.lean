/- finding.Fold -/
import Derived.Test.YtmcmhljonkijjaaDoorFoC
namespace Go.Proofs.YtmcmhljonkijjaaDoor
open Go.RowKit Go.Sort

set_option maxRecDepth 100000 in
set_option maxHeartbeats 1600000 in
theorem foldc_any (v u : Vd) (g : Nat) (w : World) (h : Own w g 40 (vdc u)) :
    Calls Tryd.prog 75 #[.agg (vdc v), .pointer (some ⟨g, 0, none⟩)] w fun e w' => e = .returned (.tuple #[]) ∧ Own w' g 40 (vdc (if vWorse v u then v else u)) ∧ w.grownBy w' (some g) := by
  have hW := Lib.hid (fun W => fworse_any v u W)
  generalize hq : vWorse v u = q at *
  clear hq
  obtain ⟨k, c, s, A, n, cp, xs, t⟩ := v
  obtain ⟨k', c', s', A', n', cp', xs', t'⟩ := u
  unfold vdc at *
  dsimp only at *
  have hb0 := bl_alloc (bl_refl w) (.cells #[.int .i64 k, .int .i64 c, .int .i64 s, .slice A n cp, .int .i64 t] 40)
  have o1 := Own.new w 40 #[.int .i64 k, .int .i64 c, .int .i64 s, .slice A n cp, .int .i64 t]
  have o2 := h.alloc (.cells #[.int .i64 k, .int .i64 c, .int .i64 s, .slice A n cp, .int .i64 t] 40)
  have hlt := h.lt
  have hne : g ≠ w.heap.size := by omega
  obtain ⟨e0, e1, e2, e3, e4⟩ := vd_row o2
  go_enter Tryd.func75, Tryd.ntmps75
  go_wp2_with fail
  refine (hW.out _).mono ?_
  rintro e w1 ⟨rfl, hb1⟩
  have q1 := o1.step hb1
  have q2 := o2.step hb1
  have hb2 := bl_trans hb0 hb1
  obtain ⟨f0, f1, f2, f3, f4⟩ := vd_row q1
  clear e0 e1 e2 e3 e4 o1 o2 hb0 hb1
  cases q
  · go_wp2
    go_end0
    exact ⟨rfl, q2, only_of_below hb2 _⟩
  · go_wp2_with (refine wpList_store_row rfl 40 _ _ rfl g #[.int .i64 k, .int .i64 c, .int .i64 s, .slice A n cp, .int .i64 t] rfl rfl 40 #[.int .i64 k', .int .i64 c', .int .i64 s', .slice A' n' cp', .int .i64 t'] q2 (vdc_info _ _ _ _ _ _ _) rfl (vdc_one _ _ _ _ _ _ _) ?_)
    go_end0
    refine ⟨rfl, q2.setRow, ?_⟩
    have hgr : w1.grownBy (w1.setRow g #[.int .i64 k, .int .i64 c, .int .i64 s, .slice A n cp, .int .i64 t]) (some g) := ⟨rfl, rfl, rfl, by simp, fun k _ hk => setRow_other w1 g k _ (fun e => hk (by rw [e]))⟩
    exact only_trans (only_of_below hb2 _) hgr
def wst (vs : List Vd) (j : Nat) : Vd := (vs.take j).foldl (fun u v => if vWorse v u then v else u) (nthV vs 0)
theorem wst_step {vs : List Vd} {j : Nat} (h : j < vs.length) : wst vs (j + 1) = if vWorse (nthV vs j) (wst vs j) then nthV vs j else wst vs j := by
  unfold wst
  rw [take_nthV h, List.foldl_append]
  rfl
theorem wst_at {vs : List Vd} : ∀ {j : Nat}, 1 ≤ j → j ≤ vs.length → ∃ i, i < j ∧ wst vs j = nthV vs i ∧ (∀ m, m < j → vWorse (nthV vs m) (wst vs j) = false) ∧ ∀ m, m < i → vWorse (wst vs j) (nthV vs m) = true := by
  intro j
  induction j with
  | zero => intro h; omega
  | succ j ih =>
    intro _ hl
    rcases Nat.eq_zero_or_pos j with rfl | hj
    · refine ⟨0, by omega, ?_, fun m hm => ?_, fun m hm => by omega⟩
      · rw [wst_step (by omega)]; unfold wst; split <;> rfl
      · obtain rfl : m = 0 := by omega
        have : wst vs (0 + 1) = nthV vs 0 := by rw [wst_step (by omega)]; unfold wst; split <;> rfl
        rw [this]
        simp [vWorse]
    · obtain ⟨i, hi, h1, h2, h3⟩ := ih hj (by omega)
      rw [wst_step (by omega)]
      cases hq : vWorse (nthV vs j) (wst vs j) with
      | false =>
        refine ⟨i, by omega, by simpa using h1, fun m hm => ?_, fun m hm => by simpa using h3 m hm⟩
        rcases (by omega : m < j ∨ m = j) with h | h
        · simpa using h2 m h
        · subst h; simpa using hq
      | true =>
        have hlt : ∀ m, m < j → vWorse (nthV vs j) (nthV vs m) = true := fun m hm => by
          have a := h2 m hm
          simp only [vWorse, decide_eq_true_eq, decide_eq_false_iff_not] at *
          omega
        refine ⟨j, by omega, by simp, fun m hm => ?_, fun m hm => by simpa using hlt m hm⟩
        rcases (by omega : m < j ∨ m = j) with h | h
        · have a := hlt m h
          simp only [vWorse, decide_eq_true_eq, decide_eq_false_iff_not, if_true] at *
          omega
        · subst h; simp [vWorse]
theorem wst_fold {vs : List Vd} (h : vs ≠ []) : wst vs vs.length = foldV vs := by
  have hp : 1 ≤ vs.length := by have := List.length_pos_iff.2 h; omega
  obtain ⟨i, hi, h1, h2, h3⟩ := wst_at hp (Nat.le_refl _)
  rw [h1]
  rw [h1] at h2 h3
  refine (foldV_at hi (fun v hv => ?_) ?_).symm
  · obtain ⟨m, hm⟩ := List.getElem?_of_mem hv
    have hmi : m < i := by have := (List.getElem?_eq_some_iff.1 hm).1; rw [List.length_take] at this; omega
    rw [List.getElem?_take, if_pos hmi, nthV_some (by omega)] at hm
    obtain rfl := Option.some.inj hm
    unfold bestV
    rw [List.all_eq_false]
    exact ⟨nthV vs i, nthV_mem hi, by simp [h3 m hmi]⟩
  · unfold bestV
    rw [List.all_eq_true]
    intro u hu
    obtain ⟨m, hm⟩ := List.getElem?_of_mem hu
    have hml : m < vs.length := (List.getElem?_eq_some_iff.1 hm).1
    rw [nthV_some hml] at hm
    obtain rfl := Option.some.inj hm
    simp [h2 m hml]
theorem wst_mem {vs : List Vd} {j : Nat} (h : 0 < vs.length) (hj : j ≤ vs.length) : wst vs j ∈ vs := by
  rcases Nat.eq_zero_or_pos j with rfl | h1
  · unfold wst; simpa using nthV_mem h
  · obtain ⟨i, hi, e, _⟩ := wst_at h1 hj
    rw [e]
    exact nthV_mem (by omega)
set_option maxRecDepth 100000 in
set_option maxHeartbeats 3200000 in
theorem ffold_any (A : Option Addr) (n c : Nat) (vs : List Vd) (w : World) (h : Vds w w.heap.size A n vs) (hm : n ≤ maxLen) (hn : ∀ v ∈ vs, v.n ≤ 1000000) :
    Calls Tryd.prog 49 #[.slice A n c] w fun e w' => ∃ v' : Vd, e = .returned (.agg (vdc v')) ∧ v'.Ok w' w'.heap.size ∧ vSame (foldV vs) v' = true ∧ v'.n = (foldV vs).n ∧ (∀ a, v'.A = some a → w.heap.size < a.block) ∧ Below w.heap.size w w' := by
  unfold maxLen at hm
  have HN := Lib.hid h.1
  have HV := Lib.hid h
  have HC := Lib.hid hn
  clear h hn
  have o0 := Own.new w 40 #[.int .i64 0, .int .i64 0, .int .i64 0, .slice none 0 0, .int .i64 0]
  have hb0 := bl_alloc (bl_refl w) (.cells #[.int .i64 0, .int .i64 0, .int .i64 0, .slice none 0 0, .int .i64 0] 40)
  by_cases hz : n = 0
  · have hnil : vs = [] := List.length_eq_zero_iff.1 (by rw [← HN.out]; exact hz)
    subst hnil
    subst hz
    clear HV HC
    go_enter Tryd.func49, Tryd.ntmps49
    go_wp2_with (refine wpList_store_row rfl 40 _ _ rfl w.heap.size #[.int .i64 0, .int .i64 0, .int .i64 0, .slice none 0 0, .int .i64 0] rfl rfl 40 #[.int .i64 0, .int .i64 0, .int .i64 0, .slice none 0 0, .int .i64 0] o0 (vdc_info _ _ _ _ _ _ _) rfl (vdc_one _ _ _ _ _ _ _) ?_)
    exact bodyPost_ret (results_cell1 (p := 2) (fn := Tryd.f49) rfl _ _ w.heap.size 40 #[.int .i64 0, .int .i64 0, .int .i64 0, .slice none 0 0, .int .i64 0] _ rfl o0.setRow vdc_desc rfl (vdc_info _ _ _ _ _ _ _)) rfl ⟨vd0, rfl, ⟨Bytes.nil _ _ _, by decide, by decide⟩, rfl, rfl, (fun a ha => by cases ha), bl_setRow hb0 (Nat.le_refl _)⟩
  · have hpos : 0 < n := by omega
    have dn : ((n : Int) == 0) = false := by simp; omega
    have i0 : (0 : Int) < (n : Int) := by omega
    have HP := Lib.hid (show 0 < vs.length by have := HN.out; omega)
    have hst := Lib.hid (fun j (hj : j < vs.length) => wst_step (vs := vs) hj)
    have hend := Lib.hid (wst_fold (vs := vs) (fun e => by have := HP.out; rw [e] at this; simp at this))
    have hmm := Lib.hid (fun j (hj : j ≤ vs.length) => wst_mem (vs := vs) HP.out hj)
    have h00 : Hid (wst vs 0 = nthV vs 0) := Lib.hid rfl
    obtain ⟨b, o, rfl, hbB, _, hrg⟩ := (HV.out.below hb0).at_ hpos
    rw [Nat.zero_mul, Nat.add_zero] at hrg
    generalize hv0 : nthV vs 0 = v0 at *
    clear hv0
    generalize wst vs = W at *
    have hW0 : Own ((w.alloc (.cells #[.int .i64 0, .int .i64 0, .int .i64 0, .slice none 0 0, .int .i64 0] 40)).alloc (.cells (vdc v0) 40)) (w.heap.size + 1) 40 (vdc (W 0)) := by
      rw [h00.out]
      have := Own.new (w.alloc (.cells #[.int .i64 0, .int .i64 0, .int .i64 0, .slice none 0 0, .int .i64 0] 40)) 40 (vdc v0)
      rw [show (w.alloc (.cells #[.int .i64 0, .int .i64 0, .int .i64 0, .slice none 0 0, .int .i64 0] 40)).heap.size = w.heap.size + 1 by simp] at this
      exact this
    have o1 := o0.alloc (.cells (vdc v0) 40)
    have hb1 := bl_alloc hb0 (.cells (vdc v0) 40)
    clear h00 o0
    obtain ⟨k0, c0, s0, A0, n0, cp0, xs0, t0⟩ := v0
    unfold vdc at o1 hb1 hW0 hrg
    dsimp only at o1 hb1 hW0 hrg
    obtain ⟨e0, e1, e2, e3, e4⟩ := range5 (v := ⟨k0, c0, s0, A0, n0, cp0, xs0, t0⟩) hrg
    dsimp only at e0 e1 e2 e3 e4
    clear hrg hb0
    go_enter Tryd.func49, Tryd.ntmps49
    go_wp2_with fail
    generalize (w.alloc (.cells #[.int .i64 0, .int .i64 0, .int .i64 0, .slice none 0 0, .int .i64 0] 40)).alloc (.cells #[.int .i64 k0, .int .i64 c0, .int .i64 s0, .slice A0 n0 cp0, .int .i64 t0] 40) = X at *
    go_loopw [17] (fun i wr => (∃ j : Nat, j ≤ n ∧ i = .int .i64 j ∧ Own wr (w.heap.size + 1) 40 (vdc (W j))) ∧ Own wr w.heap.size 40 #[.int .i64 0, .int .i64 0, .int .i64 0, .slice none 0 0, .int .i64 0] ∧ Below w.heap.size w wr) (fun i _ => n - (intOf i).toNat)
    case atStart => exact ⟨⟨0, Nat.zero_le _, rfl, hW0⟩, o1, hb1⟩
    case round =>
      obtain ⟨⟨j, hj, rfl, hown⟩, hor, hbw⟩ := hrel
      clear hW0 o1 hb1 e0 e1 e2 e3 e4
      by_cases hlt : j < n
      · obtain ⟨b', o', hA', hbB', _, hrg⟩ := (HV.out.below hbw).at_ hlt
        obtain ⟨rfl, rfl⟩ : b = b' ∧ o = o' := by cases hA'; exact ⟨rfl, rfl⟩
        have hsj := Lib.hid (hst.out j (by have := HN.out; omega))
        generalize nthV vs j = v at *
        have hFc := Lib.hid (fun X g (h : Own X g 40 (vdc (W j))) => foldc_any v (W j) g X h)
        rw [← hsj.out] at hFc
        obtain ⟨k', c', s', A', n', cp', xs', t'⟩ := v
        unfold vdc at hFc hrg
        dsimp only at hFc hrg
        obtain ⟨d0, d1, d2, d3, d4⟩ := range5 (v := ⟨k', c', s', A', n', cp', xs', t'⟩) hrg
        dsimp only at d0 d1 d2 d3 d4
        have hbs := hbw.size
        have hl := hor.lt
        have hown1 := hown.alloc (.cells #[.int .i64 k', .int .i64 c', .int .i64 s', .slice A' n' cp', .int .i64 t'] 40)
        have hor1 := hor.alloc (.cells #[.int .i64 k', .int .i64 c', .int .i64 s', .slice A' n' cp', .int .i64 t'] 40)
        have hb2 := bl_alloc hbw (.cells #[.int .i64 k', .int .i64 c', .int .i64 s', .slice A' n' cp', .int .i64 t'] 40)
        have hne : w.heap.size ≠ w.heap.size + 1 := by omega
        clear hown hor hbw hrg hA' hsj
        go_wp2_with fail
        go_at_call 75
        refine (hFc.out _ _ hown1).mono ?_
        rintro e w2 ⟨rfl, hown2, hgr⟩
        have hor2 := hor1.grown hgr (by simp)
        have hb3 := bl_only hb2 hgr (by omega)
        clear hown1 hor1 hb2 hgr d0 d1 d2 d3 d4
        go_wp2
        go_roundw
        case rel => exact ⟨⟨j + 1, by omega, by go_num, hown2⟩, hor2, hb3⟩
        case measure => simp [intOf]; omega
      · obtain rfl : j = n := by omega
        have hmem := hmm.out j (by have := HN.out; omega)
        have hok := Lib.hid (((HV.out.2.1 _ hmem).below hbw).more hbw.size)
        have hsz := Lib.hid (HC.out _ hmem)
        have hE := Lib.hid (show W j = foldV vs by rw [← hend.out, HN.out])
        clear hmem
        have hCl := Lib.hid (fclone_any (W j) wr hok.out hsz.out)
        rw [hE.out] at hCl
        rw [hE.out] at hown
        clear hok hsz hE
        generalize hfv : foldV vs = F at *
        have HF := Lib.hid hfv
        clear hfv
        obtain ⟨k', c', s', A', n', cp', xs', t'⟩ := F
        unfold vdc at hCl hown
        dsimp only at hCl hown
        obtain ⟨d0, d1, d2, d3, d4⟩ := vd_row hown
        go_wp2_with fail
        refine hCl.out.mono ?_
        rintro e w2 ⟨v', rfl, hok2, hs2, hn2, hbk2, hb3⟩
        have hor2 := hor.step hb3
        have hlo := hor.lt
        have HK := Lib.hid (And.intro hok2 (And.intro hs2 hn2))
        have HG := Lib.hid (show ∀ a, v'.A = some a → w.heap.size < a.block from fun a ha => by have := hbk2 a ha; omega)
        clear hok2 hs2 hn2 hbk2 d0 d1 d2 d3 d4 hor hown
        obtain ⟨k2, c2, s2, A2, n2, cp2, xs2, t2⟩ := v'
        dsimp only at HK HG
        go_wp2_with (refine wpList_store_row rfl 40 _ _ rfl w.heap.size #[.int .i64 k2, .int .i64 c2, .int .i64 s2, .slice A2 n2 cp2, .int .i64 t2] rfl rfl 40 #[.int .i64 0, .int .i64 0, .int .i64 0, .slice none 0 0, .int .i64 0] hor2 (vdc_info _ _ _ _ _ _ _) rfl (vdc_one _ _ _ _ _ _ _) ?_)
        refine bodyPost_ret (results_cell1 (p := 2) (fn := Tryd.f49) rfl _ _ w.heap.size 40 #[.int .i64 k2, .int .i64 c2, .int .i64 s2, .slice A2 n2 cp2, .int .i64 t2] _ rfl hor2.setRow vdc_desc rfl (vdc_info _ _ _ _ _ _ _)) rfl ⟨⟨k2, c2, s2, A2, n2, cp2, xs2, t2⟩, rfl, ?_, (by rw [HF.out]; exact HK.out.2.1), (by rw [HF.out]; exact HK.out.2.2), HG.out, bl_setRow (bl_trans hbw hb3) (Nat.le_refl _)⟩
        refine ⟨(HK.out.1.1.keepB (fun a ha => setRow_other _ _ _ _ (by have := HG.out a ha; omega))).more (by simp), HK.out.1.2⟩
end Go.Proofs.YtmcmhljonkijjaaDoor
