/- capability.Same and its reference -/
import Derived.Test.YtniheakafkakhaaDoorCpE
import Derived.Test.YtniheakafkakhaaDoorStepG
import Derived.Test.YtniheakafkakhaaDoorBstr
import Derived.Test.YtniheakafkakhaaDoorEq
import Derived.Lib.QuietBelow
import Derived.BigQuiet
namespace Go.Proofs.YtniheakafkakhaaDoor
open Go.RowKit Go.Sort

theorem str_injC {xs ys : List Int} (hx : ∀ x ∈ xs, 0 ≤ x ∧ x ≤ 255) (hy : ∀ x ∈ ys, 0 ≤ x ∧ x ≤ 255) : (strOfNums xs = strOfNums ys) ↔ xs = ys := by
  constructor
  · intro h
    have h2 := congrArg (fun b : ByteArray => b.data.toList) h
    simp only [strOfNums_data] at h2
    clear h
    induction xs generalizing ys with
    | nil => cases ys with
      | nil => rfl
      | cons y ys => simp at h2
    | cons x xs ih => cases ys with
      | nil => simp at h2
      | cons y ys =>
        simp only [List.map_cons, List.cons.injEq] at h2
        have h3 := congrArg UInt8.toNat h2.1
        have a := hx x List.mem_cons_self
        have b := hy y List.mem_cons_self
        simp only [UInt8.toNat_ofNat'] at h3
        rw [ih (fun z hz => hx z (List.mem_cons_of_mem _ hz)) (fun z hz => hy z (List.mem_cons_of_mem _ hz)) h2.2]
        congr 1
        omega
  · intro h; rw [h]
theorem toList_iffC (a b : ByteArray) : a.toList = b.toList ↔ a = b := by
  rw [ByteArray.toList_eq, ByteArray.toList_eq]
  exact ⟨fun h => ByteArray.ext (Array.ext' h), fun h => by rw [h]⟩
set_option maxRecDepth 100000 in
theorem rsame1_anyC (A A2 : Option Addr) (n n2 c c2 : Nat) (xs ys : List Int) (w : World) (B B2 : Nat) (hx : Bytes w B A n xs) (hy : Bytes w B2 A2 n2 ys) :
    Calls Tryd.prog 58 #[.slice A n c, .slice A2 n2 c2] w fun e w' => e = .returned (.bool (decide (xs = ys))) ∧ w = w' := by
  have h1 := bytes_str (c := c) hx
  have h2 := bytes_str (c := c2) hy
  have hi := Lib.hid (str_injC hx.2.1 hy.2.1)
  go_enter Tryd.func58, Tryd.ntmps58
  go_wp2
  go_ret
  refine ⟨ret_boolC ?_, rfl⟩
  rw [Bool.eq_iff_iff]
  simp only [beq_iff_eq, decide_eq_true_eq, toList_iffC, hi.out]
theorem cptake_step {ss ts : List Cp} {k : Nat} (hk : k < ss.length) (hk' : k < ts.length) (h : (ss.map cpK).take k = (ts.map cpK).take k) (e : cpK (cpth ss k) = cpK (cpth ts k)) : (ss.map cpK).take (k + 1) = (ts.map cpK).take (k + 1) := by
  rw [List.take_add_one, List.take_add_one, h, List.getElem?_map, List.getElem?_map, cpth_some hk, cpth_some hk', Option.map_some, Option.map_some, e]
theorem cpne {ss ts : List Cp} {k : Nat} (hk : k < ss.length) (hk' : k < ts.length) (e : cpK (cpth ss k) ≠ cpK (cpth ts k)) : ss.map cpK ≠ ts.map cpK := fun h => e (by
  have h2 := congrArg (fun l => l[k]?) h
  simpa [List.getElem?_map, cpth_some hk, cpth_some hk'] using h2)
theorem cpK_ne {k k' : Int} {A A' : Option Addr} {n n' c c' : Nat} {xs xs' : List Int} (h : ¬ (k = k' ∧ xs = xs')) : cpK ⟨k, A, n, c, xs⟩ ≠ cpK ⟨k', A', n', c', xs'⟩ := fun e => h (Prod.mk.injEq .. ▸ e)
theorem cpK_eq {k k' : Int} {A A' : Option Addr} {n n' c c' : Nat} {xs xs' : List Int} (h : k = k' ∧ xs = xs') : cpK ⟨k, A, n, c, xs⟩ = cpK ⟨k', A', n', c', xs'⟩ := by
  obtain ⟨rfl, rfl⟩ := h
  rfl
set_option maxRecDepth 100000 in
theorem rg_ofC {w : World} {v : Value} {f : FuncId} {args : Array Value} (h : ∀ W, Below w.heap.size w W → Calls Tryd.prog f args W fun e w' => e = .returned v ∧ Below W.heap.size W w') (d : Nat) (os : Array Obj) :
    Calls Tryd.prog f args (grow (redrawn w d) os) fun e w'' => e = .returned v ∧ ∃ p : Regrown, w'' = grow (redrawn w p.d) p.os := Calls.regrown_of (h _ (below_regrown w d os))
set_option maxRecDepth 100000 in
set_option maxHeartbeats 6400000 in
theorem rcsame_any (A A2 : Option Addr) (n n2 c c2 : Nat) (ss ts : List Cp) (w : World) (h : Caps w w.heap.size A n ss) (h2 : Caps w w.heap.size A2 n2 ts) (hn : n ≤ 100000) (hn2 : n2 ≤ 100000) :
    Calls Tryd.prog 12 #[.slice A n c, .slice A2 n2 c2] w fun e w' => e = .returned (.bool (decide (ss.map cpK = ts.map cpK))) ∧ Below w.heap.size w w' := by
  have HN := Lib.hid h.1
  have HN2 := Lib.hid h2.1
  have HE := Lib.hid h
  have HE2 := Lib.hid h2
  clear h h2
  by_cases hne : n = n2
  · subst hne
    have q0 : ((n : Int) != (n : Int)) = false := by simp
    go_enter Tryd.func12, Tryd.ntmps12
    go_wp2_with fail
    go_loopw [5] (fun i wr => (∃ j : Nat, j ≤ n ∧ i = .int .i64 j ∧ Hid ((ss.map cpK).take j = (ts.map cpK).take j)) ∧ Below w.heap.size w wr) (fun i _ => n - (intOf i).toNat)
    case atStart => exact ⟨⟨0, Nat.zero_le _, rfl, Lib.hid rfl⟩, bl_refl _⟩
    case round =>
      obtain ⟨⟨k, hk, rfl, HEQ⟩, hb⟩ := hrel
      by_cases hlt : k < n
      · obtain ⟨b, o, rfl, hbB, d0, d1⟩ := (HE.out.below hb).at_ hlt
        obtain ⟨b', o', rfl, hbB', g0, g1⟩ := (HE2.out.below hb).at_ hlt
        have hj1 := Lib.hid (show k < ss.length by rw [← HN.out]; exact hlt)
        have hj2 := Lib.hid (show k < ts.length by rw [← HN2.out]; exact hlt)
        have hSt := Lib.hid (cptake_step hj1.out hj2.out HEQ.out)
        have hNe := Lib.hid (cpne hj1.out hj2.out)
        have hB1 := (HE.out.ok hlt).1
        have hB2 := (HE2.out.ok hlt).1
        have hbs := hb.size
        generalize cpth ss k = s at *
        generalize cpth ts k = t at *
        obtain ⟨sk, sA, sn, sc, sx⟩ := s
        obtain ⟨tk, tA, tn, tc, tx⟩ := t
        dsimp only at *
        have HC1 := Lib.hid (rg_ofC (w := wr) (fun W hW => (rsame1_anyC sA tA sn tn sc tc sx tx W _ _ ((hB1.below hb).below (hW.mono hbs)) ((hB2.below hb).below (hW.mono hbs))).mono (fun e w' h => ⟨h.1, by rw [← h.2]; exact bl_refl _⟩)))
        have d0r := cell_regrown d0
        have d1r := cell_regrown d1
        have g0r := cell_regrown g0
        have g1r := cell_regrown g1
        have hbw : b < wr.heap.size := by omega
        have hbw' : b' < wr.heap.size := by omega
        clear hB1 hB2
        by_cases hk0 : sk = tk
        · subst hk0
          have q1 : (sk != sk) = false := by simp
          by_cases hx : sx = tx
          · have hR := Lib.hid (hSt.out (cpK_eq ⟨rfl, hx⟩))
            rw [decide_eq_true hx] at HC1
            clear hx hSt hNe
            go_wp2_with fail
            refine wp_region_quiet_below (by kernel_rfl) (by kernel_rfl) ?_
            repeat (first | go_big_quiet_skip | go_big_quiet_step (with_reducible exact HC1.out _ _))
            refine wpQuiet_nil ?_
            rintro w' ⟨⟨dq, osq⟩, rfl⟩
            have hb3 := bl_trans hb (below_regrown wr dq osq)
            generalize grow (redrawn wr dq) osq = w3 at *
            clear HC1 hb d0 d1 g0 g1 d0r d1r g0r g1r
            go_wp2
            go_roundw
            case rel => exact ⟨⟨k + 1, by omega, by go_num, hR⟩, hb3⟩
            case measure => simp [intOf]; omega
          · have hR := Lib.hid (decide_eq_false (hNe.out (cpK_ne fun h => hx h.2)))
            rw [decide_eq_false hx] at HC1
            clear hx hSt hNe
            go_wp2_with fail
            refine wp_region_quiet_below (by kernel_rfl) (by kernel_rfl) ?_
            repeat (first | go_big_quiet_skip | go_big_quiet_step (with_reducible exact HC1.out _ _))
            refine wpQuiet_nil ?_
            rintro w' ⟨⟨dq, osq⟩, rfl⟩
            have hb3 := bl_trans hb (below_regrown wr dq osq)
            generalize grow (redrawn wr dq) osq = w3 at *
            clear HC1 hb d0 d1 g0 g1 d0r d1r g0r g1r
            go_wp2
            go_ret
            exact ⟨ret_boolC hR.out.symm, hb3⟩
        · have hR := Lib.hid (decide_eq_false (hNe.out (cpK_ne fun h => hk0 h.1)))
          have q1 : (sk != tk) = true := by simpa using hk0
          clear hk0 hSt hNe
          go_wp2_with fail
          refine wp_region_quiet_below (by kernel_rfl) (by kernel_rfl) ?_
          repeat (first | go_big_quiet_skip | go_big_quiet_step (with_reducible exact HC1.out _ _))
          refine wpQuiet_nil ?_
          rintro w' ⟨⟨dq, osq⟩, rfl⟩
          have hb3 := bl_trans hb (below_regrown wr dq osq)
          generalize grow (redrawn wr dq) osq = w3 at *
          clear HC1 hb d0 d1 g0 g1 d0r d1r g0r g1r
          go_wp2
          go_ret
          exact ⟨ret_boolC hR.out.symm, hb3⟩
      · have HF := Lib.hid (show decide (ss.map cpK = ts.map cpK) = true from decide_eq_true (by
          have h1 := HN.out
          have h2 := HN2.out
          have h3 := HEQ.out
          rw [List.take_of_length_le (by rw [List.length_map]; omega), List.take_of_length_le (by rw [List.length_map]; omega)] at h3
          exact h3))
        go_wp2
        go_ret
        exact ⟨ret_boolC HF.out.symm, hb⟩
  · have he1 : ((n : Int) != (n2 : Int)) = true := by rw [bne_iff_ne]; omega
    have HF := Lib.hid (show decide (ss.map cpK = ts.map cpK) = false from decide_eq_false (fun h => hne (by
      have := congrArg List.length h
      rw [List.length_map, List.length_map] at this
      exact HN.out.trans (this.trans HN2.out.symm))))
    clear hne
    go_enter Tryd.func12, Tryd.ntmps12
    go_wp2
    go_ret
    exact ⟨ret_boolC HF.out.symm, bl_refl w⟩
end Go.Proofs.YtniheakafkakhaaDoor
