/- peerageref16.Family, Mode -/
import Derived.Test.YtniheakafkakhaaDoorCqF
namespace Go.Proofs.YtniheakafkakhaaDoor
open Go.RowKit Go.Sort

theorem quads_any_at {code : Int} {ss : List Cp} {j : Nat} {p : Q4 → Bool} (h : j < ss.length) (hp : (quadsK code (cpK (cpth ss j))).any p = true) : (quads code (ss.map cpK)).any p = true := by
  have e : ss.map cpK = (ss.take (j + 1)).map cpK ++ (ss.drop (j + 1)).map cpK := by rw [← List.map_append, List.take_append_drop]
  have e2 : quads code (ss.map cpK) = quads code ((ss.take (j + 1)).map cpK) ++ quads code ((ss.drop (j + 1)).map cpK) := by rw [e]; unfold quads; rw [List.flatMap_append]
  rw [e2, quads_take h, List.any_append, List.any_append, hp]
  simp
theorem big_pair (a b : Int) : big [a, b] = a * 256 + b := by simp [big]
theorem four_of {xs : List Int} (h : xs.length = 4) : ∃ a b c d, xs = [a, b, c, d] := by
  match xs, h with
  | [a, b, c, d], _ => exact ⟨a, b, c, d, rfl⟩
theorem famP {k : Int} {xs : List Int} (hr : ∀ x ∈ xs, 0 ≤ x ∧ x ≤ 255) (f : Int) : (quadsK 1 (k, xs)).any (fun q => decide (famF q = f)) = (decide (k = 1) && (decide (xs.length = 4) && decide (famOf (big (xs.take 2)) (nth xs 3) = f))) := by
  by_cases h1 : k = 1
  · by_cases h2 : xs.length = 4
    · rw [quadsK_yes ⟨h1, by rw [h2], fun _ => h2⟩, decide_eq_true h1, decide_eq_true h2]
      obtain ⟨a, b, c, d, rfl⟩ := four_of h2
      have ha := by8_eq (hr a (by simp))
      have hb := by8_eq (hr b (by simp))
      have hd := by8_eq (hr d (by simp))
      have e : q4s [a, b, c, d] (([a, b, c, d] : List Int).length / 4) = [q4 [a, b, c, d] 0] := by rw [h2]; rfl
      show (q4s [a, b, c, d] (([a, b, c, d] : List Int).length / 4)).any _ = _
      rw [e]
      have e2 : famF (q4 [a, b, c, d] 0) = famOf (a * 256 + b) d := by
        show famOf (by8 (nth [a, b, c, d] 0) * 256 + by8 (nth [a, b, c, d] 1)) (by8 (nth [a, b, c, d] 3)) = _
        rw [show nth [a, b, c, d] 0 = a from rfl, show nth [a, b, c, d] 1 = b from rfl, show nth [a, b, c, d] 3 = d from rfl, ha, hb, hd]
      rw [List.any_cons, List.any_nil, e2, show ([a, b, c, d] : List Int).take 2 = [a, b] from rfl, big_pair, show nth [a, b, c, d] 3 = d from rfl]
      simp
    · rw [quadsK_no (fun h => h2 (h.2.2 rfl)), decide_eq_false h2]
      simp
  · rw [quadsK_no (fun h => h1 h.1), decide_eq_false h1]
    simp
theorem bytes_mid {w : World} {B n b o : Nat} {xs : List Int} (h : Bytes w B (some ⟨b, o, none⟩) n xs) {p g : Nat} (hp : p + g ≤ n) : Bytes w B (some ⟨b, o + p, none⟩) g ((xs.drop p).take g) := by
  refine ⟨by have := h.1; simp; omega, fun x hx => h.2.1 x (List.mem_of_mem_drop (List.mem_of_mem_take hx)), ?_⟩
  rcases h.2.2 with h0 | ⟨b', o', e, hb, hc⟩
  · left
    rw [List.map_eq_nil_iff] at h0 ⊢
    subst h0
    simp
  · right
    have hpart := bytes_part (p := p) (g := g) h
    cases e
    exact ⟨b, o + p, rfl, hb, fun i v hv => by
      have := hpart i v hv
      rwa [Addr.add_lit] at this⟩
theorem famM_at {xs : List Int} {k : Nat} (hk : k * 4 + 4 ≤ xs.length) (hr : ∀ x ∈ xs, 0 ≤ x ∧ x ≤ 255) : famM (q4 xs k) = famOf (big ((xs.drop (k * 4)).take 2)) (nth xs (k * 4 + 2)) ∧ (q4 xs k).d = nth xs (k * 4 + 3) := by
  have h0 := by8_eq (hr _ (nth_mem (k := k * 4) (by omega)))
  have h1 := by8_eq (hr _ (nth_mem (k := k * 4 + 1) (by omega)))
  have h2 := by8_eq (hr _ (nth_mem (k := k * 4 + 2) (by omega)))
  have h3 := by8_eq (hr _ (nth_mem (k := k * 4 + 3) (by omega)))
  refine ⟨?_, h3⟩
  rw [drop_nth (by omega), drop_nth (by omega)]
  show famOf (by8 _ * 256 + by8 _) (by8 _) = famOf (big [_, _]) _
  rw [h0, h1, h2, big_pair]
theorem big_two2 {a b : Int} (ha : 0 ≤ a ∧ a ≤ 255) (hb : 0 ≤ b ∧ b ≤ 255) : 0 ≤ big [a, b] ∧ big [a, b] < 4294967296 := by rw [big_pair]; omega
theorem big_lt4 {xs : List Int} (hl : xs.length = 2) (hr : ∀ x ∈ xs, 0 ≤ x ∧ x ≤ 255) : 0 ≤ big xs ∧ big xs < 4294967296 := by
  match xs, hl with
  | [a, b], _ => exact big_two2 (hr a (by simp)) (hr b (by simp))
set_option maxRecDepth 100000 in
set_option maxHeartbeats 6400000 in
theorem rcfam_any (f : Int) (hf0 : f ≠ 0) (A : Option Addr) (n c : Nat) (ss : List Cp) (w : World) (h : Caps w w.heap.size A n ss) (hn : n ≤ 100000) :
    Calls Tryd.prog 92 #[.int .i64 f, .slice A n c] w fun e w' => e = .returned (.bool (famK f (ss.map cpK))) ∧ Below w.heap.size w w' := by
  have HN := Lib.hid h.1
  have HV := Lib.hid h
  have HK : Hid (famK f (ss.map cpK) = (quads 1 (ss.map cpK)).any (fun q => decide (famF q = f))) := Lib.hid (by unfold famK; rw [decide_eq_true hf0, Bool.true_and])
  have qf : (f != 0) = true := by simpa using hf0
  clear h hf0
  go_enter Tryd.func92, Tryd.ntmps92
  go_wp2_with fail
  go_loopw [5] (fun i wr => (∃ j : Nat, j ≤ n ∧ i = .int .i64 j ∧ Hid ((quads 1 ((ss.take j).map cpK)).any (fun q => decide (famF q = f)) = false)) ∧ Below w.heap.size w wr) (fun i _ => n - (intOf i).toNat)
  case atStart => exact ⟨⟨0, Nat.zero_le _, rfl, Lib.hid (by simp [quads])⟩, bl_refl _⟩
  case round =>
    obtain ⟨⟨j, hj, rfl, hno⟩, hb⟩ := hrel
    by_cases hlt : j < n
    · have HVb := HV.out.below hb
      obtain ⟨b, o, rfl, hbB, d0, d1⟩ := HVb.at_ hlt
      have hj' := Lib.hid (show j < ss.length by rw [← HN.out]; exact hlt)
      have hAt := Lib.hid (fun h => quads_any_at (code := 1) (p := fun q => decide (famF q = f)) hj'.out h)
      have hTk := Lib.hid (quads_take (code := 1) hj'.out)
      have hok := HVb.ok hlt
      have hbs := hb.size
      have hno2 := hno
      generalize cpth ss j = s at *
      obtain ⟨sk, sA, sn, sc, sx⟩ := s
      rw [show cpK (⟨sk, sA, sn, sc, sx⟩ : Cp) = (sk, sx) from rfl] at hAt hTk
      dsimp only at d0 d1
      have hB : Bytes wr w.heap.size sA sn sx := hok.1
      have hxn : sn = sx.length := hok.1.1
      have hnc : sn ≤ sc := hok.2.1
      have hFP := Lib.hid (famP (k := sk) hB.2.1 f)
      have hSn := Lib.hid (show (quadsK 1 (sk, sx)).any (fun q => decide (famF q = f)) = false → (quads 1 ((ss.take (j + 1)).map cpK)).any (fun q => decide (famF q = f)) = false from fun e => by rw [hTk.out, List.any_append, hno2.out, e]; rfl)
      have d0r := cell_regrown d0
      have d1r := cell_regrown d1
      clear hTk hno2 hok hno
      by_cases h1 : sk = 1
      · have q1 : (sk == 1) = true := by simpa using h1
        by_cases h2 : sn = 4
        · have q2 : ((sn : Int) == 4) = true := by simp; omega
          have hl4 : sx.length = 4 := by omega
          obtain ⟨b2, o2, rfl, hb2, e3, e30, e31⟩ := hB.at_ (k := 3) (by omega)
          have e3r := cell_regrown e3
          have w3 : IntKind.u32.wrap (nth sx 3) = nth sx 3 := by rw [IntKind.wrap_u32]; omega
          have hbt := hB.front (k := 2) (by omega)
          have hbr := big_lt4 hbt.1.symm hbt.2.1
          have c1 := Lib.hid (rg_ofC (w := wr) (fun W hW => (rbig_any (some ⟨b2, o2, none⟩) 2 sc (sx.take 2) W w.heap.size (hbt.below (hW.mono hbs)) (by omega)).mono (fun e w' h => ⟨h.1, by rw [← h.2]; exact bl_refl _⟩)))
          have c2 := Lib.hid (rg_ofC (w := wr) (fun W hW => (rmfamily_any (big (sx.take 2)) (nth sx 3) hbr.1 hbr.2 W).mono (fun e w' h => ⟨h.1, by rw [← h.2]; exact bl_refl _⟩)))
          have hc2 : (2 : Int) ≤ (sc : Int) := by omega
          have hc3 : (2 : Nat) ≤ sc := by omega
          have i3 : (3 : Int) < (sn : Int) := by omega
          rw [hl4] at hFP
          rw [show decide (sk = 1) = true from decide_eq_true h1] at hFP
          have hFP2 := Lib.hid (show (quadsK 1 (sk, sx)).any (fun q => decide (famF q = f)) = decide (famOf (big (sx.take 2)) (nth sx 3) = f) by rw [hFP.out]; simp)
          generalize famOf (big (sx.take 2)) (nth sx 3) = F at *
          generalize big (sx.take 2) = V at *
          by_cases hF : F = f
          · have q3 : (F == f) = true := by simpa using hF
            have hR := Lib.hid (show famK f (ss.map cpK) = true by rw [HK.out]; exact hAt.out (by rw [hFP2.out]; exact decide_eq_true hF))
            clear h1 h2 hl4 hF hAt hSn hFP hFP2 hB hbt hbr hxn
            go_wp2_with fail
            refine wp_region_quiet_below (by kernel_rfl) (by kernel_rfl) ?_
            repeat (first | go_big_quiet_skip | go_big_quiet_step (with_reducible first | exact c1.out _ _ | exact c2.out _ _))
            refine wpQuiet_nil ?_
            first | rintro w' ⟨⟨dq, osq⟩, rfl⟩ | rintro ⟨dq, osq⟩
            have hb3 := bl_trans hb (below_regrown wr dq osq)
            generalize grow (redrawn wr dq) osq = w3' at *
            clear c1 c2 hb d0 d1 d0r d1r e3 e3r
            go_wp2
            go_ret
            exact ⟨ret_boolC hR.out.symm, hb3⟩
          · have q3 : (F == f) = false := by simpa using hF
            have hR := Lib.hid (hSn.out (by rw [hFP2.out]; exact decide_eq_false hF))
            clear h1 h2 hl4 hF hAt hSn hFP hFP2 hB hbt hbr hxn
            go_wp2_with fail
            refine wp_region_quiet_below (by kernel_rfl) (by kernel_rfl) ?_
            repeat (first | go_big_quiet_skip | go_big_quiet_step (with_reducible first | exact c1.out _ _ | exact c2.out _ _))
            refine wpQuiet_nil ?_
            first | rintro w' ⟨⟨dq, osq⟩, rfl⟩ | rintro ⟨dq, osq⟩
            have hb3 := bl_trans hb (below_regrown wr dq osq)
            generalize grow (redrawn wr dq) osq = w3' at *
            clear c1 c2 hb d0 d1 d0r d1r e3 e3r
            go_wp2
            go_roundw
            case rel => exact ⟨⟨j + 1, by omega, by go_num, hR⟩, hb3⟩
            case measure => simp [intOf]; omega
        · have q2 : ((sn : Int) == 4) = false := by simp; omega
          have hR := Lib.hid (hSn.out (by rw [hFP.out, decide_eq_false (fun h => h2 (hxn.trans h))]; simp))
          clear h1 h2 hAt hSn hFP hB hxn
          go_wp2_with fail
          refine wp_region_quiet_below (by kernel_rfl) (by kernel_rfl) ?_
          repeat (first | go_big_quiet_skip | go_big_quiet_step (fail))
          refine wpQuiet_nil ?_
          first | rintro w' ⟨⟨dq, osq⟩, rfl⟩ | rintro ⟨dq, osq⟩
          have hb3 := bl_trans hb (below_regrown wr dq osq)
          generalize grow (redrawn wr dq) osq = w3' at *
          clear hb d0 d1 d0r d1r
          go_wp2
          go_roundw
          case rel => exact ⟨⟨j + 1, by omega, by go_num, hR⟩, hb3⟩
          case measure => simp [intOf]; omega
      · have q1 : (sk == 1) = false := by simpa using h1
        have hR := Lib.hid (hSn.out (by rw [hFP.out, decide_eq_false h1]; simp))
        clear h1 hAt hSn hFP hB hxn
        go_wp2_with fail
        refine wp_region_quiet_below (by kernel_rfl) (by kernel_rfl) ?_
        repeat (first | go_big_quiet_skip | go_big_quiet_step (fail))
        refine wpQuiet_nil ?_
        first | rintro w' ⟨⟨dq, osq⟩, rfl⟩ | rintro ⟨dq, osq⟩
        have hb3 := bl_trans hb (below_regrown wr dq osq)
        generalize grow (redrawn wr dq) osq = w3' at *
        clear hb d0 d1 d0r d1r
        go_wp2
        go_roundw
        case rel => exact ⟨⟨j + 1, by omega, by go_num, hR⟩, hb3⟩
        case measure => simp [intOf]; omega
    · obtain rfl : n = j := by omega
      have hR := Lib.hid (show famK f (ss.map cpK) = false by rw [HK.out]; have := hno.out; rwa [List.take_of_length_le (by rw [← HN.out]; exact Nat.le_refl _)] at this)
      clear hno
      go_wp2
      go_ret
      exact ⟨ret_boolC hR.out.symm, hb⟩
theorem modStep_yes {f m : Int} {q : Q4} (h1 : famM q = f) (h2 : 1 ≤ q.d) (h3 : q.d ≤ 3) : modStep f m q = q.d := if_pos ⟨h1, h2, h3⟩
theorem modStep_no {f m : Int} {q : Q4} (h : ¬ (famM q = f ∧ 1 ≤ q.d ∧ q.d ≤ 3)) : modStep f m q = m := if_neg h
theorem ret_intC {a b : Int} (h : a = b) : Ending.returned (.int .i64 a) = Ending.returned (.int .i64 b) := by rw [h]
set_option maxRecDepth 100000 in
set_option maxHeartbeats 6400000 in
theorem rcmode_any (f : Int) (hf0 : f ≠ 0) (A : Option Addr) (n c : Nat) (ss : List Cp) (w : World) (h : Caps w w.heap.size A n ss) (hn : n ≤ 100000) (hs : ∀ s ∈ ss, s.n ≤ 100000) :
    Calls Tryd.prog 94 #[.int .i64 f, .slice A n c] w fun e w' => e = .returned (.int .i64 (modK f (ss.map cpK))) ∧ Below w.heap.size w w' := by
  have HN := Lib.hid h.1
  have HV := Lib.hid h
  have HS := Lib.hid hs
  have HK : Hid (modK f (ss.map cpK) = modQ f (quads 69 (ss.map cpK))) := Lib.hid (by unfold modK; rw [if_neg hf0])
  have qf : (f != 0) = true := by simpa using hf0
  clear h hf0 hs
  go_enter Tryd.func94, Tryd.ntmps94
  go_wp2_with fail
  go_loopw [5, 6] (fun mv i wr => (∃ j : Nat, j ≤ n ∧ i = .int .i64 j ∧ mv = .int .i64 (modQ f (quads 69 ((ss.take j).map cpK)))) ∧ Below w.heap.size w wr) (fun _ i _ => n - (intOf i).toNat)
  case atStart => exact ⟨⟨0, Nat.zero_le _, rfl, rfl⟩, bl_refl _⟩
  case round =>
    obtain ⟨⟨j, hj, rfl, rfl⟩, hb0⟩ := hrel
    obtain ⟨w0, rfl⟩ : ∃ x, x = wr := ⟨_, rfl⟩
    by_cases hlt : j < n
    · have HVb := HV.out.below hb0
      obtain ⟨b, o, rfl, hbB, d0, d1⟩ := HVb.at_ hlt
      have hj' := Lib.hid (show j < ss.length by rw [← HN.out]; exact hlt)
      have hTk := Lib.hid (quads_take (code := 69) hj'.out)
      have hok := HV.out.ok hlt
      have hsn := HS.out _ (cpth_mem hj'.out)
      generalize cpth ss j = s at *
      obtain ⟨sk, sA, sn, sc, sx⟩ := s
      rw [show cpK (⟨sk, sA, sn, sc, sx⟩ : Cp) = (sk, sx) from rfl] at hTk
      dsimp only at d0 d1 hsn
      have hB : Hid (Bytes w w.heap.size sA sn sx) := Lib.hid hok.1
      have hxn : sn = sx.length := hok.1.1
      have hnc : sn ≤ sc := hok.2.1
      have hG := Lib.hid hxn
      have hr4 : ((sn : Int).tmod 4) = ((sn % 4 : Nat) : Int) := by have := Int.ofNat_tmod sn 4; exact this.symm
      have hm4 : sn % 4 < 4 := Nat.mod_lt _ (by omega)
      obtain ⟨QS, hQS⟩ : ∃ QS, quads 69 ((ss.take j).map cpK) = QS := ⟨_, rfl⟩
      rw [hQS] at hTk
      rw [hQS]
      clear hQS hok hxn
      by_cases hk : sk = 69
      · have q1 : (sk != 69) = false := by simpa using hk
        by_cases hz : sn % 4 = 0
        · have hye := Lib.hid (quadsK_yes (code := 69) (p := (sk, sx)) ⟨hk, by rw [← hG.out]; exact hz, fun e => absurd e (by decide)⟩)
          have q2 : (((sn % 4 : Nat) : Int) != 0) = false := by simp; omega
          obtain ⟨m, hm⟩ : ∃ m, sn / 4 = m := ⟨_, rfl⟩
          have hM := Lib.hid (show sn = m * 4 by omega)
          have hye2 := Lib.hid (show quadsK 69 (sk, sx) = q4s sx m by rw [hye.out]; show q4s sx (sx.length / 4) = _; rw [← hG.out, hm])
          rw [hye2.out] at hTk
          have hsxr : Hid (∀ x ∈ sx, 0 ≤ x ∧ x ≤ 255) := Lib.hid hB.out.2.1
          clear hye hye2 hk hz hm
          generalize sn % 4 = m4 at *
          go_wp2_with fail
          clear d0 d1
          go_loopw [5, 8] (fun mv i wq => ∃ k p : Nat, Hid (p = k * 4) ∧ k ≤ m ∧ p ≤ sn ∧ i = .int .i64 p ∧ mv = .int .i64 (modQ f (QS ++ q4s sx k)) ∧ Below w.heap.size w wq) (fun _ i _ => sn - (intOf i).toNat)
          case atStart => exact ⟨0, 0, Lib.hid (by simp), Nat.zero_le _, Nat.zero_le _, rfl, by simp [q4s], hb0⟩
          case round =>
            obtain ⟨k, p, HP, hk, hp, rfl, rfl, hb⟩ := hrel
            by_cases hkm : k < m
            · have hpg : p + 4 ≤ sn := by have := HP.out; have := hM.out; omega
              have hplt : (p : Int) < (sn : Int) := by omega
              have hplt2 : p < sn := by omega
              have hB2 := hB.out.below hb
              obtain ⟨b2, o2, rfl, hbB2, y0, _, _⟩ := hB2.at_ (k := p) hplt2
              obtain ⟨_, _, hA1, _, y2, y20, y21⟩ := hB2.at_ (k := p + 2) (by omega)
              cases hA1
              obtain ⟨_, _, hA1, _, y3, y30, y31⟩ := hB2.at_ (k := p + 3) (by omega)
              cases hA1
              have hbs := hb.size
              have hbt := bytes_mid (p := p) (g := 2) hB2 (by omega)
              have hbr := big_lt4 hbt.1.symm hbt.2.1
              have hfm := famM_at (xs := sx) (k := k) (by have := HP.out; have := hG.out; omega) hsxr.out
              rw [← HP.out] at hfm
              have hsd : Hid (modQ f (QS ++ q4s sx (k + 1)) = modStep f (modQ f (QS ++ q4s sx k)) (q4 sx k)) := Lib.hid (by rw [q4s_succ, ← List.append_assoc, modQ_snoc])
              obtain ⟨MV, hMV⟩ : ∃ MV, modQ f (QS ++ q4s sx k) = MV := ⟨_, rfl⟩
              rw [hMV] at hsd
              rw [hMV]
              clear hMV
              have w2 : IntKind.u32.wrap (nth sx (p + 2)) = nth sx (p + 2) := by rw [IntKind.wrap_u32]; omega
              have w3 : IntKind.i64.wrap (nth sx (p + 3)) = nth sx (p + 3) := IntWalk.i64_in _ (by omega)
              have i1 : (0 : Int) ≤ (p : Int) := by omega
              have i2 : (p : Int) ≤ (p : Int) + 2 := by omega
              have i3 : (p : Int) + 2 ≤ (sc : Int) := by omega
              have i4 : p + 2 ≤ sc := by omega
              have i5 : ¬ sc = p := by omega
              have i6 : IntKind.i64.wrap ((p : Int) + 2) = (p : Int) + 2 := IntWalk.i64_in _ (by omega)
              have i7 : IntKind.i64.wrap ((p : Int) + 3) = (p : Int) + 3 := IntWalk.i64_in _ (by omega)
              have i8 : (p : Int) + 2 < (sn : Int) := by omega
              have i9 : (p : Int) + 3 < (sn : Int) := by omega
              have hlen : ((p : Int) + 2).toNat - p = 2 := by omega
              have hl2 : ((p : Int) + 2).toNat = p + 2 := by omega
              have hl3 : ((p : Int) + 3).toNat = p + 3 := by omega
              have c1 := Lib.hid (rg_ofC (w := wr) (fun W hW => (rbig_any (some ⟨b2, o2 + p, none⟩) 2 (sc - p) ((sx.drop p).take 2) W w.heap.size (hbt.below (hW.mono hbs)) (by omega)).mono (fun e w' h => ⟨h.1, by rw [← h.2]; exact bl_refl _⟩)))
              have c2 := Lib.hid (rg_ofC (w := wr) (fun W hW => (rmfamily_any (big ((sx.drop p).take 2)) (nth sx (p + 2)) hbr.1 hbr.2 W).mono (fun e w' h => ⟨h.1, by rw [← h.2]; exact bl_refl _⟩)))
              have y2r := cell_regrown y2
              have y3r := cell_regrown y3
              have HFM := Lib.hid hfm
              clear hfm hbr hbt hB2
              generalize famOf (big ((sx.drop p).take 2)) (nth sx (p + 2)) = F at *
              generalize big ((sx.drop p).take 2) = V at *
              generalize nth sx (p + 2) = e2 at *
              generalize nth sx (p + 3) = d at *
              have y1 : True := trivial
              by_cases hF : F = f
              · have q3 : (F == f) = true := by simpa using hF
                by_cases hd1 : 1 ≤ d
                · have q4 : decide (1 ≤ d) = true := decide_eq_true hd1
                  by_cases hd3 : d ≤ 3
                  · have q5 : decide (d ≤ 3) = true := decide_eq_true hd3
                    have hR : Hid (Value.int .i64 d = .int .i64 (modQ f (QS ++ q4s sx (k + 1)))) := Lib.hid (by rw [hsd.out, modStep_yes (HFM.out.1.trans hF) (by rw [HFM.out.2]; exact hd1) (by rw [HFM.out.2]; exact hd3), HFM.out.2])
                    clear hF hsd HFM
                    go_wp2_with fail
                    refine wp_region_quiet_below (by kernel_rfl) (by kernel_rfl) ?_
                    repeat (first | go_big_quiet_skip | go_big_quiet_step (with_reducible first | exact c1.out _ _ | exact c2.out _ _))
                    refine wpQuiet_nil ?_
                    first | rintro w' ⟨⟨dq, osq⟩, rfl⟩ | rintro ⟨dq, osq⟩
                    have hb3 := bl_trans hb (below_regrown wr dq osq)
                    have y3' := cell_regrown y3
                    generalize hg3 : grow (redrawn wr dq) osq = w3' at *
                    have z3 : w3'.cell? ⟨b2, o2 + (p + 3), none⟩ = some (.int .u8 d) := by rw [← hg3]; exact y3' dq osq
                    clear c1 c2 hb y0 y1 y2 y3 y2r y3r y3' hg3
                    go_wp2
                    go_roundw
                    case rel => exact ⟨k + 1, p + 4, Lib.hid (by rw [Nat.succ_mul, HP.out]), hkm, hpg, by go_num, hR.out, hb3⟩
                    case measure => simp [intOf]; omega
                  · have q5 : decide (d ≤ 3) = false := decide_eq_false hd3
                    have hR : Hid (Value.int .i64 MV = .int .i64 (modQ f (QS ++ q4s sx (k + 1)))) := Lib.hid (by rw [hsd.out, modStep_no (fun h => hd3 (by rw [← HFM.out.2]; exact h.2.2))])
                    clear hF hsd HFM
                    go_wp2_with fail
                    refine wp_region_quiet_below (by kernel_rfl) (by kernel_rfl) ?_
                    repeat (first | go_big_quiet_skip | go_big_quiet_step (with_reducible first | exact c1.out _ _ | exact c2.out _ _))
                    refine wpQuiet_nil ?_
                    first | rintro w' ⟨⟨dq, osq⟩, rfl⟩ | rintro ⟨dq, osq⟩
                    have hb3 := bl_trans hb (below_regrown wr dq osq)
                    have y3' := cell_regrown y3
                    generalize hg3 : grow (redrawn wr dq) osq = w3' at *
                    have z3 : w3'.cell? ⟨b2, o2 + (p + 3), none⟩ = some (.int .u8 d) := by rw [← hg3]; exact y3' dq osq
                    clear c1 c2 hb y0 y1 y2 y3 y2r y3r y3' hg3
                    go_wp2
                    go_roundw
                    case rel => exact ⟨k + 1, p + 4, Lib.hid (by rw [Nat.succ_mul, HP.out]), hkm, hpg, by go_num, hR.out, hb3⟩
                    case measure => simp [intOf]; omega
                · have q4 : decide (1 ≤ d) = false := decide_eq_false hd1
                  have hR : Hid (Value.int .i64 MV = .int .i64 (modQ f (QS ++ q4s sx (k + 1)))) := Lib.hid (by rw [hsd.out, modStep_no (fun h => hd1 (by rw [← HFM.out.2]; exact h.2.1))])
                  clear hF hsd HFM
                  go_wp2_with fail
                  refine wp_region_quiet_below (by kernel_rfl) (by kernel_rfl) ?_
                  repeat (first | go_big_quiet_skip | go_big_quiet_step (with_reducible first | exact c1.out _ _ | exact c2.out _ _))
                  refine wpQuiet_nil ?_
                  first | rintro w' ⟨⟨dq, osq⟩, rfl⟩ | rintro ⟨dq, osq⟩
                  have hb3 := bl_trans hb (below_regrown wr dq osq)
                  have y3' := cell_regrown y3
                  generalize hg3 : grow (redrawn wr dq) osq = w3' at *
                  have z3 : w3'.cell? ⟨b2, o2 + (p + 3), none⟩ = some (.int .u8 d) := by rw [← hg3]; exact y3' dq osq
                  clear c1 c2 hb y0 y1 y2 y3 y2r y3r y3' hg3
                  go_wp2
                  go_roundw
                  case rel => exact ⟨k + 1, p + 4, Lib.hid (by rw [Nat.succ_mul, HP.out]), hkm, hpg, by go_num, hR.out, hb3⟩
                  case measure => simp [intOf]; omega
              · have q3 : (F == f) = false := by simpa using hF
                have hR : Hid (Value.int .i64 MV = .int .i64 (modQ f (QS ++ q4s sx (k + 1)))) := Lib.hid (by rw [hsd.out, modStep_no (fun h => hF (HFM.out.1.symm.trans h.1))])
                clear hF hsd HFM
                go_wp2_with fail
                refine wp_region_quiet_below (by kernel_rfl) (by kernel_rfl) ?_
                repeat (first | go_big_quiet_skip | go_big_quiet_step (with_reducible first | exact c1.out _ _ | exact c2.out _ _))
                refine wpQuiet_nil ?_
                first | rintro w' ⟨⟨dq, osq⟩, rfl⟩ | rintro ⟨dq, osq⟩
                have hb3 := bl_trans hb (below_regrown wr dq osq)
                have y3' := cell_regrown y3
                generalize hg3 : grow (redrawn wr dq) osq = w3' at *
                have z3 : w3'.cell? ⟨b2, o2 + (p + 3), none⟩ = some (.int .u8 d) := by rw [← hg3]; exact y3' dq osq
                clear c1 c2 hb y0 y1 y2 y3 y2r y3r y3' hg3
                go_wp2
                go_roundw
                case rel => exact ⟨k + 1, p + 4, Lib.hid (by rw [Nat.succ_mul, HP.out]), hkm, hpg, by go_num, hR.out, hb3⟩
                case measure => simp [intOf]; omega
            · obtain rfl : k = m := by omega
              have hpn : ¬ ((p : Int) < (sn : Int)) := by have := HP.out; have := hM.out; omega
              have hpn2 : ¬ (p < sn) := by omega
              go_wp2
              go_roundw
              case rel => exact ⟨⟨j + 1, hlt, by go_num, by rw [hTk.out]⟩, hb⟩
              case measure => simp [intOf]; omega
        · have hno := Lib.hid (quadsK_no (code := 69) (p := (sk, sx)) (fun h => hz (by rw [hG.out]; exact h.2.1)))
          have q2 : (((sn % 4 : Nat) : Int) != 0) = true := by simp; omega
          rw [hno.out, List.append_nil] at hTk
          clear hk hz
          generalize sn % 4 = m4 at *
          go_wp2
          go_roundw
          case rel => exact ⟨⟨j + 1, hlt, by go_num, by rw [hTk.out]⟩, hb0⟩
          case measure => simp [intOf]; omega
      · have hno := Lib.hid (quadsK_no (code := 69) (p := (sk, sx)) (fun h => hk h.1))
        have q1 : (sk != 69) = true := by simpa using hk
        rw [hno.out, List.append_nil] at hTk
        clear hk
        go_wp2
        go_roundw
        case rel => exact ⟨⟨j + 1, hlt, by go_num, by rw [hTk.out]⟩, hb0⟩
        case measure => simp [intOf]; omega
    · obtain rfl : n = j := by omega
      have hR := Lib.hid (show modQ f (quads 69 ((ss.take n).map cpK)) = modK f (ss.map cpK) by rw [HK.out, List.take_of_length_le (by rw [← HN.out]; exact Nat.le_refl _)])
      rw [hR.out]
      go_wp2
      go_ret
      exact ⟨rfl, hb0⟩
end Go.Proofs.YtniheakafkakhaaDoor
