/- XOrM: XOsM, XOsA, XOqP, XOrA, XOrT, XOrB, XOqKB in one text -/
import Derived.Test.YtniheakafkakhaaDoorObA
import Derived.Test.YtniheakafkakhaaDoorCpB
import Derived.Test.YtniheakafkakhaaDoorCpH
import Derived.Test.YtniheakafkakhaaDoorEq
import Derived.Test.YtniheakafkakhaaDoorOqM1
import Derived.Test.YtniheakafkakhaaDoorNgM1
import Derived.Test.YtniheakafkakhaaDoorCqA
import Derived.Test.YtniheakafkakhaaDoorCpD
import Derived.Test.YtniheakafkakhaaDoorOrN
import Derived.Test.YtniheakafkakhaaDoorBstr
import Derived.Laws.BytesArg
/- the forms of OPENs: when two are the same -/
namespace Go.Proofs.YtniheakafkakhaaDoor
open Go.RowKit Go.Sort
theorem kform_inj : ∀ {K M : List (Int × List Int)}, K.flatMap kFormC = M.flatMap kFormC → K = M
  | [], [], _ => rfl
  | [], (k, xs) :: M, h => by simp [kFormC] at h
  | (k, xs) :: K, [], h => by simp [kFormC] at h
  | (k, xs) :: K, (l, ys) :: M, h => by
    rw [List.flatMap_cons, List.flatMap_cons] at h
    unfold kFormC at h
    simp only [List.cons_append, List.cons.injEq] at h
    obtain ⟨h1, h2, h3⟩ := h
    have hl : xs.length = ys.length := by omega
    obtain ⟨h4, h5⟩ := List.append_inj h3 hl
    rw [h1, h4, kform_inj h5]
theorem big_dig2 (x : Int) (h0 : 0 ≤ x) (h1 : x < 65536) : big (digitsOf 2 x) = x := by
  show big [x / 256 ^ 1 % 256, x / 256 ^ 0 % 256] = x
  rw [big_pair]
  omega
theorem big_dig4o (x : Int) (h0 : 0 ≤ x) (h1 : x < 4294967296) : big (digitsOf 4 x) = x := by
  show big [x / 256 ^ 3 % 256, x / 256 ^ 2 % 256, x / 256 ^ 1 % 256, x / 256 ^ 0 % 256] = x
  simp only [big, List.foldl]
  omega
theorem oForm_inj {num q r num' q' r' : Int} {P P' : List Int} (hq : 0 ≤ q ∧ q ≤ 65535) (hq' : 0 ≤ q' ∧ q' ≤ 65535) (hn : 0 ≤ num ∧ num ≤ 65535) (hn' : 0 ≤ num' ∧ num' ≤ 65535) (hr : 0 ≤ r ∧ r < 4294967296) (hr' : 0 ≤ r' ∧ r' < 4294967296) (h : oFormK num q r P = oFormK num' q' r' P') : num = num' ∧ q = q' ∧ r = r' ∧ P = P' := by
  unfold oFormK at h
  have h1 := (List.append_inj h rfl).2
  obtain ⟨e1, h2⟩ := List.append_inj h1 (by rw [digitsOf_len, digitsOf_len])
  obtain ⟨e2, h3⟩ := List.append_inj h2 (by rw [digitsOf_len, digitsOf_len])
  obtain ⟨e3, h4⟩ := List.append_inj h3 (by rw [digitsOf_len, digitsOf_len])
  obtain ⟨_, h5⟩ := List.append_inj h4 rfl
  refine ⟨?_, ?_, ?_, h5⟩
  · rw [← big_dig2 num hn.1 (by omega), e1, big_dig2 num' hn'.1 (by omega)]
  · rw [← big_dig2 q hq.1 (by omega), e2, big_dig2 q' hq'.1 (by omega)]
  · rw [← big_dig4o r hr.1 hr.2, e3, big_dig4o r' hr'.1 hr'.2]
theorem oPar_inj {ss ts : List Cp} (hs : ∀ s ∈ ss, s.n = s.xs.length) (ht : ∀ s ∈ ts, s.n = s.xs.length) (h : oPar ss = oPar ts) : ss.map cpK = ts.map cpK := by
  unfold oPar at h
  by_cases e : ss = []
  · rw [if_pos e] at h
    by_cases e' : ts = []
    · rw [e, e']
    · rw [if_neg e'] at h; exact absurd h (by simp)
  · rw [if_neg e] at h
    by_cases e' : ts = []
    · rw [if_pos e'] at h; exact absurd h (by simp)
    · rw [if_neg e'] at h
      simp only [List.cons.injEq] at h
      have h3 := h.2.2
      rw [cpsForm_k hs, cpsForm_k ht] at h3
      exact kform_inj h3
theorem oPar_congr {ss ts : List Cp} (hs : ∀ s ∈ ss, s.n = s.xs.length) (ht : ∀ s ∈ ts, s.n = s.xs.length) (h : ss.map cpK = ts.map cpK) : oPar ss = oPar ts := by
  unfold oPar
  have hl : ss.length = ts.length := by have := congrArg List.length h; rwa [List.length_map, List.length_map] at this
  have hc : cpsForm ss = cpsForm ts := by rw [cpsForm_k hs, cpsForm_k ht, h]
  by_cases e : ss = []
  · have e' : ts = [] := List.length_eq_zero_iff.1 (by rw [← hl, e]; rfl)
    rw [if_pos e, if_pos e']
  · have e' : ts ≠ [] := fun he => e (List.length_eq_zero_iff.1 (by rw [hl, he]; rfl))
    rw [if_neg e, if_neg e', hc]
theorem oOk_says {p q r : Int} {ss : List Cp} (h : oOk p q r ss = true) : (0 ≤ q ∧ q ≤ 65535) ∧ (if (sysK (ss.map cpK)).isSome = true then (sysK (ss.map cpK)).getD 0 = p else p ≤ 65535) := by
  unfold oOk at h
  rw [Bool.and_eq_true, Bool.and_eq_true] at h
  have hf := h.2.2
  refine ⟨fitB_q hf, ?_⟩
  unfold fitB at hf
  rw [Bool.and_eq_true] at hf
  have h2 := hf.2
  by_cases e : (sysK (ss.map cpK)).isSome = true
  · rw [if_pos e] at h2 ⊢
    exact beq_iff_eq.1 h2
  · rw [if_neg e] at h2 ⊢
    exact of_decide_eq_true h2
theorem oNum_ok {p : Int} (h : 0 ≤ p) : 0 ≤ oNum p ∧ oNum p ≤ 65535 := by
  unfold oNum
  split <;> omega
/-- Valid OPENs have the same form exactly if they are the same. -/
theorem oForm_same {p q r p' q' r' : Int} {ss ts : List Cp} (hp : 0 ≤ p) (hp' : 0 ≤ p') (hr : 0 ≤ r ∧ r < 4294967296) (hr' : 0 ≤ r' ∧ r' < 4294967296) (hs : ∀ s ∈ ss, s.n = s.xs.length) (ht : ∀ s ∈ ts, s.n = s.xs.length) (h : oOk p q r ss = true) (h' : oOk p' q' r' ts = true) :
    decide (oFormK (oNum p) q r (oPar ss) = oFormK (oNum p') q' r' (oPar ts)) = (p == p' && (q == q' && (r == r' && decide (ss.map cpK = ts.map cpK)))) := by
  obtain ⟨a1, a2⟩ := oOk_says h
  obtain ⟨b1, b2⟩ := oOk_says h'
  by_cases e : oFormK (oNum p) q r (oPar ss) = oFormK (oNum p') q' r' (oPar ts)
  · obtain ⟨h1, h2, h3, h4⟩ := oForm_inj a1 b1 (oNum_ok hp) (oNum_ok hp') hr hr' e
    have hK := oPar_inj hs ht h4
    have hpp : p = p' := by
      rw [hK] at a2
      by_cases es : (sysK (ts.map cpK)).isSome = true
      · rw [if_pos es] at a2 b2
        exact a2.symm.trans b2
      · rw [if_neg es] at a2 b2
        unfold oNum at h1
        rw [if_neg (by omega), if_neg (by omega)] at h1
        exact h1
    rw [decide_eq_true e, hpp, h2, h3, decide_eq_true hK]
    simp
  · rw [decide_eq_false e]
    symm
    rw [← Bool.not_eq_true]
    intro hc
    rw [Bool.and_eq_true, Bool.and_eq_true, Bool.and_eq_true, beq_iff_eq, beq_iff_eq, beq_iff_eq, decide_eq_true_iff] at hc
    obtain ⟨c1, c2, c3, c4⟩ := hc
    exact e (by rw [c1, c2, c3, oPar_congr hs ht c4])
end Go.Proofs.YtniheakafkakhaaDoor

/- open.Same, peerageref17.Same, peeragelaw17.alive -/
namespace Go.Proofs.YtniheakafkakhaaDoor
open Go.RowKit Go.Sort
theorem caps_nilO (w : World) (B : Nat) : Caps w B none 0 [] := ⟨rfl, (fun s hs => by cases hs), .inl rfl⟩
set_option maxRecDepth 100000 in
set_option maxHeartbeats 3200000 in
theorem rsame17_any (p q r : Int) (A : Option Addr) (n c : Nat) (p' q' r' : Int) (A' : Option Addr) (n' c' : Nat) (ss ts : List Cp) (w : World) (h : Caps w w.heap.size A n ss) (h' : Caps w w.heap.size A' n' ts) (hn : n ≤ 100000) (hn' : n' ≤ 100000) :
    Calls Tryd.prog 33 #[.agg #[.int .u32 p, .int .i64 q, .int .u32 r, .slice A n c], .agg #[.int .u32 p', .int .i64 q', .int .u32 r', .slice A' n' c']] w fun e w' => e = .returned (.bool (p == p' && (q == q' && (r == r' && decide (ss.map cpK = ts.map cpK))))) ∧ Below w.heap.size w w' := by
  obtain ⟨X, hX, oA, oB, hbX, hXs⟩ := two_boxesN w #[.int .u32 p, .int .i64 q, .int .u32 r, .slice A n c] #[.int .u32 p', .int .i64 q', .int .u32 r', .slice A' n' c'] 41 41
  clear hXs
  have hS := Lib.hid (rcsame_any A A' n n' c c' ss ts X (h.step hbX) (h'.step hbX) hn hn')
  generalize decide (ss.map cpK = ts.map cpK) = sm at *
  have HK : Hid ((p == p' && (q == q' && (r == r' && sm))) = (p == p' && (q == q' && (r == r' && sm)))) := Lib.hid rfl
  obtain ⟨a0, a1, a2, a3⟩ := own_end oA
  obtain ⟨b0, b1, b2, b3⟩ := own_end oB
  clear h h' hn hn'
  generalize hv : (p == p' && (q == q' && (r == r' && sm))) = v at HK ⊢
  replace hv := Lib.hid hv
  clear HK
  rcases hp : (p == p') with _ | _
  · have HV := Lib.hid (show v = false by rw [← hv.out, hp]; rfl)
    clear hv
    have hp2 : ¬ p = p' := by simpa using hp
    go_enter Tryd.func33, Tryd.ntmps33
    go_upto_region 1 with fail
    rw [← hX]
    clear hX
    go_wp2
    go_ret
    exact ⟨by rw [HV.out]; first | done | rfl, hbX⟩
  · rcases hq : (q == q') with _ | _
    · have HV := Lib.hid (show v = false by rw [← hv.out, hp, hq]; rfl)
      clear hv
      go_enter Tryd.func33, Tryd.ntmps33
      go_upto_region 1 with fail
      rw [← hX]
      clear hX
      go_wp2
      go_ret
      exact ⟨by rw [HV.out]; first | done | rfl, hbX⟩
    · rcases hr : (r == r') with _ | _
      · have HV := Lib.hid (show v = false by rw [← hv.out, hp, hq, hr]; rfl)
        clear hv
        go_enter Tryd.func33, Tryd.ntmps33
        go_upto_region 1 with fail
        rw [← hX]
        clear hX
        go_wp2
        go_ret
        exact ⟨by rw [HV.out]; first | done | rfl, hbX⟩
      · have HV := Lib.hid (show v = sm by rw [← hv.out, hp, hq, hr]; rfl)
        clear hv
        go_enter Tryd.func33, Tryd.ntmps33
        go_upto_region 1 with fail
        rw [← hX]
        clear hX
        go_wp2_with fail
        refine hS.out.mono ?_
        rintro e w2 ⟨rfl, hb2⟩
        have hb3 := bl_trans hbX hb2
        go_wp2
        go_ret
        exact ⟨by rw [HV.out]; first | done | rfl, hb3⟩
set_option maxRecDepth 100000 in
theorem alive17_any (w : World) : Calls Tryd.prog 23 #[] w fun e w' => e = .returned (.bool true) ∧ Below w.heap.size w w' := by
  have hB := Lib.hid (obytes_any 1 0 1 none 0 0 [] w (caps_nilO _ _) (by omega) (by intro s hs; cases hs) (by omega) (by omega))
  go_enter Tryd.func23, Tryd.ntmps23
  go_wp2_with fail
  refine hB.out.mono ?_
  rintro e w2 ⟨A2, n2, c2, rfl, hx, hb2⟩
  rw [show oOk 1 0 1 [] = true by decide +kernel, if_pos rfl, show oFormK (oNum 1) 0 1 (oPar []) = [4, 0, 1, 0, 0, 0, 0, 0, 1, 0] by decide +kernel] at hx
  obtain rfl : n2 = 10 := hx.1
  have hb3 := bl_alloc hb2 (.cells #[.int .u8 4, .int .u8 0, .int .u8 1, .int .u8 0, .int .u8 0, .int .u8 0, .int .u8 0, .int .u8 0, .int .u8 1, .int .u8 0] 5)
  have hbE := bl_alloc (bl_refl w2) (.cells #[.int .u8 4, .int .u8 0, .int .u8 1, .int .u8 0, .int .u8 0, .int .u8 0, .int .u8 0, .int .u8 0, .int .u8 1, .int .u8 0] 5)
  have oE := Own.new w2 5 #[.int .u8 4, .int .u8 0, .int .u8 1, .int .u8 0, .int .u8 0, .int .u8 0, .int .u8 0, .int .u8 0, .int .u8 1, .int .u8 0]
  have hy := Bytes.of_owned (xs := [4, 0, 1, 0, 0, 0, 0, 0, 1, 0]) oE (by decide) oE.lt
  have hE := Lib.hid (bytesEq_any A2 (some ⟨w2.heap.size, 0, none⟩) 10 10 c2 10 _ _ _ _ _ (hx.stp hbE) hy (by omega) (by omega))
  rw [show oOk 1 0 1 [] = true by decide +kernel]
  clear hB hx hy oE
  go_wp2_with fail
  refine hE.out.mono ?_
  rintro e w3 ⟨rfl, m, rfl⟩
  have hb4 := bl_drewN hb3 m
  go_wp2
  go_ret
  exact ⟨by first | rfl | simp, hb4⟩
end Go.Proofs.YtniheakafkakhaaDoor

/- the OPENs that Parse gives: they have forms, and a form is read to the OPEN again -/
namespace Go.Proofs.YtniheakafkakhaaDoor
open Go.RowKit Go.Sort
theorem mem_kform {N : List (Int × List Int)} {p : Int × List Int} (hp : p ∈ N) : ∀ x ∈ p.2, x ∈ N.flatMap kFormC := fun x hx => List.mem_flatMap.2 ⟨p, hp, by unfold kFormC; simp [hx]⟩
theorem parStep_good {p k : Nat} {xs : List Int} {M : List (Int × List Int)} (hb : byteC xs) (h : parStep p xs = .inr (k, M)) : 2 + k ≤ xs.length ∧ M.flatMap kFormC = (xs.drop 2).take k ∧ ∀ q ∈ M, goodC q ∧ byteC q.2 := by
  unfold parStep at h
  by_cases h1 : xs.length < 2
  · rw [if_pos h1] at h; cases h
  · rw [if_neg h1] at h
    by_cases h2 : xs.length < 2 + (nth xs 1).toNat
    · rw [if_pos h2] at h; cases h
    · rw [if_neg h2] at h
      by_cases h3 : ¬ nth xs 0 = 2
      · rw [if_pos h3] at h; cases h
      · rw [if_neg h3] at h
        cases hr : readC ((nth xs 1).toNat + 1) ((xs.drop 2).take (nth xs 1).toNat) with
        | none => rw [hr] at h; cases h
        | some N =>
          rw [hr] at h
          have e : (nth xs 1).toNat = k ∧ N = M := by injection h with h; injection h with a b; exact ⟨a, b⟩
          obtain ⟨rfl, rfl⟩ := e
          have hb2 : byteC ((xs.drop 2).take (nth xs 1).toNat) := fun y hy => hb y (List.mem_of_mem_drop (List.mem_of_mem_take hy))
          have hf := readC_form _ hb2 hr
          exact ⟨by omega, hf, fun q hq => ⟨readC_good _ hb2 hr q hq, fun x hx => hb2 x (by rw [← hf]; exact mem_kform hq x hx)⟩⟩
theorem parAll_good : ∀ (f p : Nat) {xs : List Int} {N : List (Int × List Int)}, byteC xs → parAll f p xs = .inr N → (N = [] ∨ (N.flatMap kFormC).length + 2 ≤ xs.length) ∧ ∀ q ∈ N, goodC q ∧ byteC q.2
  | 0, p, xs, N, _, h => by
    unfold parAll at h
    cases h
    exact ⟨.inl rfl, fun _ h => by cases h⟩
  | f + 1, p, xs, N, hb, h => by
    by_cases e : xs = []
    · rw [e, parAll_nil] at h
      cases h
      exact ⟨.inl rfl, fun _ h => by cases h⟩
    · cases hs : parStep p xs with
      | inl e2 => rw [parAll_bad e hs] at h; cases h
      | inr kM =>
        obtain ⟨k, M⟩ := kM
        rw [parAll_go e hs] at h
        obtain ⟨g1, g2, g3⟩ := parStep_good hb hs
        cases hr : parAll f (p + (2 + k)) (xs.drop (2 + k)) with
        | inl e2 => rw [hr] at h; cases h
        | inr N' =>
          rw [hr] at h
          have e3 : M ++ N' = N := Sum.inr.inj h
          subst e3
          obtain ⟨i1, i2⟩ := parAll_good f _ (hb.drop _) hr
          have hl : (M.flatMap kFormC).length = k := by rw [g2, List.length_take, List.length_drop]; omega
          refine ⟨.inr ?_, fun q hq => (List.mem_append.1 hq).elim (g3 q) (i2 q)⟩
          rcases i1 with rfl | i1
          · rw [List.append_nil, hl]; omega
          · rw [List.flatMap_append, List.length_append, hl]; rw [List.length_drop] at i1; omega
/-- The OPENs that have a form. -/
def OGood (a hd id : Int) (N : List (Int × List Int)) : Prop := (0 < a ∧ a < 4294967296) ∧ (0 < id ∧ id < 4294967296) ∧ (hd = 0 ∨ 3 ≤ hd ∧ hd ≤ 65535) ∧ (∀ q ∈ N, goodC q ∧ byteC q.2) ∧ (N.flatMap kFormC).length ≤ 253 ∧ ((sysK N = none ∧ a ≤ 65535) ∨ sysK N = some a)
theorem big4_rng {xs : List Int} (h : ∀ x ∈ xs, 0 ≤ x ∧ x ≤ 255) : 0 ≤ big (xs.take 4) ∧ big (xs.take 4) < 4294967296 := by
  match xs with
  | [] => exact ⟨by show (0 : Int) ≤ 0; omega, by show (0 : Int) < 4294967296; omega⟩
  | [x] => have := h x (by simp); show 0 ≤ big [x] ∧ big [x] < 4294967296; simp [big]; omega
  | [x, y] => have h1 := h x (by simp); have h2 := h y (by simp); show 0 ≤ big [x, y] ∧ big [x, y] < 4294967296; simp [big]; omega
  | [x, y, z] => have h1 := h x (by simp); have h2 := h y (by simp); have h3 := h z (by simp); show 0 ≤ big [x, y, z] ∧ big [x, y, z] < 4294967296; simp [big]; omega
  | x :: y :: z :: u :: zs => have h1 := h x (by simp); have h2 := h y (by simp); have h3 := h z (by simp); have h4 := h u (by simp); show 0 ≤ big [x, y, z, u] ∧ big [x, y, z, u] < 4294967296; simp [big]; omega
theorem sysK_rng {N : List (Int × List Int)} {s : Int} (hb : ∀ q ∈ N, byteC q.2) (h : sysK N = some s) : 0 ≤ s ∧ s < 4294967296 := by
  unfold sysK at h
  obtain ⟨p, hp, rfl⟩ := Option.map_eq_some_iff.1 h
  have hm := List.mem_of_find?_eq_some hp
  have hi := List.find?_some hp
  unfold isASk at hi
  have hi := of_decide_eq_true hi
  have e : p.2.take 4 = p.2 := by rw [← hi.2, List.take_length]
  have := big4_rng (hb p hm)
  rwa [e] at this
theorem oParse_good {bs : List Int} {a hd id : Int} {N : List (Int × List Int)} (hb : byteC bs) (h : oParse bs = .inr (a, hd, id, N)) : OGood a hd id N ∧ (N = [] ∨ (N.flatMap kFormC).length + 12 ≤ bs.length) ∧ 10 ≤ bs.length := by
  unfold oParse at h
  by_cases h0 : bs.length < 10
  · rw [if_pos h0] at h; cases h
  rw [if_neg h0] at h
  unfold oPv at h
  by_cases h1 : big (bs.take 1) = 4
  rotate_left
  · rw [if_neg h1] at h; cases h
  rw [if_pos h1] at h
  unfold oPs at h
  have hb1 : byteC (bs.drop 1) := hb.drop _
  have hb2 : byteC ((bs.drop 1).drop 2) := hb1.drop _
  have hb3 : byteC (((bs.drop 1).drop 2).drop 2) := hb2.drop _
  have hb4 : byteC ((((bs.drop 1).drop 2).drop 2).drop 4) := hb3.drop _
  have hb5 : byteC (((((bs.drop 1).drop 2).drop 2).drop 4).drop 1) := hb4.drop _
  have r2 := big2_rng hb1
  have r3 := big2_rng hb2
  have r4 := big4_rng hb3
  have r5 := big1_rng hb4
  by_cases h2 : big ((bs.drop 1).take 2) = 0
  · rw [if_pos h2] at h; cases h
  rw [if_neg h2] at h
  unfold oPh at h
  by_cases h3 : 0 < big (((bs.drop 1).drop 2).take 2) ∧ big (((bs.drop 1).drop 2).take 2) < 3
  · rw [if_pos h3] at h; cases h
  rw [if_neg h3] at h
  unfold oPi at h
  by_cases h4 : big ((((bs.drop 1).drop 2).drop 2).take 4) = 0
  · rw [if_pos h4] at h; cases h
  rw [if_neg h4] at h
  unfold oPc at h
  by_cases h5 : big (((((bs.drop 1).drop 2).drop 2).drop 4).take 1) = ((((((bs.drop 1).drop 2).drop 2).drop 4).drop 1).length : Int)
  rotate_left
  · rw [if_neg h5] at h; cases h
  rw [if_pos h5] at h
  unfold oPp at h
  have hXl : (((((bs.drop 1).drop 2).drop 2).drop 4).drop 1).length + 10 = bs.length := by simp only [List.length_drop]; omega
  generalize ((((bs.drop 1).drop 2).drop 2).drop 4).drop 1 = X at *
  cases hp : parAll (X.length + 1) 10 X with
  | inl e => rw [hp] at h; cases h
  | inr N' =>
    rw [hp] at h
    obtain ⟨g1, g2⟩ := parAll_good _ _ hb5 hp
    change oPn _ _ _ N' = _ at h
    unfold oPn at h
    have hflat : (N'.flatMap kFormC).length ≤ 253 := by
      rcases g1 with rfl | g1
      · show 0 ≤ 253; omega
      · omega
    have hlen : N' = [] ∨ (N'.flatMap kFormC).length + 12 ≤ bs.length := g1.imp (fun g => g) (fun g => by omega)
    cases hs : sysK N' with
    | none =>
      rw [hs] at h
      simp only [Sum.inr.injEq, Prod.mk.injEq] at h
      obtain ⟨rfl, rfl, rfl, rfl⟩ := h
      exact ⟨⟨by omega, by omega, by omega, g2, hflat, .inl ⟨hs, by omega⟩⟩, hlen, by omega⟩
    | some s =>
      rw [hs] at h
      have hsr := sysK_rng (fun q hq => (g2 q hq).2) hs
      by_cases h6 : s = 0
      · simp only [h6, if_true] at h; cases h
      · simp only [if_neg h6, Sum.inr.injEq, Prod.mk.injEq] at h
        obtain ⟨rfl, rfl, rfl, rfl⟩ := h
        exact ⟨⟨by omega, by omega, by omega, g2, hflat, .inr hs⟩, hlen, by omega⟩
theorem oForm_len (num q r : Int) (P : List Int) : (oFormK num q r P).length = 10 + P.length := by
  unfold oFormK
  simp only [List.length_append, digitsOf_len, List.length_singleton]
  omega
theorem oPar_len (L : List Cp) (hn : ∀ s ∈ L, s.n = s.xs.length) : (L.map cpK = [] ∧ (oPar L).length = 0) ∨ (oPar L).length = 2 + ((L.map cpK).flatMap kFormC).length := by
  unfold oPar
  by_cases e : L = []
  · exact .inl ⟨by rw [e]; rfl, by rw [if_pos e]; rfl⟩
  · right
    rw [if_neg e, ← cpsForm_k hn]
    simp only [List.length_cons]
    omega
theorem parAll_par (L : List Cp) (hn : ∀ s ∈ L, s.n = s.xs.length) (hg : ∀ q ∈ L.map cpK, goodC q) : parAll ((oPar L).length + 1) 10 (oPar L) = .inr (L.map cpK) := by
  unfold oPar
  by_cases e : L = []
  · rw [if_pos e, e]; exact parAll_nil _ _
  · rw [if_neg e, cpsForm_k hn]
    generalize hK : L.map cpK = K at *
    have ht : ((K.flatMap kFormC).length : Int).toNat = (K.flatMap kFormC).length := Int.toNat_natCast _
    have h5 := par_5 10 ((K.flatMap kFormC).length : Int) (K.flatMap kFormC) K (by rw [ht]; exact Nat.le_refl _) (by rw [ht, List.take_length]; exact readC_inv K _ (Nat.lt_succ_self _) hg)
    rw [parAll_go (by simp) h5, ht]
    have hd : (2 :: ((K.flatMap kFormC).length : Int) :: K.flatMap kFormC).drop (2 + (K.flatMap kFormC).length) = [] := List.drop_eq_nil_of_le (by simp only [List.length_cons]; omega)
    rw [hd]
    show parJoin K (parAll ((K.flatMap kFormC).length + 1 + 1) _ []) = _
    rw [parAll_nil]
    show Sum.inr (K ++ []) = _
    rw [List.append_nil]
theorem oParse_form {a hd id : Int} {L : List Cp} (hn : ∀ s ∈ L, s.n = s.xs.length) (h : OGood a hd id (L.map cpK)) : oParse (oFormK (oNum a) hd id (oPar L)) = .inr (a, hd, id, L.map cpK) := by
  obtain ⟨ha, hi, hh, hg, hl, hs⟩ := h
  have hon := oNum_ok (Int.le_of_lt ha.1)
  have hon0 : oNum a ≠ 0 := by unfold oNum; split <;> omega
  have hP : (oPar L).length ≤ 255 := by rcases oPar_len L hn with ⟨_, h⟩ | h <;> omega
  have hpar := parAll_par L hn (fun q hq => (hg q hq).1)
  have hlen := oForm_len (oNum a) hd id (oPar L)
  generalize hPP : oPar L = P at *
  unfold oParse
  rw [if_neg (by omega)]
  unfold oFormK
  unfold oPv
  rw [if_pos (by show big [4] = 4; rfl)]
  show oPs (digitsOf 2 (oNum a) ++ _) = _
  unfold oPs
  rw [List.take_left' (digitsOf_len _ _), List.drop_left' (digitsOf_len _ _), big_dig2 _ hon.1 (by omega), if_neg hon0]
  unfold oPh
  rw [List.take_left' (digitsOf_len _ _), List.drop_left' (digitsOf_len _ _), big_dig2 hd (by omega) (by omega), if_neg (by omega)]
  unfold oPi
  rw [List.take_left' (digitsOf_len _ _), List.drop_left' (digitsOf_len _ _), big_dig4o id (by omega) (by omega), if_neg (by omega)]
  unfold oPc
  rw [if_pos (by show big [(P.length : Int)] = (P.length : Int); simp [big])]
  show oPp _ _ _ P = _
  unfold oPp
  rw [hpar]
  show oPn _ _ _ (L.map cpK) = _
  unfold oPn
  rcases hs with ⟨hs, ha2⟩ | hs
  · rw [hs]
    show Sum.inr (oNum a, hd, id, L.map cpK) = _
    rw [show oNum a = a by unfold oNum; rw [if_neg (by omega)]]
  · rw [hs]
    show (if a = 0 then _ else _) = _
    rw [if_neg (by omega)]
theorem oOk_good {a hd id : Int} {L : List Cp} (hn : ∀ s ∈ L, s.n = s.xs.length) (h : OGood a hd id (L.map cpK)) : oOk a hd id L = true := by
  obtain ⟨ha, hi, hh, hg, hl, hs⟩ := h
  have h1 : L.all cpOk = true := ok_of_goodC hn (fun p hp => (hg p hp).1)
  have h2 : numB a hd id = true := by
    unfold numB
    rw [show (a == 0) = false by simp; omega, show (id == 0) = false by simp; omega]
    rcases hh with rfl | ⟨h3, h4⟩
    · rfl
    · rw [decide_eq_true h3, decide_eq_true h4]; cases (hd == 0) <;> rfl
  unfold oOk fitB
  rw [h1, decide_eq_true (by rw [cpsForm_k hn]; exact hl), h2]
  rcases hs with ⟨hs, ha2⟩ | hs
  · rw [hs]
    show (true && (true && (true && decide (a ≤ 65535)))) = true
    rw [decide_eq_true ha2]; rfl
  · rw [hs]
    show (true && (true && (true && (a == a)))) = true
    simp
theorem good_oOk {a hd id : Int} {L : List Cp} (hn : ∀ s ∈ L, s.n = s.xs.length) (hb : ∀ s ∈ L, byteC s.xs) (ha : 0 ≤ a ∧ a < 4294967296) (hi : 0 ≤ id ∧ id < 4294967296) (h : oOk a hd id L = true) : OGood a hd id (L.map cpK) := by
  have h2 := oOk_says h
  unfold oOk fitB numB at h
  simp only [Bool.and_eq_true, Bool.or_eq_true, Bool.not_eq_true', beq_eq_false_iff_ne, ne_eq, beq_iff_eq, decide_eq_true_eq] at h
  obtain ⟨h3, h4, ⟨h5, h6, h7⟩, _⟩ := h
  refine ⟨by omega, by omega, by omega, fun q hq => ⟨good_of_ok hn h3 q hq, ?_⟩, by rw [← cpsForm_k hn]; exact h4, ?_⟩
  · obtain ⟨s, hs, rfl⟩ := List.mem_map.1 hq
    exact hb s hs
  · have h8 := h2.2
    cases hs : sysK (L.map cpK) with
    | none => rw [hs] at h8; exact .inl ⟨rfl, by simpa using h8⟩
    | some s => rw [hs] at h8; exact .inr (by simpa using h8)
end Go.Proofs.YtniheakafkakhaaDoor

/- peerageref17.Valid, exact -/
namespace Go.Proofs.YtniheakafkakhaaDoor
open Go.RowKit Go.Sort
def holdB (q : Int) : Bool := q == 0 || (decide (3 ≤ q) && decide (q ≤ 65535))
theorem holdB_ok {q : Int} (h : holdB q = true) : 0 ≤ q ∧ q ≤ 65535 := by
  unfold holdB at h
  rw [Bool.or_eq_true, Bool.and_eq_true, decide_eq_true_iff, decide_eq_true_iff, beq_iff_eq] at h
  omega
set_option maxRecDepth 100000 in
theorem rhold17_any (q : Int) (w : World) : Calls Tryd.prog 106 #[.int .i64 q] w fun e w' => e = .returned (.bool (holdB q)) ∧ w = w' := by
  have HK : Hid (holdB q = (q == 0 || (decide (3 ≤ q) && decide (q ≤ 65535)))) := Lib.hid rfl
  by_cases h1 : q = 0
  · have hv := Lib.hid (show holdB q = true by rw [HK.out, h1]; rfl)
    subst h1
    clear HK
    go_enter Tryd.func106, Tryd.ntmps106
    go_wp2
    go_ret
    exact ⟨by rw [hv.out]; first | done | rfl, rfl⟩
  · have e1 : (q == 0) = false := by simpa using h1
    by_cases h2 : 3 ≤ q
    · have d2 : decide (3 ≤ q) = true := decide_eq_true h2
      have hv := Lib.hid (show holdB q = decide (q ≤ 65535) by rw [HK.out, e1, d2]; rfl)
      clear HK h1 h2
      go_enter Tryd.func106, Tryd.ntmps106
      go_wp2
      go_ret
      exact ⟨by rw [hv.out]; first | done | rfl, rfl⟩
    · have d2 : decide (3 ≤ q) = false := decide_eq_false h2
      have hv := Lib.hid (show holdB q = false by rw [HK.out, e1, d2]; rfl)
      clear HK h1 h2
      go_enter Tryd.func106, Tryd.ntmps106
      go_wp2
      go_ret
      exact ⟨by rw [hv.out]; first | done | rfl, rfl⟩
set_option maxRecDepth 100000 in
set_option maxHeartbeats 3200000 in
theorem rvalid17_ex (p q r : Int) (A : Option Addr) (n c : Nat) (ss : List Cp) (w : World) (h : Caps w w.heap.size A n ss) (hn : n ≤ 1000) (hs : ∀ s ∈ ss, s.n ≤ 1000) :
    Calls Tryd.prog 72 #[.agg #[.int .u32 p, .int .i64 q, .int .u32 r, .slice A n c]] w fun e w' => e = .returned (.bool (oOk p q r ss)) ∧ Below w.heap.size w w' := by
  have hb0 := bl_alloc (bl_refl w) (.cells #[.int .u32 p, .int .i64 q, .int .u32 r, .slice A n c] 41)
  have o0 := Own.new w 41 #[.int .u32 p, .int .i64 q, .int .u32 r, .slice A n c]
  have HC := Lib.hid (h.step hb0)
  have hB := Lib.hid (rcbytes_any A n c ss _ HC.out hn hs)
  have hH := Lib.hid (fun W => rhold17_any q W)
  have HK : Hid (oOk p q r ss = (ss.all cpOk && (decide ((cpsForm ss).length ≤ 253) && ((!(p == 0) && (!(r == 0) && holdB q)) && (if (sysK (ss.map cpK)).isSome = true then (sysK (ss.map cpK)).getD 0 == p else decide (p ≤ 65535)))))) := Lib.hid rfl
  generalize holdB q = hq at *
  obtain ⟨e0, e1, e2, e3⟩ := own_end o0
  clear h hs
  go_enter Tryd.func72, Tryd.ntmps72
  go_wp2_with fail
  refine hB.out.mono ?_
  rintro e w2 ⟨A2, n2, c2, rfl, hB2, hc2, hb2⟩
  have HN2 : Hid (ss.all cpOk = true → n2 = (cpsForm ss).length) := Lib.hid (fun h => by have := hB2.1; rwa [if_pos h] at this)
  clear hB2
  have hb3 := bl_trans hb0 hb2
  have o2 := o0.step hb2
  have HC2 := Lib.hid (HC.out.step hb2)
  have hSy := Lib.hid (rcsys_any A n c ss w2 HC2.out (by omega))
  generalize (sysK (ss.map cpK)).getD 0 = sa at *
  generalize (sysK (ss.map cpK)).isSome = sb at *
  clear hB e0 e1 e2 e3 o0 hb0 hb2 HC HC2
  obtain ⟨e0, e1, e2, e3⟩ := own_end o2
  generalize ss.all cpOk = ok at *
  cases ok
  · go_wp2
    go_ret
    exact ⟨by rw [HK.out]; rfl, hb3⟩
  · by_cases h253 : (253 : Int) < n2
    · have d1 : decide ((253 : Int) < n2) = true := decide_eq_true h253
      have HF := Lib.hid (decide_eq_false (show ¬ (cpsForm ss).length ≤ 253 by have := HN2.out rfl; omega))
      clear HN2
      go_wp2
      go_ret
      exact ⟨by rw [HK.out, HF.out]; rfl, hb3⟩
    · have d1 : decide ((253 : Int) < n2) = false := decide_eq_false h253
      have HT := Lib.hid (decide_eq_true (show (cpsForm ss).length ≤ 253 by have := HN2.out rfl; omega))
      clear HN2
      clear h253
      by_cases hp : p = 0
      · subst hp
        go_wp2
        go_ret
        exact ⟨by rw [HK.out, HT.out]; rfl, hb3⟩
      · have ep : (p == 0) = false := by simpa using hp
        clear hp
        by_cases hr : r = 0
        · subst hr
          go_wp2
          go_ret
          exact ⟨by rw [HK.out, HT.out, ep]; rfl, hb3⟩
        · have er : (r == 0) = false := by simpa using hr
          clear hr
          go_wp2_with fail
          refine (hH.out _).mono ?_
          rintro e w3 ⟨rfl, rfl⟩
          cases hq
          · go_wp2
            go_ret
            exact ⟨by rw [HK.out, HT.out, ep, er]; rfl, hb3⟩
          · go_wp2_with fail
            refine hSy.out.mono ?_
            rintro e w4 ⟨rfl, rfl⟩
            cases sb
            · go_wp2
              go_ret
              exact ⟨by rw [HK.out, HT.out, ep, er]; rfl, hb3⟩
            · go_wp2
              go_ret
              exact ⟨by rw [HK.out, HT.out, ep, er]; rfl, hb3⟩
end Go.Proofs.YtniheakafkakhaaDoor

/- open.Text, peerageref17.Text -/
namespace Go.Proofs.YtniheakafkakhaaDoor
open Go.RowKit Go.Sort
/-- The text of a valid OPEN. -/
def oTx (p q r : Int) : ByteArray := joinB [⟨#[111, 112, 101, 110, 32, 97, 115]⟩, decB p, ⟨#[104, 111, 108, 100]⟩, decB q, ⟨#[105, 100]⟩, adrB r] [32]
theorem ba_ext {a b : ByteArray} (h : a.data.toList = b.data.toList) : a = b := by
  cases a; cases b
  exact congrArg ByteArray.mk (Array.toList_inj.1 h)
theorem oTx_cat (p q r : Int) : (((((⟨#[111, 112, 101, 110, 32, 97, 115, 32]⟩ : ByteArray) ++ decB p) ++ ⟨#[32, 104, 111, 108, 100, 32]⟩) ++ decB q) ++ ⟨#[32, 105, 100, 32]⟩) ++ adrB r = oTx p q r := by
  apply ba_ext
  unfold oTx joinB
  simp only [List.map_cons, List.map_nil, Lib.join_cons, Lib.joinTail, List.flatten_cons, List.flatten_nil, ByteArray.toList_data_append]
  simp
theorem adrB_size (n : Int) : (adrB n).size ≤ 80 := by
  unfold adrB
  refine Nat.le_trans (joinB_size (k := 19) (s := 1) (fun x hx => ?_) (by simp)) ?_
  · obtain ⟨y, hy, rfl⟩ := List.mem_map.1 hx
    have := digitsOf_range 4 n y (List.mem_of_mem_take hy)
    exact decB_size (by omega)
  · unfold wAdr
    rw [List.length_map, List.length_take]
    have : min 4 (digitsOf 4 n).length ≤ 4 := Nat.min_le_left _ _
    omega
theorem oOk_q {p q r : Int} {ss : List Cp} (h : oOk p q r ss = true) : 0 ≤ q ∧ q ≤ 65535 := by
  unfold oOk at h
  rw [Bool.and_eq_true, Bool.and_eq_true] at h
  exact fitB_q h.2.2
set_option maxRecDepth 100000 in
set_option maxHeartbeats 3200000 in
theorem rotext_any (p q r : Int) (A : Option Addr) (n c : Nat) (ss : List Cp) (w : World) (h : Caps w w.heap.size A n ss) (hn : n ≤ 1000) (hs : ∀ s ∈ ss, s.n ≤ 1000) (hp0 : 0 ≤ p ∧ p < 4294967296) (hr0 : 0 ≤ r ∧ r < 4294967296) (ht : Tens w) :
    Calls Tryd.prog 30 #[.agg #[.int .u32 p, .int .i64 q, .int .u32 r, .slice A n c]] w fun e w' => e = .returned (.string (if oOk p q r ss = true then oTx p q r else ⟨#[]⟩)) ∧ Below w.heap.size w w' := by
  have hun := ht
  clear hun
  have hb0 := bl_alloc (bl_refl w) (.cells #[.int .u32 p, .int .i64 q, .int .u32 r, .slice A n c] 41)
  have o0 := Own.new w 41 #[.int .u32 p, .int .i64 q, .int .u32 r, .slice A n c]
  have hV := Lib.hid (rvalid17_ex p q r A n c ss _ (h.step hb0) hn hs)
  obtain ⟨e0, e1, e2, e3⟩ := own_end o0
  have HQ := Lib.hid (fun (e : oOk p q r ss = true) => oOk_q e)
  clear h hn hs
  generalize oOk p q r ss = ok at *
  cases ok <;> simp only [if_true, Bool.false_eq_true, if_false]
  · go_enter Tryd.func30, Tryd.ntmps30
    go_wp2_with fail
    refine hV.out.mono ?_
    rintro e w2 ⟨rfl, hb2⟩
    have hb3 := bl_trans hb0 hb2
    have o2 := o0.step hb2
    clear e0 e1 e2 e3 o0 hb0 hb2 hV
    go_wp2
    go_ret
    exact ⟨rfl, hb3⟩
  · go_enter Tryd.func30, Tryd.ntmps30
    go_wp2_with fail
    refine hV.out.mono ?_
    rintro e w2 ⟨rfl, hb2⟩
    have hb3 := bl_trans hb0 hb2
    have o2 := o0.step hb2
    clear e0 e1 e2 e3 o0 hb0 hb2 hV
    have hq := HQ.out (by first | rfl | trivial)
    have wp : IntKind.i64.wrap p = p := IntWalk.i64_in _ (by omega)
    have hT := Lib.hid (oTx_cat p q r)
    have HD := Lib.hid (fun W => rdecimal_any p hp0.1 (by omega) W)
    have HE := Lib.hid (fun W => rdecimal_any q hq.1 (by omega) W)
    have HA := Lib.hid (fun W => rbadr_any r hr0.1 hr0.2 W)
    have s1 := decB_size (n := p) (by omega)
    have s2 := decB_size (n := q) (by omega)
    have s3 := adrB_size r
    generalize decB p = dp at *
    generalize decB q = dq at *
    generalize adrB r = dr at *
    clear HQ
    go_upto_region 3 with fail
    refine wp_region_held_drew (S := (fun X => Own X w.heap.size 41 #[.int .u32 p, .int .i64 q, .int .u32 r, .slice A n c])) (by kernel_rfl) o2.drew (fun hHeld => ?_)
    have hd10 := bl_drewN hb3 1
    have hv10 := bl_drewN (bl_refl w2) 1
    have oA10 := o2.drew
    clear o2 hb3
    refine wpAnyH_take (i := 0) (v := ?_) rfl (by kernel_rfl) (by kernel_rfl) (by kernel_rfl) (fun _ _ _ h => h) (Or.inl ⟨by rfl, ?_⟩) (by assumption) ?_
    rotate_left
    · (intro W hSw; obtain ⟨e0, e1, e2, e3⟩ := own_end hSw; go_simp; try with_reducible rfl)
    simp only [Act.put, List.getElem_toArray, List.getElem_cons_zero, List.setIfInBounds_toArray, List.set_cons_zero, List.set_cons_succ]
    refine wpAnyH_take (i := 1) (v := ?_) rfl (by kernel_rfl) (by kernel_rfl) (by kernel_rfl) (fun _ _ _ h => h) (Or.inl ⟨by rfl, ?_⟩) (by assumption) ?_
    rotate_left
    · (intro W hSw; obtain ⟨e0, e1, e2, e3⟩ := own_end hSw; go_simp; try with_reducible rfl)
    simp only [Act.put, List.getElem_toArray, List.getElem_cons_zero, List.getElem_cons_succ, List.setIfInBounds_toArray, List.set_cons_zero, List.set_cons_succ]
    refine wpAnyH_take (i := 2) (v := ?_) rfl (by kernel_rfl) (by kernel_rfl) (by kernel_rfl) (fun _ _ _ h => h) (Or.inl ⟨by rfl, ?_⟩) (by assumption) ?_
    rotate_left
    · (intro W hSw; obtain ⟨e0, e1, e2, e3⟩ := own_end hSw; go_simp; try with_reducible rfl)
    simp only [Act.put, List.getElem_toArray, List.getElem_cons_zero, List.getElem_cons_succ, List.setIfInBounds_toArray, List.set_cons_zero, List.set_cons_succ]
    refine wpAnyH_take (i := 6) (v := ?_) rfl (by kernel_rfl) (by kernel_rfl) (by kernel_rfl) (fun _ _ _ h => h) (Or.inl ⟨by rfl, ?_⟩) (by assumption) ?_
    rotate_left
    · (intro W hSw; obtain ⟨e0, e1, e2, e3⟩ := own_end hSw; go_simp; try with_reducible rfl)
    simp only [Act.put, List.getElem_toArray, List.getElem_cons_zero, List.getElem_cons_succ, List.setIfInBounds_toArray, List.set_cons_zero, List.set_cons_succ]
    refine wpAnyH_take (i := 7) (v := ?_) rfl (by kernel_rfl) (by kernel_rfl) (by kernel_rfl) (fun _ _ _ h => h) (Or.inl ⟨by rfl, ?_⟩) (by assumption) ?_
    rotate_left
    · (intro W hSw; obtain ⟨e0, e1, e2, e3⟩ := own_end hSw; go_simp; try with_reducible rfl)
    simp only [Act.put, List.getElem_toArray, List.getElem_cons_zero, List.getElem_cons_succ, List.setIfInBounds_toArray, List.set_cons_zero, List.set_cons_succ]
    refine wpAnyH_take (i := 11) (v := ?_) rfl (by kernel_rfl) (by kernel_rfl) (by kernel_rfl) (fun _ _ _ h => h) (Or.inl ⟨by rfl, ?_⟩) (by assumption) ?_
    rotate_left
    · (intro W hSw; obtain ⟨e0, e1, e2, e3⟩ := own_end hSw; go_simp; try with_reducible rfl)
    simp only [Act.put, List.getElem_toArray, List.getElem_cons_zero, List.getElem_cons_succ, List.setIfInBounds_toArray, List.set_cons_zero, List.set_cons_succ]
    refine wpAnyH_take (i := 12) (v := ?_) rfl (by kernel_rfl) (by kernel_rfl) (by kernel_rfl) (fun _ _ _ h => h) (Or.inl ⟨by rfl, ?_⟩) (by assumption) ?_
    rotate_left
    · (intro W hSw; obtain ⟨e0, e1, e2, e3⟩ := own_end hSw; go_simp; try with_reducible rfl)
    simp only [Act.put, List.getElem_toArray, List.getElem_cons_zero, List.getElem_cons_succ, List.setIfInBounds_toArray, List.set_cons_zero, List.set_cons_succ]
    refine wpAnyH_ready (rs := [3]) (by kernel_rfl) (by simp) ?_
    refine (AllReadyH.cons rfl (fun K hK => ?_) AllReadyH.nil)
    go_simp
    go_at_call 79
    refine (HD.out _).mono ?_
    rintro e w11 ⟨rfl, hc11⟩
    have hd11 := bl_trans hd10 hc11
    have hv11 := bl_trans hv10 hc11
    have oA11 := oA10.step hc11
    clear oA10
    refine hK.out _ _ oA11 (fun hHeld2 => ?_)
    clear hK K hHeld
    have hHeld := hHeld2
    clear hHeld2
    try simp only [Act.put, List.getElem_toArray, List.getElem_cons_zero, List.getElem_cons_succ, List.setIfInBounds_toArray, List.set_cons_zero, List.set_cons_succ]
    refine wpAnyH_take (i := 4) (v := ?_) rfl (by kernel_rfl) (by kernel_rfl) (by kernel_rfl) (fun _ _ _ h => h) (Or.inl ⟨by rfl, ?_⟩) (by assumption) ?_
    rotate_left
    · (intro W hSw; go_simp; rw [if_neg (by (try simp only [ByteArray.size_append]); first | omega | (simp; omega))])
    simp only [Act.put, List.getElem_toArray, List.getElem_cons_zero, List.getElem_cons_succ, List.setIfInBounds_toArray, List.set_cons_zero, List.set_cons_succ]
    refine wpAnyH_take (i := 5) (v := ?_) rfl (by kernel_rfl) (by kernel_rfl) (by kernel_rfl) (fun _ _ _ h => h) (Or.inl ⟨by rfl, ?_⟩) (by assumption) ?_
    rotate_left
    · (intro W hSw; go_simp; rw [if_neg (by (try simp only [ByteArray.size_append]); first | omega | (simp; omega))])
    simp only [Act.put, List.getElem_toArray, List.getElem_cons_zero, List.getElem_cons_succ, List.setIfInBounds_toArray, List.set_cons_zero, List.set_cons_succ]
    refine wpAnyH_ready (rs := [8]) (by kernel_rfl) (by simp) ?_
    refine (AllReadyH.cons rfl (fun K hK => ?_) AllReadyH.nil)
    go_simp
    go_at_call 79
    refine (HE.out _).mono ?_
    rintro e w12 ⟨rfl, hc12⟩
    have hd12 := bl_trans hd11 hc12
    have hv12 := bl_trans hv11 hc12
    have oA12 := oA11.step hc12
    clear oA11
    refine hK.out _ _ oA12 (fun hHeld2 => ?_)
    clear hK K hHeld
    have hHeld := hHeld2
    clear hHeld2
    try simp only [Act.put, List.getElem_toArray, List.getElem_cons_zero, List.getElem_cons_succ, List.setIfInBounds_toArray, List.set_cons_zero, List.set_cons_succ]
    refine wpAnyH_take (i := 9) (v := ?_) rfl (by kernel_rfl) (by kernel_rfl) (by kernel_rfl) (fun _ _ _ h => h) (Or.inl ⟨by rfl, ?_⟩) (by assumption) ?_
    rotate_left
    · (intro W hSw; go_simp; rw [if_neg (by (try simp only [ByteArray.size_append]); first | omega | (simp; omega))])
    simp only [Act.put, List.getElem_toArray, List.getElem_cons_zero, List.getElem_cons_succ, List.setIfInBounds_toArray, List.set_cons_zero, List.set_cons_succ]
    refine wpAnyH_take (i := 10) (v := ?_) rfl (by kernel_rfl) (by kernel_rfl) (by kernel_rfl) (fun _ _ _ h => h) (Or.inl ⟨by rfl, ?_⟩) (by assumption) ?_
    rotate_left
    · (intro W hSw; go_simp; rw [if_neg (by (try simp only [ByteArray.size_append]); first | omega | (simp; omega))])
    simp only [Act.put, List.getElem_toArray, List.getElem_cons_zero, List.getElem_cons_succ, List.setIfInBounds_toArray, List.set_cons_zero, List.set_cons_succ]
    refine wpAnyH_ready (rs := [13]) (by kernel_rfl) (by simp) ?_
    refine (AllReadyH.cons rfl (fun K hK => ?_) AllReadyH.nil)
    go_simp
    go_at_call 80
    refine (HA.out _).mono ?_
    rintro e w13 ⟨rfl, hc13⟩
    have hd13 := bl_trans hd12 hc13
    have hv13 := bl_trans hv12 hc13
    have oA13 := oA12.step hc13
    clear oA12
    refine hK.out _ _ oA13 (fun hHeld2 => ?_)
    clear hK K hHeld
    have hHeld := hHeld2
    clear hHeld2
    try simp only [Act.put, List.getElem_toArray, List.getElem_cons_zero, List.getElem_cons_succ, List.setIfInBounds_toArray, List.set_cons_zero, List.set_cons_succ]
    refine wpAnyH_take (i := 14) (v := ?_) rfl (by kernel_rfl) (by kernel_rfl) (by kernel_rfl) (fun _ _ _ h => h) (Or.inl ⟨by rfl, ?_⟩) (by assumption) ?_
    rotate_left
    · (intro W hSw; go_simp; rw [if_neg (by (try simp only [ByteArray.size_append]); first | omega | (simp; omega))])
    simp only [Act.put, List.getElem_toArray, List.getElem_cons_zero, List.getElem_cons_succ, List.setIfInBounds_toArray, List.set_cons_zero, List.set_cons_succ]
    refine wpAnyH_take (i := 15) (v := ?_) rfl (by kernel_rfl) (by kernel_rfl) (by kernel_rfl) (fun _ _ _ h => h) (Or.inl ⟨by rfl, ?_⟩) (by assumption) ?_
    rotate_left
    · (intro W hSw; skip; go_simp; try with_reducible rfl)
    simp only [Act.put, List.getElem_toArray, List.getElem_cons_zero, List.getElem_cons_succ, List.setIfInBounds_toArray, List.set_cons_zero, List.set_cons_succ]
    refine wpAnyH_done (by kernel_rfl) ?_ _
    go_wp2
    go_ret
    exact ⟨by rw [← hT.out]; first | done | rfl, hd13⟩
set_option maxRecDepth 100000 in
set_option maxHeartbeats 3200000 in
theorem otext17_any (p q r : Int) (A : Option Addr) (n c : Nat) (ss : List Cp) (w : World) (h : Caps w w.heap.size A n ss) (hn : n ≤ 1000) (hs : ∀ s ∈ ss, s.n ≤ 1000) (hp0 : 0 ≤ p ∧ p < 4294967296) (hr0 : 0 ≤ r ∧ r < 4294967296) (ht : Tens w) :
    Calls Tryd.prog 29 #[.agg #[.int .u32 p, .int .i64 q, .int .u32 r, .slice A n c]] w fun e w' => e = .returned (.string (if oOk p q r ss = true then oTx p q r else ⟨#[]⟩)) ∧ Below w.heap.size w w' := by
  have hb0 := bl_alloc (bl_refl w) (.cells #[.int .u32 p, .int .i64 q, .int .u32 r, .slice A n c] 47)
  have o0 := Own.new w 47 #[.int .u32 p, .int .i64 q, .int .u32 r, .slice A n c]
  have hV := Lib.hid (ovalid17_any p q r A n c ss _ (h.step hb0) hn hs hp0 hr0)
  obtain ⟨e0, e1, e2, e3⟩ := own_end o0
  have HQ := Lib.hid (fun (e : oOk p q r ss = true) => oOk_q e)
  have HT := Lib.hid ht
  clear h hn hs ht
  generalize oOk p q r ss = ok at *
  cases ok <;> simp only [if_true, Bool.false_eq_true, if_false]
  · go_enter Tryd.func29, Tryd.ntmps29
    go_wp2_with fail
    refine hV.out.mono ?_
    rintro e w2 ⟨rfl, hb2⟩
    have hb3 := bl_trans hb0 hb2
    have o2 := o0.step hb2
    clear e0 e1 e2 e3 o0 hb0 hb2 hV
    go_wp2
    go_ret
    exact ⟨rfl, hb3⟩
  · go_enter Tryd.func29, Tryd.ntmps29
    go_wp2_with fail
    refine hV.out.mono ?_
    rintro e w2 ⟨rfl, hb2⟩
    have hb3 := bl_trans hb0 hb2
    have o2 := o0.step hb2
    clear e0 e1 e2 e3 o0 hb0 hb2 hV
    have hq := HQ.out (by first | rfl | trivial)
    have wp : IntKind.u64.wrap p = p := by rw [IntKind.wrap_u64]; omega
    have hT : Hid (oTx p q r = joinB [⟨#[111, 112, 101, 110, 32, 97, 115]⟩, decB p, ⟨#[104, 111, 108, 100]⟩, decB q, ⟨#[105, 100]⟩, adrB r] [32]) := Lib.hid rfl
    have HD : Hid (∀ W, Below w.heap.size w W → Calls Tryd.prog 75 #[.int .u64 p, .int .i64 10] W fun e w' => e = .returned (.string (decB p)) ∧ Below W.heap.size W w') := Lib.hid fun W hb => by
      obtain ⟨u, hu⟩ : ∃ u : Nat, p = u := ⟨p.toNat, by omega⟩
      rw [hu]
      exact fmtu_any u (by omega) W (HT.out.below hb)
    have HE := Lib.hid (fun W (hb : Below w.heap.size w W) => itoa_any q hq.1 (by omega) W (HT.out.below hb))
    have HA := Lib.hid (fun W (hb : Below w.heap.size w W) => badr_any r hr0.1 hr0.2 W (HT.out.below hb))
    have s1 := decB_size (n := p) (by omega)
    have s2 := decB_size (n := q) (by omega)
    have s3 := adrB_size r
    generalize decB p = dp at *
    generalize decB q = dq at *
    generalize adrB r = dr at *
    have HS := Lib.hid (And.intro s1 (And.intro s2 s3))
    clear HQ s1 s2 s3
    go_upto_region 3 with fail
    refine wp_region_held_drew (S := (fun X => Own X w.heap.size 47 #[.int .u32 p, .int .i64 q, .int .u32 r, .slice A n c])) (by kernel_rfl) o2.drew (fun hHeld => ?_)
    have hd10 := bl_drewN hb3 1
    have hv10 := bl_drewN (bl_refl w2) 1
    have oA10 := o2.drew
    clear o2 hb3
    refine wpAnyH_take (i := 0) (v := ?_) rfl (by kernel_rfl) (by kernel_rfl) (by kernel_rfl) (fun _ _ _ h => h) (Or.inl ⟨by rfl, ?_⟩) (by assumption) ?_
    rotate_left
    · (intro W hSw; obtain ⟨e0, e1, e2, e3⟩ := own_end hSw; go_simp; try with_reducible rfl)
    simp only [Act.put, List.getElem_toArray, List.getElem_cons_zero, List.setIfInBounds_toArray, List.set_cons_zero, List.set_cons_succ]
    refine wpAnyH_take (i := 1) (v := ?_) rfl (by kernel_rfl) (by kernel_rfl) (by kernel_rfl) (fun _ _ _ h => h) (Or.inl ⟨by rfl, ?_⟩) (by assumption) ?_
    rotate_left
    · (intro W hSw; obtain ⟨e0, e1, e2, e3⟩ := own_end hSw; go_simp; try with_reducible rfl)
    simp only [Act.put, List.getElem_toArray, List.getElem_cons_zero, List.getElem_cons_succ, List.setIfInBounds_toArray, List.set_cons_zero, List.set_cons_succ]
    refine wpAnyH_take (i := 2) (v := ?_) rfl (by kernel_rfl) (by kernel_rfl) (by kernel_rfl) (fun _ _ _ h => h) (Or.inl ⟨by rfl, ?_⟩) (by assumption) ?_
    rotate_left
    · (intro W hSw; obtain ⟨e0, e1, e2, e3⟩ := own_end hSw; go_simp; try with_reducible rfl)
    simp only [Act.put, List.getElem_toArray, List.getElem_cons_zero, List.getElem_cons_succ, List.setIfInBounds_toArray, List.set_cons_zero, List.set_cons_succ]
    refine wpAnyH_take (i := 4) (v := ?_) rfl (by kernel_rfl) (by kernel_rfl) (by kernel_rfl) (fun _ _ _ h => h) (Or.inl ⟨by rfl, ?_⟩) (by assumption) ?_
    rotate_left
    · (intro W hSw; obtain ⟨e0, e1, e2, e3⟩ := own_end hSw; go_simp; try with_reducible rfl)
    simp only [Act.put, List.getElem_toArray, List.getElem_cons_zero, List.getElem_cons_succ, List.setIfInBounds_toArray, List.set_cons_zero, List.set_cons_succ]
    refine wpAnyH_take (i := 5) (v := ?_) rfl (by kernel_rfl) (by kernel_rfl) (by kernel_rfl) (fun _ _ _ h => h) (Or.inl ⟨by rfl, ?_⟩) (by assumption) ?_
    rotate_left
    · (intro W hSw; obtain ⟨e0, e1, e2, e3⟩ := own_end hSw; go_simp; try with_reducible rfl)
    simp only [Act.put, List.getElem_toArray, List.getElem_cons_zero, List.getElem_cons_succ, List.setIfInBounds_toArray, List.set_cons_zero, List.set_cons_succ]
    refine wpAnyH_take (i := 7) (v := ?_) rfl (by kernel_rfl) (by kernel_rfl) (by kernel_rfl) (fun _ _ _ h => h) (Or.inl ⟨by rfl, ?_⟩) (by assumption) ?_
    rotate_left
    · (intro W hSw; obtain ⟨e0, e1, e2, e3⟩ := own_end hSw; go_simp; try with_reducible rfl)
    simp only [Act.put, List.getElem_toArray, List.getElem_cons_zero, List.getElem_cons_succ, List.setIfInBounds_toArray, List.set_cons_zero, List.set_cons_succ]
    refine wpAnyH_take (i := 8) (v := ?_) rfl (by kernel_rfl) (by kernel_rfl) (by kernel_rfl) (fun _ _ _ h => h) (Or.inl ⟨by rfl, ?_⟩) (by assumption) ?_
    rotate_left
    · (intro W hSw; obtain ⟨e0, e1, e2, e3⟩ := own_end hSw; go_simp; try with_reducible rfl)
    simp only [Act.put, List.getElem_toArray, List.getElem_cons_zero, List.getElem_cons_succ, List.setIfInBounds_toArray, List.set_cons_zero, List.set_cons_succ]
    refine wpAnyH_ready (rs := [3]) (by kernel_rfl) (by simp) ?_
    refine (AllReadyH.cons rfl (fun K hK => ?_) AllReadyH.nil)
    go_simp
    go_at_call 75
    refine (HD.out _ hd10).mono ?_
    rintro e w11 ⟨rfl, hc11⟩
    have hd11 := bl_trans hd10 hc11
    have hv11 := bl_trans hv10 hc11
    have oA11 := oA10.step hc11
    clear oA10
    refine hK.out _ _ oA11 (fun hHeld2 => ?_)
    clear hK K hHeld
    have hHeld := hHeld2
    clear hHeld2
    try simp only [Act.put, List.getElem_toArray, List.getElem_cons_zero, List.getElem_cons_succ, List.setIfInBounds_toArray, List.set_cons_zero, List.set_cons_succ]
    refine wpAnyH_ready (rs := [6]) (by kernel_rfl) (by simp) ?_
    refine (AllReadyH.cons rfl (fun K hK => ?_) AllReadyH.nil)
    go_simp
    go_at_call 76
    refine (HE.out _ hd11).mono ?_
    rintro e w12 ⟨rfl, hc12⟩
    have hd12 := bl_trans hd11 hc12
    have hv12 := bl_trans hv11 hc12
    have oA12 := oA11.step hc12
    clear oA11
    refine hK.out _ _ oA12 (fun hHeld2 => ?_)
    clear hK K hHeld
    have hHeld := hHeld2
    clear hHeld2
    try simp only [Act.put, List.getElem_toArray, List.getElem_cons_zero, List.getElem_cons_succ, List.setIfInBounds_toArray, List.set_cons_zero, List.set_cons_succ]
    refine wpAnyH_ready (rs := [9]) (by kernel_rfl) (by simp) ?_
    refine (AllReadyH.cons rfl (fun K hK => ?_) AllReadyH.nil)
    go_simp
    go_at_call 77
    refine (HA.out _ hd12).mono ?_
    rintro e w13 ⟨rfl, hc13⟩
    have hd13 := bl_trans hd12 hc13
    have hv13 := bl_trans hv12 hc13
    have oA13 := oA12.step hc13
    clear oA12
    refine hK.out _ _ oA13 (fun hHeld2 => ?_)
    clear hK K hHeld
    have hHeld := hHeld2
    clear hHeld2
    try simp only [Act.put, List.getElem_toArray, List.getElem_cons_zero, List.getElem_cons_succ, List.setIfInBounds_toArray, List.set_cons_zero, List.set_cons_succ]
    refine wpAnyH_ready (rs := [10]) (by kernel_rfl) (by simp) ?_
    refine (AllReadyH.cons rfl (fun K hK => ?_) AllReadyH.nil)
    go_simp
    have hx := bl_alloc (bl_refl w13) (.cells #[.string ⟨#[111, 112, 101, 110, 32, 97, 115]⟩, .string dp, .string ⟨#[104, 111, 108, 100]⟩, .string dq, .string ⟨#[105, 100]⟩, .string dr] 9)
    have oS := Own.new w13 9 #[.string ⟨#[111, 112, 101, 110, 32, 97, 115]⟩, .string dp, .string ⟨#[104, 111, 108, 100]⟩, .string dq, .string ⟨#[105, 100]⟩, .string dr]
    have oA14 := oA13.step hx
    have hd14 := bl_trans hd13 hx
    generalize hW14 : w13.alloc (.cells #[.string ⟨#[111, 112, 101, 110, 32, 97, 115]⟩, .string dp, .string ⟨#[104, 111, 108, 100]⟩, .string dq, .string ⟨#[105, 100]⟩, .string dr] 9) = w14 at *
    refine hK.out _ _ oA14 (fun hHeld2 => ?_)
    clear hK K hHeld
    have hHeld := hHeld2
    clear hHeld2
    try simp only [Act.put, List.getElem_toArray, List.getElem_cons_zero, List.getElem_cons_succ, List.setIfInBounds_toArray, List.set_cons_zero, List.set_cons_succ]
    refine wpAnyH_take (i := 11) (v := ?_) rfl (by kernel_rfl) (by kernel_rfl) (by kernel_rfl) (fun _ _ _ h => h) (Or.inl ⟨by rfl, ?_⟩) (by assumption) ?_
    rotate_left
    · (intro W hSw; skip; go_simp; try with_reducible rfl)
    simp only [Act.put, List.getElem_toArray, List.getElem_cons_zero, List.getElem_cons_succ, List.setIfInBounds_toArray, List.set_cons_zero, List.set_cons_succ]
    refine wpAnyH_done (by kernel_rfl) ?_ _
    have hJ := Lib.hid (join_row (w := w14) (base := 0) (xs := [⟨#[111, 112, 101, 110, 32, 97, 115]⟩, dp, ⟨#[104, 111, 108, 100]⟩, dq, ⟨#[105, 100]⟩, dr]) 100 ⟨#[32]⟩ (Own.row (cs := [.string ⟨#[111, 112, 101, 110, 32, 97, 115]⟩, .string dp, .string ⟨#[104, 111, 108, 100]⟩, .string dq, .string ⟨#[105, 100]⟩, .string dr]) oS rfl (Nat.zero_le _) (by unfold maxLen; simp)) (by simp) (fun x hx => by
      have hz := HS.out
      simp only [List.mem_cons, List.not_mem_nil, or_false] at hx
      rw [Array.length_toList]
      show x.size ≤ 100
      rcases hx with rfl | rfl | rfl | rfl | rfl | rfl
      · decide
      · omega
      · decide
      · omega
      · decide
      · omega) (by omega) (by simp))
    rw [show (⟨#[32]⟩ : ByteArray).data.toList = [32] from rfl, ← hT.out] at hJ
    clear hW14 hx oS oA14 hd10 hd11 hd12 hd13
    go_wp2_with fail
    refine hJ.out.mono ?_
    rintro e w15 ⟨rfl, hb15⟩
    have hd15 := bl_trans hd14 hb15
    go_wp2
    go_ret
    exact ⟨rfl, hd15⟩
end Go.Proofs.YtniheakafkakhaaDoor

/- peerageref17.Bytes -/
namespace Go.Proofs.YtniheakafkakhaaDoor
open Go.RowKit Go.Sort
theorem Bytes.step {W W' : World} {A : Option Addr} {n : Nat} {xs : List Int} (h : Bytes W W.heap.size A n xs) (hb : Below W.heap.size W W') : Bytes W' W'.heap.size A n xs := h.stp hb
set_option maxRecDepth 100000 in
theorem rof2_any (x : Int) (h0 : 0 ≤ x) (h1 : x < 4294967296) (W : World) : Calls Tryd.prog 59 #[.int .i64 2, .int .u32 x] W fun e w' => ∃ A c, e = .returned (.slice A 2 c) ∧ Bytes w' w'.heap.size A 2 (digitsOf 2 x) ∧ Below W.heap.size W w' := by
  refine (of_any 2 x W (by omega) (by omega) h0 h1).mono ?_
  rintro e w' ⟨v, rfl, ho, hb⟩
  obtain ⟨A, c, rfl⟩ := own_form ho
  exact ⟨A, c, rfl, ⟨by rw [digitsOf_len], digitsOf_range 2 x, Shows.of_own ho⟩, hb⟩
set_option maxRecDepth 100000 in
theorem rof4_any (x : Int) (h0 : 0 ≤ x) (h1 : x < 4294967296) (W : World) : Calls Tryd.prog 59 #[.int .i64 4, .int .u32 x] W fun e w' => ∃ A c, e = .returned (.slice A 4 c) ∧ Bytes w' w'.heap.size A 4 (digitsOf 4 x) ∧ Below W.heap.size W w' := by
  refine (of_any 4 x W (by omega) (by omega) h0 h1).mono ?_
  rintro e w' ⟨v, rfl, ho, hb⟩
  obtain ⟨A, c, rfl⟩ := own_form ho
  exact ⟨A, c, rfl, ⟨by rw [digitsOf_len], digitsOf_range 4 x, Shows.of_own ho⟩, hb⟩
set_option maxRecDepth 100000 in
theorem rocat6 {W : World} {j g0 g1 : Nat} {A2 A3 A4 A6 : Option Addr} {n6 c2 c3 c4 c6 : Nat} {num q r : Int} {P : List Int} (o0 : Own W g0 5 #[.int .u8 4]) (o1 : Own W g1 5 #[.int .u8 n6]) (h2 : Bytes W W.heap.size A2 2 (digitsOf 2 num)) (h3 : Bytes W W.heap.size A3 2 (digitsOf 2 q)) (h4 : Bytes W W.heap.size A4 4 (digitsOf 4 r)) (h6 : Bytes W W.heap.size A6 n6 P) (hP : n6 ≤ 255) (ho : Own W j 43 #[.slice (some ⟨g0, 0, none⟩) 1 1, .slice A2 2 c2, .slice A3 2 c3, .slice A4 4 c4, .slice (some ⟨g1, 0, none⟩) 1 1, .slice A6 n6 c6]) :
    Calls Tryd.prog 74 #[.slice (some ⟨j, 0, none⟩) 6 6] W fun e w' => ∃ B d, e = .returned (.slice B (oFormK num q r P).length d) ∧ Bytes w' w'.heap.size B (oFormK num q r P).length (oFormK num q r P) ∧ Below W.heap.size W w' := by
  have hpt := parts_six (c1 := 1) (c5 := 1) ho (Bytes.of_owned (xs := [4]) o0 (by intro x hx; rw [List.mem_singleton] at hx; omega) o0.lt) h2 h3 h4 (Bytes.of_owned (xs := [(n6 : Int)]) o1 (by intro x hx; rw [List.mem_singleton] at hx; omega) o1.lt) h6
  have hn6 : n6 = P.length := h6.1
  have hfl : flat [⟨some ⟨g0, 0, none⟩, 1, 1, [4]⟩, ⟨A2, 2, c2, digitsOf 2 num⟩, ⟨A3, 2, c3, digitsOf 2 q⟩, ⟨A4, 4, c4, digitsOf 4 r⟩, ⟨some ⟨g1, 0, none⟩, 1, 1, [(n6 : Int)]⟩, ⟨A6, n6, c6, P⟩] = oFormK num q r P := by simp [flat, oFormK, hn6]
  have hlen : (oFormK num q r P).length ≤ 1000 := by
    unfold oFormK
    rw [List.length_append, List.length_append, List.length_append, List.length_append, List.length_append, digitsOf_len, digitsOf_len, digitsOf_len]
    simp
    omega
  refine (rcat_any _ 6 6 _ W hpt (by omega) (by rw [hfl]; omega)).mono ?_
  rintro e w' ⟨v, rfl, ho2, hb⟩
  rw [hfl] at ho2
  obtain ⟨B, d, rfl⟩ := own_form ho2
  refine ⟨B, d, rfl, ⟨rfl, ?_, Shows.of_own ho2⟩, hb⟩
  intro y hy
  rw [← hfl] at hy
  obtain ⟨z, hz, hyz⟩ := List.mem_flatMap.1 hy
  exact (hpt.2.1 z hz).2.1 y hyz
theorem oNum_okB {p : Int} (h : 0 ≤ p) : 0 ≤ oNum p ∧ oNum p ≤ 65535 := by
  unfold oNum
  split <;> omega
theorem cpsForm_nil {ss : List Cp} (h : (cpsForm ss).length = 0) : ss = [] := by
  cases ss with
  | nil => rfl
  | cons s t => unfold cpsForm at h; rw [List.flatMap_cons] at h; unfold cpForm at h; simp at h
set_option maxRecDepth 100000 in
set_option maxHeartbeats 12800000 in
theorem rbytes17_any (p q r : Int) (A : Option Addr) (n c : Nat) (ss : List Cp) (w : World) (h : Caps w w.heap.size A n ss) (hn : n ≤ 1000) (hs : ∀ s ∈ ss, s.n ≤ 1000) (hp0 : 0 ≤ p ∧ p < 4294967296) (hr0 : 0 ≤ r ∧ r < 4294967296) :
    Calls Tryd.prog 26 #[.agg #[.int .u32 p, .int .i64 q, .int .u32 r, .slice A n c]] w fun e w' => OBytesR p q r ss w e w' := by
  have hb0 := bl_alloc (bl_refl w) (.cells #[.int .u32 p, .int .i64 q, .int .u32 r, .slice A n c] 41)
  have o0 := Own.new w 41 #[.int .u32 p, .int .i64 q, .int .u32 r, .slice A n c]
  have hV := Lib.hid (rvalid17_ex p q r A n c ss _ (h.step hb0) hn hs)
  have HC := Lib.hid (h.step hb0)
  obtain ⟨e0, e1, e2, e3⟩ := own_end o0
  cases hok : oOk p q r ss
  · rw [hok] at hV
    have HOK := Lib.hid hok
    clear h hn hs hp0 hr0 hok HC
    go_enter Tryd.func26, Tryd.ntmps26
    go_wp2_with fail
    refine hV.out.mono ?_
    rintro e w2 ⟨rfl, hb2⟩
    go_wp2
    go_ret2
    exact obytesR_no HOK.out (bl_trans hb0 hb2)
  · rw [hok] at hV
    have HOK := Lib.hid hok
    have hq := oOk_q hok
    have hsp : ss.all cpOk = true ∧ (cpsForm ss).length ≤ 253 := by
      unfold oOk at hok
      rw [Bool.and_eq_true, Bool.and_eq_true, decide_eq_true_iff] at hok
      exact ⟨hok.1, hok.2.1⟩
    have HSP := Lib.hid hsp
    have HB := Lib.hid (fun W (hW : Below (w.alloc (.cells #[.int .u32 p, .int .i64 q, .int .u32 r, .slice A n c] 41)).heap.size (w.alloc (.cells #[.int .u32 p, .int .i64 q, .int .u32 r, .slice A n c] 41)) W) => rcbytes_any A n c ss W (HC.out.step hW) hn hs)
    have HPR := Lib.hid (And.intro hp0 hr0)
    clear h hn hs hok hsp HC
    go_enter Tryd.func26, Tryd.ntmps26
    go_wp2_with fail
    refine hV.out.mono ?_
    rintro e w2 ⟨rfl, hb2⟩
    have hb3 := bl_trans hb0 hb2
    have o2 := o0.step hb2
    have hcB := Lib.hid (HB.out w2 hb2)
    unfold CBytesR at hcB
    rw [HSP.out.1] at hcB
    simp only [if_true] at hcB
    clear e0 e1 e2 e3 o0 hb0 hb2 hV HB
    obtain ⟨e0, e1, e2, e3⟩ := own_end o2
    go_upto_if 14 with fail
    go_cut [4] (fun v4 wx => v4 = .int .u32 (oNum p) ∧ wx = w2)
    case first =>
      by_cases hbig : 65535 < p
      · have d2 : decide (65535 < p) = true := decide_eq_true hbig
        have hm := Lib.hid (show oNum p = 23456 by unfold oNum; rw [if_pos hbig])
        go_wp2_with fail
        go_meet
        exact ⟨by rw [hm.out], rfl⟩
      · have d2 : decide (65535 < p) = false := decide_eq_false hbig
        have hm := Lib.hid (show oNum p = p by unfold oNum; rw [if_neg hbig])
        have hp5 : p ≤ 65535 := by omega
        go_wp2_with fail
        go_meet
        exact ⟨by rw [hm.out], rfl⟩
    case rest =>
    obtain ⟨wk, hwk⟩ : ∃ z, z = wc := ⟨_, rfl⟩
    subst hwk
    obtain ⟨rfl, hwz⟩ := hcut
    rw [hwz]
    clear hwz
    go_wp2_with fail
    refine hcB.out.mono ?_
    rintro e w3 ⟨A2, n2, c2, rfl, hB2, hc2, hb4⟩
    have o3 := o2.step hb4
    have hb5 := bl_trans hb3 hb4
    have hn2 : n2 = (cpsForm ss).length := hB2.1
    have hn253 : n2 ≤ 253 := by have := HSP.out.2; omega
    have HB2 := Lib.hid hB2
    have HN2 := Lib.hid hn2
    clear hn2 e0 e1 e2 e3 o2 hb3 hb4 hB2 hcB
    go_upto_if 23 with fail
    go_cut [7] (fun v7 wx => ∃ A3 n3 c3, v7 = .slice A3 n3 c3 ∧ n3 ≤ 255 ∧ Bytes wx wx.heap.size A3 n3 (oPar ss) ∧ Below w3.heap.size w3 wx)
    case first =>
      clear o3 hb5
      by_cases h0 : n2 = 0
      · have hP := Lib.hid (show oPar ss = [] by unfold oPar; rw [if_pos (cpsForm_nil (by have := HN2.out; omega))])
        subst h0
        go_wp2_with fail
        go_meet
        exact ⟨none, 0, 0, rfl, by omega, by rw [hP.out]; exact Bytes.nil _ _ _, bl_refl _⟩
      · have hP := Lib.hid (show oPar ss = 2 :: (n2 : Int) :: cpsForm ss by
          unfold oPar
          rw [if_neg (fun e => h0 (by rw [HN2.out, e]; rfl)), HN2.out])
        have i0 : (0 : Int) < (n2 : Int) := by omega
        have i1 : decide ((0 : Int) < (n2 : Int)) = true := decide_eq_true i0
        have i2 : 0 < n2 := by omega
        have wn : IntKind.u8.wrap (n2 : Int) = (n2 : Int) := by rw [IntKind.wrap_u8]; omega
        have wm : (n2 : Int) % 256 = (n2 : Int) := by omega
        have hba := bl_alloc (bl_refl w3) (.cells #[.int .u8 2, .int .u8 n2] 5)
        have HROW := Lib.hid (Own.row (n := 2) (base := w3.heap.size) (cs := [.int .u8 2, .int .u8 n2]) (Own.new w3 5 #[.int .u8 2, .int .u8 n2]) rfl (Nat.le_refl _) (by unfold maxLen; omega))
        have HSH := Lib.hid (HB2.out.below hba)
        have HBA := Lib.hid hba
        have HLN := Lib.hid (show ((cpsForm ss).map (Value.int .u8)).length = n2 * 1 by rw [List.length_map, ← HN2.out, Nat.mul_one])
        clear hba
        go_wp2_with (at_builtin; refine wpList_append_grow _ rfl _ _ rfl sl_bytes w3.heap.size _ 2 [.int .u8 2, .int .u8 n2] rfl HROW.out w3.heap.size A2 n2 c2 ((cpsForm ss).map (Value.int .u8)) rfl HLN.out HSH.out.2.2 (one8 _) (by unfold maxLen; omega) (by omega) (by simp) ?_; intro v6 w6 hrow6 hg6; obtain ⟨A3, c3, rfl⟩ := own_form hrow6; have HR6 := Lib.hid hrow6; have HB6 := Lib.hid (HBA.out.grown hg6 (by simp) (fun k hk => by cases hk; exact Nat.le_refl _)); clear hrow6 hg6)
        go_meet
        refine ⟨A3, 2 + n2, c3, rfl, by omega, ?_, HB6.out⟩
        rw [hP.out]
        refine ⟨by simp only [List.length_cons]; have := HSH.out.1; omega, ?_, Shows.of_own HR6.out⟩
        intro x hx
        rcases List.mem_cons.1 hx with rfl | hx
        · omega
        · rcases List.mem_cons.1 hx with rfl | hx
          · omega
          · exact HSH.out.2.1 x hx
    case rest =>
    obtain ⟨wd, hwd⟩ : ∃ z, z = wc := ⟨_, rfl⟩
    subst hwd
    obtain ⟨A6, n6, c6, rfl, hn6, hB6, hb6⟩ := hcut
    have o4 := o3.step hb6
    have hb7 := bl_trans hb5 hb6
    have HB6 := Lib.hid hB6
    have hon := oNum_okB HPR.out.1.1
    have cO1 := Lib.hid (fun W => rof2_any (oNum p) hon.1 (by omega) W)
    have cO2 := Lib.hid (fun W => rof2_any q hq.1 (by omega) W)
    have cO3 := Lib.hid (fun W => rof4_any r HPR.out.2.1 HPR.out.2.2 W)
    have wn2 : (n6 : Int) % 256 = (n6 : Int) := by omega
    have wq2 : q % 4294967296 = q := by omega
    have wq : IntKind.u32.wrap q = q := by rw [IntKind.wrap_u32]; omega
    have wn : IntKind.u8.wrap (n6 : Int) = (n6 : Int) := by rw [IntKind.wrap_u8]; omega
    obtain ⟨num, hnum⟩ : ∃ z, oNum p = z := ⟨_, rfl⟩
    have HM := Lib.hid hnum
    clear o3 hb5 hb6 hB6 hon HB2 HN2 hc2 hn253
    rw [hnum] at cO1
    rw [hnum]
    clear hnum
    go_upto_region 10 with fail
    refine wp_region_held_drew (S := (fun X => Own X w.heap.size 41 #[.int .u32 p, .int .i64 q, .int .u32 r, .slice A n c])) (by kernel_rfl) o4.drew (fun hHeld => ?_)
    have oA0 := o4.drew
    have bb0 : Below wd.heap.size wd wd.drew := bl_drewN (bl_refl wd) 1
    generalize wd.drew = Y0 at *
    refine wpAnyH_take (i := 1) (v := ?_) rfl (by kernel_rfl) (by kernel_rfl) (by kernel_rfl) (fun _ _ _ h => h) (Or.inl ⟨by rfl, ?_⟩) (by assumption) ?_
    rotate_left
    · (intro W hSw; obtain ⟨e0, e1, e2, e3⟩ := own_end hSw; go_simp; try with_reducible rfl)
    simp only [Act.put, List.getElem_toArray, List.getElem_cons_zero, List.getElem_cons_succ, List.setIfInBounds_toArray, List.set_cons_zero, List.set_cons_succ]
    refine wpAnyH_take (i := 3) (v := ?_) rfl (by kernel_rfl) (by kernel_rfl) (by kernel_rfl) (fun _ _ _ h => h) (Or.inl ⟨by rfl, ?_⟩) (by assumption) ?_
    rotate_left
    · (intro W hSw; obtain ⟨e0, e1, e2, e3⟩ := own_end hSw; go_simp; try with_reducible rfl)
    simp only [Act.put, List.getElem_toArray, List.getElem_cons_zero, List.getElem_cons_succ, List.setIfInBounds_toArray, List.set_cons_zero, List.set_cons_succ]
    refine wpAnyH_take (i := 4) (v := ?_) rfl (by kernel_rfl) (by kernel_rfl) (by kernel_rfl) (fun _ _ _ h => h) (Or.inl ⟨by rfl, ?_⟩) (by assumption) ?_
    rotate_left
    · (intro W hSw; obtain ⟨e0, e1, e2, e3⟩ := own_end hSw; go_simp; try with_reducible rfl)
    simp only [Act.put, List.getElem_toArray, List.getElem_cons_zero, List.getElem_cons_succ, List.setIfInBounds_toArray, List.set_cons_zero, List.set_cons_succ]
    refine wpAnyH_take (i := 5) (v := ?_) rfl (by kernel_rfl) (by kernel_rfl) (by kernel_rfl) (fun _ _ _ h => h) (Or.inl ⟨by rfl, ?_⟩) (by assumption) ?_
    rotate_left
    · (intro W hSw; obtain ⟨e0, e1, e2, e3⟩ := own_end hSw; go_simp; try with_reducible rfl)
    simp only [Act.put, List.getElem_toArray, List.getElem_cons_zero, List.getElem_cons_succ, List.setIfInBounds_toArray, List.set_cons_zero, List.set_cons_succ]
    refine wpAnyH_take (i := 7) (v := ?_) rfl (by kernel_rfl) (by kernel_rfl) (by kernel_rfl) (fun _ _ _ h => h) (Or.inl ⟨by rfl, ?_⟩) (by assumption) ?_
    rotate_left
    · (intro W hSw; obtain ⟨e0, e1, e2, e3⟩ := own_end hSw; go_simp; try with_reducible rfl)
    simp only [Act.put, List.getElem_toArray, List.getElem_cons_zero, List.getElem_cons_succ, List.setIfInBounds_toArray, List.set_cons_zero, List.set_cons_succ]
    refine wpAnyH_take (i := 8) (v := ?_) rfl (by kernel_rfl) (by kernel_rfl) (by kernel_rfl) (fun _ _ _ h => h) (Or.inl ⟨by rfl, ?_⟩) (by assumption) ?_
    rotate_left
    · (intro W hSw; obtain ⟨e0, e1, e2, e3⟩ := own_end hSw; go_simp; try with_reducible rfl)
    simp only [Act.put, List.getElem_toArray, List.getElem_cons_zero, List.getElem_cons_succ, List.setIfInBounds_toArray, List.set_cons_zero, List.set_cons_succ]
    refine wpAnyH_take (i := 10) (v := ?_) rfl (by kernel_rfl) (by kernel_rfl) (by kernel_rfl) (fun _ _ _ h => h) (Or.inl ⟨by rfl, ?_⟩) (by assumption) ?_
    rotate_left
    · (intro W hSw; obtain ⟨e0, e1, e2, e3⟩ := own_end hSw; go_simp; try with_reducible rfl)
    simp only [Act.put, List.getElem_toArray, List.getElem_cons_zero, List.getElem_cons_succ, List.setIfInBounds_toArray, List.set_cons_zero, List.set_cons_succ]
    refine wpAnyH_take (i := 11) (v := ?_) rfl (by kernel_rfl) (by kernel_rfl) (by kernel_rfl) (fun _ _ _ h => h) (Or.inl ⟨by rfl, ?_⟩) (by assumption) ?_
    rotate_left
    · (intro W hSw; obtain ⟨e0, e1, e2, e3⟩ := own_end hSw; go_simp; try with_reducible rfl)
    simp only [Act.put, List.getElem_toArray, List.getElem_cons_zero, List.getElem_cons_succ, List.setIfInBounds_toArray, List.set_cons_zero, List.set_cons_succ]
    refine wpAnyH_take (i := 12) (v := ?_) rfl (by kernel_rfl) (by kernel_rfl) (by kernel_rfl) (fun _ _ _ h => h) (Or.inl ⟨by rfl, ?_⟩) (by assumption) ?_
    rotate_left
    · (intro W hSw; obtain ⟨e0, e1, e2, e3⟩ := own_end hSw; go_simp; try with_reducible rfl)
    simp only [Act.put, List.getElem_toArray, List.getElem_cons_zero, List.getElem_cons_succ, List.setIfInBounds_toArray, List.set_cons_zero, List.set_cons_succ]
    refine wpAnyH_take (i := 14) (v := ?_) rfl (by kernel_rfl) (by kernel_rfl) (by kernel_rfl) (fun _ _ _ h => h) (Or.inl ⟨by rfl, ?_⟩) (by assumption) ?_
    rotate_left
    · (intro W hSw; obtain ⟨e0, e1, e2, e3⟩ := own_end hSw; go_simp; try with_reducible rfl)
    simp only [Act.put, List.getElem_toArray, List.getElem_cons_zero, List.getElem_cons_succ, List.setIfInBounds_toArray, List.set_cons_zero, List.set_cons_succ]
    refine wpAnyH_ready (rs := [0, 2, 13]) (by kernel_rfl) (by simp) ?_
    refine (AllReadyH.cons rfl (fun K hK => ?_) (AllReadyH.cons rfl (fun K hK => ?_) (AllReadyH.cons rfl (fun K hK => ?_) AllReadyH.nil)))
    · go_simp
      have hx1 := bl_alloc (bl_refl Y0) (.cells #[.int .u8 4] 5)
      have b0_1 := Own.new Y0 5 #[.int .u8 4]
      have hlo1 := bb0.size
      have hloA1 := oA0.lt
      have oA1 := oA0.step hx1
      have bb1 := bl_trans bb0 hx1
      generalize hgx1 : (Y0.alloc (.cells #[.int .u8 4] 5)) = W1 at *
      clear hgx1
      refine hK.out _ _ oA1 (fun hHeld2 => ?_)
      clear hK K hHeld
      have hHeld := hHeld2
      clear hHeld2
      try simp only [Act.put, List.getElem_toArray, List.getElem_cons_zero, List.getElem_cons_succ, List.setIfInBounds_toArray, List.set_cons_zero, List.set_cons_succ]
      refine wpAnyH_ready (rs := [2, 13]) (by kernel_rfl) (by simp) ?_
      refine (AllReadyH.cons rfl (fun K hK => ?_) (AllReadyH.cons rfl (fun K hK => ?_) AllReadyH.nil))
      · go_simp
        go_at_call 59
        refine (cO1.out W1).mono ?_
        rintro e W2 ⟨A2_, d2_, rfl, h2_2, hx2⟩
        have oA2 := oA1.step hx2
        have b0_2 := b0_1.step hx2
        have bb2 := bl_trans bb1 hx2
        refine hK.out _ _ oA2 (fun hHeld2 => ?_)
        clear hK K hHeld
        have hHeld := hHeld2
        clear hHeld2
        try simp only [Act.put, List.getElem_toArray, List.getElem_cons_zero, List.getElem_cons_succ, List.setIfInBounds_toArray, List.set_cons_zero, List.set_cons_succ]
        refine wpAnyH_ready (rs := [6, 13]) (by kernel_rfl) (by simp) ?_
        refine (AllReadyH.cons rfl (fun K hK => ?_) (AllReadyH.cons rfl (fun K hK => ?_) AllReadyH.nil))
        · go_simp
          go_at_call 59
          refine (cO2.out W2).mono ?_
          rintro e W3 ⟨A3_, d3_, rfl, h3_3, hx3⟩
          have oA3 := oA2.step hx3
          have h2_3 := h2_2.step hx3
          have b0_3 := b0_2.step hx3
          have bb3 := bl_trans bb2 hx3
          refine hK.out _ _ oA3 (fun hHeld2 => ?_)
          clear hK K hHeld
          have hHeld := hHeld2
          clear hHeld2
          try simp only [Act.put, List.getElem_toArray, List.getElem_cons_zero, List.getElem_cons_succ, List.setIfInBounds_toArray, List.set_cons_zero, List.set_cons_succ]
          refine wpAnyH_ready (rs := [9, 13]) (by kernel_rfl) (by simp) ?_
          refine (AllReadyH.cons rfl (fun K hK => ?_) (AllReadyH.cons rfl (fun K hK => ?_) AllReadyH.nil))
          · go_simp
            go_at_call 59
            refine (cO3.out W3).mono ?_
            rintro e W4 ⟨A4_, d4_, rfl, h4_4, hx4⟩
            have oA4 := oA3.step hx4
            have h2_4 := h2_3.step hx4
            have h3_4 := h3_3.step hx4
            have b0_4 := b0_3.step hx4
            have bb4 := bl_trans bb3 hx4
            refine hK.out _ _ oA4 (fun hHeld2 => ?_)
            clear hK K hHeld
            have hHeld := hHeld2
            clear hHeld2
            try simp only [Act.put, List.getElem_toArray, List.getElem_cons_zero, List.getElem_cons_succ, List.setIfInBounds_toArray, List.set_cons_zero, List.set_cons_succ]
            refine wpAnyH_ready (rs := [13]) (by kernel_rfl) (by simp) ?_
            refine (AllReadyH.cons rfl (fun K hK => ?_) AllReadyH.nil)
            go_simp
            have hx5 := bl_alloc (bl_refl W4) (.cells #[.int .u8 n6] 5)
            have b1_5 := Own.new W4 5 #[.int .u8 n6]
            have hne5_0 : Y0.heap.size ≠ W4.heap.size := by have := b0_4.lt; omega
            have hlo5 := bb4.size
            have hloA5 := oA4.lt
            have oA5 := oA4.step hx5
            have h2_5 := h2_4.step hx5
            have h3_5 := h3_4.step hx5
            have h4_5 := h4_4.step hx5
            have b0_5 := b0_4.step hx5
            have bb5 := bl_trans bb4 hx5
            generalize hgx5 : (W4.alloc (.cells #[.int .u8 n6] 5)) = W5 at *
            clear hgx5
            refine hK.out _ _ oA5 (fun hHeld2 => ?_)
            clear hK K hHeld
            have hHeld := hHeld2
            clear hHeld2
            try simp only [Act.put, List.getElem_toArray, List.getElem_cons_zero, List.getElem_cons_succ, List.setIfInBounds_toArray, List.set_cons_zero, List.set_cons_succ]
            refine wpAnyH_ready (rs := [15]) (by kernel_rfl) (by simp) ?_
            refine (AllReadyH.cons rfl (fun K hK => ?_) AllReadyH.nil)
            go_simp
            have hx := bl_alloc (bl_refl W5) (.cells #[.slice (some ⟨Y0.heap.size, 0, none⟩) 1 1, .slice A2_ 2 d2_, .slice A3_ 2 d3_, .slice A4_ 4 d4_, .slice (some ⟨W4.heap.size, 0, none⟩) 1 1, .slice A6 n6 c6] 43)
            have oj := Own.new W5 43 #[.slice (some ⟨Y0.heap.size, 0, none⟩) 1 1, .slice A2_ 2 d2_, .slice A3_ 2 d3_, .slice A4_ 4 d4_, .slice (some ⟨W4.heap.size, 0, none⟩) 1 1, .slice A6 n6 c6]
            have hct := Lib.hid (rocat6 (b0_5.step hx) (b1_5.step hx) (h2_5.step hx) (h3_5.step hx) (h4_5.step hx) ((HB6.out.step bb5).step hx) hn6 oj)
            have hdz := bl_trans (bl_trans hb7 bb5) hx
            have oAz := oA5.step hx
            generalize W5.alloc (.cells #[.slice (some ⟨Y0.heap.size, 0, none⟩) 1 1, .slice A2_ 2 d2_, .slice A3_ 2 d3_, .slice A4_ 4 d4_, .slice (some ⟨W4.heap.size, 0, none⟩) 1 1, .slice A6 n6 c6] 43) = Wz at *
            refine hK.out _ _ oAz (fun hHeld2 => ?_)
            clear hK K hHeld
            have hHeld := hHeld2
            clear hHeld2
            try simp only [Act.put, List.getElem_toArray, List.getElem_cons_zero, List.getElem_cons_succ, List.setIfInBounds_toArray, List.set_cons_zero, List.set_cons_succ]
            refine wpAnyH_ready (rs := [16]) (by kernel_rfl) (by simp) ?_
            refine (AllReadyH.cons rfl (fun K hK => ?_) AllReadyH.nil)
            go_simp
            go_at_call 74
            refine hct.out.mono ?_
            rintro e wz ⟨Bz, dz, rfl, hxz, hbz⟩
            have hdy := bl_trans hdz hbz
            have oAy := oAz.step hbz
            refine hK.out _ _ oAy (fun hHeld2 => ?_)
            clear hK K hHeld
            have hHeld := hHeld2
            clear hHeld2
            try simp only [Act.put, List.getElem_toArray, List.getElem_cons_zero, List.getElem_cons_succ, List.setIfInBounds_toArray, List.set_cons_zero, List.set_cons_succ]
            refine wpAnyH_take (i := 17) (v := ?_) rfl (by kernel_rfl) (by kernel_rfl) (by kernel_rfl) (fun _ _ _ h => h) (Or.inl ⟨by rfl, ?_⟩) (by assumption) ?_
            rotate_left
            · (intro W hSw; skip; go_simp; try with_reducible rfl)
            simp only [Act.put, List.getElem_toArray, List.getElem_cons_zero, List.getElem_cons_succ, List.setIfInBounds_toArray, List.set_cons_zero, List.set_cons_succ]
            refine wpAnyH_take (i := 18) (v := ?_) rfl (by kernel_rfl) (by kernel_rfl) (by kernel_rfl) (fun _ _ _ h => h) (Or.inl ⟨by rfl, ?_⟩) (by assumption) ?_
            rotate_left
            · (intro W hSw; skip; go_simp; try with_reducible rfl)
            simp only [Act.put, List.getElem_toArray, List.getElem_cons_zero, List.getElem_cons_succ, List.setIfInBounds_toArray, List.set_cons_zero, List.set_cons_succ]
            refine wpAnyH_done (by kernel_rfl) ?_ _
            clear hct
            go_wp2
            go_ret2
            exact obytesR_yes HOK.out HM.out rfl hxz hdy
          · go_simp
            have hx6 := bl_alloc (bl_refl W3) (.cells #[.int .u8 n6] 5)
            have b1_6 := Own.new W3 5 #[.int .u8 n6]
            have hne6_0 : Y0.heap.size ≠ W3.heap.size := by have := b0_3.lt; omega
            have hlo6 := bb3.size
            have hloA6 := oA3.lt
            have oA6 := oA3.step hx6
            have h2_6 := h2_3.step hx6
            have h3_6 := h3_3.step hx6
            have b0_6 := b0_3.step hx6
            have bb6 := bl_trans bb3 hx6
            generalize hgx6 : (W3.alloc (.cells #[.int .u8 n6] 5)) = W6 at *
            clear hgx6
            refine hK.out _ _ oA6 (fun hHeld2 => ?_)
            clear hK K hHeld
            have hHeld := hHeld2
            clear hHeld2
            try simp only [Act.put, List.getElem_toArray, List.getElem_cons_zero, List.getElem_cons_succ, List.setIfInBounds_toArray, List.set_cons_zero, List.set_cons_succ]
            refine wpAnyH_ready (rs := [9]) (by kernel_rfl) (by simp) ?_
            refine (AllReadyH.cons rfl (fun K hK => ?_) AllReadyH.nil)
            go_simp
            go_at_call 59
            refine (cO3.out W6).mono ?_
            rintro e W7 ⟨A4_, d4_, rfl, h4_7, hx7⟩
            have oA7 := oA6.step hx7
            have h2_7 := h2_6.step hx7
            have h3_7 := h3_6.step hx7
            have b0_7 := b0_6.step hx7
            have b1_7 := b1_6.step hx7
            have bb7 := bl_trans bb6 hx7
            refine hK.out _ _ oA7 (fun hHeld2 => ?_)
            clear hK K hHeld
            have hHeld := hHeld2
            clear hHeld2
            try simp only [Act.put, List.getElem_toArray, List.getElem_cons_zero, List.getElem_cons_succ, List.setIfInBounds_toArray, List.set_cons_zero, List.set_cons_succ]
            refine wpAnyH_ready (rs := [15]) (by kernel_rfl) (by simp) ?_
            refine (AllReadyH.cons rfl (fun K hK => ?_) AllReadyH.nil)
            go_simp
            have hx := bl_alloc (bl_refl W7) (.cells #[.slice (some ⟨Y0.heap.size, 0, none⟩) 1 1, .slice A2_ 2 d2_, .slice A3_ 2 d3_, .slice A4_ 4 d4_, .slice (some ⟨W3.heap.size, 0, none⟩) 1 1, .slice A6 n6 c6] 43)
            have oj := Own.new W7 43 #[.slice (some ⟨Y0.heap.size, 0, none⟩) 1 1, .slice A2_ 2 d2_, .slice A3_ 2 d3_, .slice A4_ 4 d4_, .slice (some ⟨W3.heap.size, 0, none⟩) 1 1, .slice A6 n6 c6]
            have hct := Lib.hid (rocat6 (b0_7.step hx) (b1_7.step hx) (h2_7.step hx) (h3_7.step hx) (h4_7.step hx) ((HB6.out.step bb7).step hx) hn6 oj)
            have hdz := bl_trans (bl_trans hb7 bb7) hx
            have oAz := oA7.step hx
            generalize W7.alloc (.cells #[.slice (some ⟨Y0.heap.size, 0, none⟩) 1 1, .slice A2_ 2 d2_, .slice A3_ 2 d3_, .slice A4_ 4 d4_, .slice (some ⟨W3.heap.size, 0, none⟩) 1 1, .slice A6 n6 c6] 43) = Wz at *
            refine hK.out _ _ oAz (fun hHeld2 => ?_)
            clear hK K hHeld
            have hHeld := hHeld2
            clear hHeld2
            try simp only [Act.put, List.getElem_toArray, List.getElem_cons_zero, List.getElem_cons_succ, List.setIfInBounds_toArray, List.set_cons_zero, List.set_cons_succ]
            refine wpAnyH_ready (rs := [16]) (by kernel_rfl) (by simp) ?_
            refine (AllReadyH.cons rfl (fun K hK => ?_) AllReadyH.nil)
            go_simp
            go_at_call 74
            refine hct.out.mono ?_
            rintro e wz ⟨Bz, dz, rfl, hxz, hbz⟩
            have hdy := bl_trans hdz hbz
            have oAy := oAz.step hbz
            refine hK.out _ _ oAy (fun hHeld2 => ?_)
            clear hK K hHeld
            have hHeld := hHeld2
            clear hHeld2
            try simp only [Act.put, List.getElem_toArray, List.getElem_cons_zero, List.getElem_cons_succ, List.setIfInBounds_toArray, List.set_cons_zero, List.set_cons_succ]
            refine wpAnyH_take (i := 17) (v := ?_) rfl (by kernel_rfl) (by kernel_rfl) (by kernel_rfl) (fun _ _ _ h => h) (Or.inl ⟨by rfl, ?_⟩) (by assumption) ?_
            rotate_left
            · (intro W hSw; skip; go_simp; try with_reducible rfl)
            simp only [Act.put, List.getElem_toArray, List.getElem_cons_zero, List.getElem_cons_succ, List.setIfInBounds_toArray, List.set_cons_zero, List.set_cons_succ]
            refine wpAnyH_take (i := 18) (v := ?_) rfl (by kernel_rfl) (by kernel_rfl) (by kernel_rfl) (fun _ _ _ h => h) (Or.inl ⟨by rfl, ?_⟩) (by assumption) ?_
            rotate_left
            · (intro W hSw; skip; go_simp; try with_reducible rfl)
            simp only [Act.put, List.getElem_toArray, List.getElem_cons_zero, List.getElem_cons_succ, List.setIfInBounds_toArray, List.set_cons_zero, List.set_cons_succ]
            refine wpAnyH_done (by kernel_rfl) ?_ _
            clear hct
            go_wp2
            go_ret2
            exact obytesR_yes HOK.out HM.out rfl hxz hdy
        · go_simp
          have hx8 := bl_alloc (bl_refl W2) (.cells #[.int .u8 n6] 5)
          have b1_8 := Own.new W2 5 #[.int .u8 n6]
          have hne8_0 : Y0.heap.size ≠ W2.heap.size := by have := b0_2.lt; omega
          have hlo8 := bb2.size
          have hloA8 := oA2.lt
          have oA8 := oA2.step hx8
          have h2_8 := h2_2.step hx8
          have b0_8 := b0_2.step hx8
          have bb8 := bl_trans bb2 hx8
          generalize hgx8 : (W2.alloc (.cells #[.int .u8 n6] 5)) = W8 at *
          clear hgx8
          refine hK.out _ _ oA8 (fun hHeld2 => ?_)
          clear hK K hHeld
          have hHeld := hHeld2
          clear hHeld2
          try simp only [Act.put, List.getElem_toArray, List.getElem_cons_zero, List.getElem_cons_succ, List.setIfInBounds_toArray, List.set_cons_zero, List.set_cons_succ]
          refine wpAnyH_ready (rs := [6]) (by kernel_rfl) (by simp) ?_
          refine (AllReadyH.cons rfl (fun K hK => ?_) AllReadyH.nil)
          go_simp
          go_at_call 59
          refine (cO2.out W8).mono ?_
          rintro e W9 ⟨A3_, d3_, rfl, h3_9, hx9⟩
          have oA9 := oA8.step hx9
          have h2_9 := h2_8.step hx9
          have b0_9 := b0_8.step hx9
          have b1_9 := b1_8.step hx9
          have bb9 := bl_trans bb8 hx9
          refine hK.out _ _ oA9 (fun hHeld2 => ?_)
          clear hK K hHeld
          have hHeld := hHeld2
          clear hHeld2
          try simp only [Act.put, List.getElem_toArray, List.getElem_cons_zero, List.getElem_cons_succ, List.setIfInBounds_toArray, List.set_cons_zero, List.set_cons_succ]
          refine wpAnyH_ready (rs := [9]) (by kernel_rfl) (by simp) ?_
          refine (AllReadyH.cons rfl (fun K hK => ?_) AllReadyH.nil)
          go_simp
          go_at_call 59
          refine (cO3.out W9).mono ?_
          rintro e W10 ⟨A4_, d4_, rfl, h4_10, hx10⟩
          have oA10 := oA9.step hx10
          have h2_10 := h2_9.step hx10
          have h3_10 := h3_9.step hx10
          have b0_10 := b0_9.step hx10
          have b1_10 := b1_9.step hx10
          have bb10 := bl_trans bb9 hx10
          refine hK.out _ _ oA10 (fun hHeld2 => ?_)
          clear hK K hHeld
          have hHeld := hHeld2
          clear hHeld2
          try simp only [Act.put, List.getElem_toArray, List.getElem_cons_zero, List.getElem_cons_succ, List.setIfInBounds_toArray, List.set_cons_zero, List.set_cons_succ]
          refine wpAnyH_ready (rs := [15]) (by kernel_rfl) (by simp) ?_
          refine (AllReadyH.cons rfl (fun K hK => ?_) AllReadyH.nil)
          go_simp
          have hx := bl_alloc (bl_refl W10) (.cells #[.slice (some ⟨Y0.heap.size, 0, none⟩) 1 1, .slice A2_ 2 d2_, .slice A3_ 2 d3_, .slice A4_ 4 d4_, .slice (some ⟨W2.heap.size, 0, none⟩) 1 1, .slice A6 n6 c6] 43)
          have oj := Own.new W10 43 #[.slice (some ⟨Y0.heap.size, 0, none⟩) 1 1, .slice A2_ 2 d2_, .slice A3_ 2 d3_, .slice A4_ 4 d4_, .slice (some ⟨W2.heap.size, 0, none⟩) 1 1, .slice A6 n6 c6]
          have hct := Lib.hid (rocat6 (b0_10.step hx) (b1_10.step hx) (h2_10.step hx) (h3_10.step hx) (h4_10.step hx) ((HB6.out.step bb10).step hx) hn6 oj)
          have hdz := bl_trans (bl_trans hb7 bb10) hx
          have oAz := oA10.step hx
          generalize W10.alloc (.cells #[.slice (some ⟨Y0.heap.size, 0, none⟩) 1 1, .slice A2_ 2 d2_, .slice A3_ 2 d3_, .slice A4_ 4 d4_, .slice (some ⟨W2.heap.size, 0, none⟩) 1 1, .slice A6 n6 c6] 43) = Wz at *
          refine hK.out _ _ oAz (fun hHeld2 => ?_)
          clear hK K hHeld
          have hHeld := hHeld2
          clear hHeld2
          try simp only [Act.put, List.getElem_toArray, List.getElem_cons_zero, List.getElem_cons_succ, List.setIfInBounds_toArray, List.set_cons_zero, List.set_cons_succ]
          refine wpAnyH_ready (rs := [16]) (by kernel_rfl) (by simp) ?_
          refine (AllReadyH.cons rfl (fun K hK => ?_) AllReadyH.nil)
          go_simp
          go_at_call 74
          refine hct.out.mono ?_
          rintro e wz ⟨Bz, dz, rfl, hxz, hbz⟩
          have hdy := bl_trans hdz hbz
          have oAy := oAz.step hbz
          refine hK.out _ _ oAy (fun hHeld2 => ?_)
          clear hK K hHeld
          have hHeld := hHeld2
          clear hHeld2
          try simp only [Act.put, List.getElem_toArray, List.getElem_cons_zero, List.getElem_cons_succ, List.setIfInBounds_toArray, List.set_cons_zero, List.set_cons_succ]
          refine wpAnyH_take (i := 17) (v := ?_) rfl (by kernel_rfl) (by kernel_rfl) (by kernel_rfl) (fun _ _ _ h => h) (Or.inl ⟨by rfl, ?_⟩) (by assumption) ?_
          rotate_left
          · (intro W hSw; skip; go_simp; try with_reducible rfl)
          simp only [Act.put, List.getElem_toArray, List.getElem_cons_zero, List.getElem_cons_succ, List.setIfInBounds_toArray, List.set_cons_zero, List.set_cons_succ]
          refine wpAnyH_take (i := 18) (v := ?_) rfl (by kernel_rfl) (by kernel_rfl) (by kernel_rfl) (fun _ _ _ h => h) (Or.inl ⟨by rfl, ?_⟩) (by assumption) ?_
          rotate_left
          · (intro W hSw; skip; go_simp; try with_reducible rfl)
          simp only [Act.put, List.getElem_toArray, List.getElem_cons_zero, List.getElem_cons_succ, List.setIfInBounds_toArray, List.set_cons_zero, List.set_cons_succ]
          refine wpAnyH_done (by kernel_rfl) ?_ _
          clear hct
          go_wp2
          go_ret2
          exact obytesR_yes HOK.out HM.out rfl hxz hdy
      · go_simp
        have hx11 := bl_alloc (bl_refl W1) (.cells #[.int .u8 n6] 5)
        have b1_11 := Own.new W1 5 #[.int .u8 n6]
        have hne11_0 : Y0.heap.size ≠ W1.heap.size := by have := b0_1.lt; omega
        have hlo11 := bb1.size
        have hloA11 := oA1.lt
        have oA11 := oA1.step hx11
        have b0_11 := b0_1.step hx11
        have bb11 := bl_trans bb1 hx11
        generalize hgx11 : (W1.alloc (.cells #[.int .u8 n6] 5)) = W11 at *
        clear hgx11
        refine hK.out _ _ oA11 (fun hHeld2 => ?_)
        clear hK K hHeld
        have hHeld := hHeld2
        clear hHeld2
        try simp only [Act.put, List.getElem_toArray, List.getElem_cons_zero, List.getElem_cons_succ, List.setIfInBounds_toArray, List.set_cons_zero, List.set_cons_succ]
        refine wpAnyH_ready (rs := [2]) (by kernel_rfl) (by simp) ?_
        refine (AllReadyH.cons rfl (fun K hK => ?_) AllReadyH.nil)
        go_simp
        go_at_call 59
        refine (cO1.out W11).mono ?_
        rintro e W12 ⟨A2_, d2_, rfl, h2_12, hx12⟩
        have oA12 := oA11.step hx12
        have b0_12 := b0_11.step hx12
        have b1_12 := b1_11.step hx12
        have bb12 := bl_trans bb11 hx12
        refine hK.out _ _ oA12 (fun hHeld2 => ?_)
        clear hK K hHeld
        have hHeld := hHeld2
        clear hHeld2
        try simp only [Act.put, List.getElem_toArray, List.getElem_cons_zero, List.getElem_cons_succ, List.setIfInBounds_toArray, List.set_cons_zero, List.set_cons_succ]
        refine wpAnyH_ready (rs := [6]) (by kernel_rfl) (by simp) ?_
        refine (AllReadyH.cons rfl (fun K hK => ?_) AllReadyH.nil)
        go_simp
        go_at_call 59
        refine (cO2.out W12).mono ?_
        rintro e W13 ⟨A3_, d3_, rfl, h3_13, hx13⟩
        have oA13 := oA12.step hx13
        have h2_13 := h2_12.step hx13
        have b0_13 := b0_12.step hx13
        have b1_13 := b1_12.step hx13
        have bb13 := bl_trans bb12 hx13
        refine hK.out _ _ oA13 (fun hHeld2 => ?_)
        clear hK K hHeld
        have hHeld := hHeld2
        clear hHeld2
        try simp only [Act.put, List.getElem_toArray, List.getElem_cons_zero, List.getElem_cons_succ, List.setIfInBounds_toArray, List.set_cons_zero, List.set_cons_succ]
        refine wpAnyH_ready (rs := [9]) (by kernel_rfl) (by simp) ?_
        refine (AllReadyH.cons rfl (fun K hK => ?_) AllReadyH.nil)
        go_simp
        go_at_call 59
        refine (cO3.out W13).mono ?_
        rintro e W14 ⟨A4_, d4_, rfl, h4_14, hx14⟩
        have oA14 := oA13.step hx14
        have h2_14 := h2_13.step hx14
        have h3_14 := h3_13.step hx14
        have b0_14 := b0_13.step hx14
        have b1_14 := b1_13.step hx14
        have bb14 := bl_trans bb13 hx14
        refine hK.out _ _ oA14 (fun hHeld2 => ?_)
        clear hK K hHeld
        have hHeld := hHeld2
        clear hHeld2
        try simp only [Act.put, List.getElem_toArray, List.getElem_cons_zero, List.getElem_cons_succ, List.setIfInBounds_toArray, List.set_cons_zero, List.set_cons_succ]
        refine wpAnyH_ready (rs := [15]) (by kernel_rfl) (by simp) ?_
        refine (AllReadyH.cons rfl (fun K hK => ?_) AllReadyH.nil)
        go_simp
        have hx := bl_alloc (bl_refl W14) (.cells #[.slice (some ⟨Y0.heap.size, 0, none⟩) 1 1, .slice A2_ 2 d2_, .slice A3_ 2 d3_, .slice A4_ 4 d4_, .slice (some ⟨W1.heap.size, 0, none⟩) 1 1, .slice A6 n6 c6] 43)
        have oj := Own.new W14 43 #[.slice (some ⟨Y0.heap.size, 0, none⟩) 1 1, .slice A2_ 2 d2_, .slice A3_ 2 d3_, .slice A4_ 4 d4_, .slice (some ⟨W1.heap.size, 0, none⟩) 1 1, .slice A6 n6 c6]
        have hct := Lib.hid (rocat6 (b0_14.step hx) (b1_14.step hx) (h2_14.step hx) (h3_14.step hx) (h4_14.step hx) ((HB6.out.step bb14).step hx) hn6 oj)
        have hdz := bl_trans (bl_trans hb7 bb14) hx
        have oAz := oA14.step hx
        generalize W14.alloc (.cells #[.slice (some ⟨Y0.heap.size, 0, none⟩) 1 1, .slice A2_ 2 d2_, .slice A3_ 2 d3_, .slice A4_ 4 d4_, .slice (some ⟨W1.heap.size, 0, none⟩) 1 1, .slice A6 n6 c6] 43) = Wz at *
        refine hK.out _ _ oAz (fun hHeld2 => ?_)
        clear hK K hHeld
        have hHeld := hHeld2
        clear hHeld2
        try simp only [Act.put, List.getElem_toArray, List.getElem_cons_zero, List.getElem_cons_succ, List.setIfInBounds_toArray, List.set_cons_zero, List.set_cons_succ]
        refine wpAnyH_ready (rs := [16]) (by kernel_rfl) (by simp) ?_
        refine (AllReadyH.cons rfl (fun K hK => ?_) AllReadyH.nil)
        go_simp
        go_at_call 74
        refine hct.out.mono ?_
        rintro e wz ⟨Bz, dz, rfl, hxz, hbz⟩
        have hdy := bl_trans hdz hbz
        have oAy := oAz.step hbz
        refine hK.out _ _ oAy (fun hHeld2 => ?_)
        clear hK K hHeld
        have hHeld := hHeld2
        clear hHeld2
        try simp only [Act.put, List.getElem_toArray, List.getElem_cons_zero, List.getElem_cons_succ, List.setIfInBounds_toArray, List.set_cons_zero, List.set_cons_succ]
        refine wpAnyH_take (i := 17) (v := ?_) rfl (by kernel_rfl) (by kernel_rfl) (by kernel_rfl) (fun _ _ _ h => h) (Or.inl ⟨by rfl, ?_⟩) (by assumption) ?_
        rotate_left
        · (intro W hSw; skip; go_simp; try with_reducible rfl)
        simp only [Act.put, List.getElem_toArray, List.getElem_cons_zero, List.getElem_cons_succ, List.setIfInBounds_toArray, List.set_cons_zero, List.set_cons_succ]
        refine wpAnyH_take (i := 18) (v := ?_) rfl (by kernel_rfl) (by kernel_rfl) (by kernel_rfl) (fun _ _ _ h => h) (Or.inl ⟨by rfl, ?_⟩) (by assumption) ?_
        rotate_left
        · (intro W hSw; skip; go_simp; try with_reducible rfl)
        simp only [Act.put, List.getElem_toArray, List.getElem_cons_zero, List.getElem_cons_succ, List.setIfInBounds_toArray, List.set_cons_zero, List.set_cons_succ]
        refine wpAnyH_done (by kernel_rfl) ?_ _
        clear hct
        go_wp2
        go_ret2
        exact obytesR_yes HOK.out HM.out rfl hxz hdy
    · go_simp
      go_at_call 59
      refine (cO1.out Y0).mono ?_
      rintro e W15 ⟨A2_, d2_, rfl, h2_15, hx15⟩
      have oA15 := oA0.step hx15
      have bb15 := bl_trans bb0 hx15
      refine hK.out _ _ oA15 (fun hHeld2 => ?_)
      clear hK K hHeld
      have hHeld := hHeld2
      clear hHeld2
      try simp only [Act.put, List.getElem_toArray, List.getElem_cons_zero, List.getElem_cons_succ, List.setIfInBounds_toArray, List.set_cons_zero, List.set_cons_succ]
      refine wpAnyH_ready (rs := [0, 6, 13]) (by kernel_rfl) (by simp) ?_
      refine (AllReadyH.cons rfl (fun K hK => ?_) (AllReadyH.cons rfl (fun K hK => ?_) (AllReadyH.cons rfl (fun K hK => ?_) AllReadyH.nil)))
      · go_simp
        have hx16 := bl_alloc (bl_refl W15) (.cells #[.int .u8 4] 5)
        have b0_16 := Own.new W15 5 #[.int .u8 4]
        have hlo16 := bb15.size
        have hloA16 := oA15.lt
        have oA16 := oA15.step hx16
        have h2_16 := h2_15.step hx16
        have bb16 := bl_trans bb15 hx16
        generalize hgx16 : (W15.alloc (.cells #[.int .u8 4] 5)) = W16 at *
        clear hgx16
        refine hK.out _ _ oA16 (fun hHeld2 => ?_)
        clear hK K hHeld
        have hHeld := hHeld2
        clear hHeld2
        try simp only [Act.put, List.getElem_toArray, List.getElem_cons_zero, List.getElem_cons_succ, List.setIfInBounds_toArray, List.set_cons_zero, List.set_cons_succ]
        refine wpAnyH_ready (rs := [6, 13]) (by kernel_rfl) (by simp) ?_
        refine (AllReadyH.cons rfl (fun K hK => ?_) (AllReadyH.cons rfl (fun K hK => ?_) AllReadyH.nil))
        · go_simp
          go_at_call 59
          refine (cO2.out W16).mono ?_
          rintro e W17 ⟨A3_, d3_, rfl, h3_17, hx17⟩
          have oA17 := oA16.step hx17
          have h2_17 := h2_16.step hx17
          have b0_17 := b0_16.step hx17
          have bb17 := bl_trans bb16 hx17
          refine hK.out _ _ oA17 (fun hHeld2 => ?_)
          clear hK K hHeld
          have hHeld := hHeld2
          clear hHeld2
          try simp only [Act.put, List.getElem_toArray, List.getElem_cons_zero, List.getElem_cons_succ, List.setIfInBounds_toArray, List.set_cons_zero, List.set_cons_succ]
          refine wpAnyH_ready (rs := [9, 13]) (by kernel_rfl) (by simp) ?_
          refine (AllReadyH.cons rfl (fun K hK => ?_) (AllReadyH.cons rfl (fun K hK => ?_) AllReadyH.nil))
          · go_simp
            go_at_call 59
            refine (cO3.out W17).mono ?_
            rintro e W18 ⟨A4_, d4_, rfl, h4_18, hx18⟩
            have oA18 := oA17.step hx18
            have h2_18 := h2_17.step hx18
            have h3_18 := h3_17.step hx18
            have b0_18 := b0_17.step hx18
            have bb18 := bl_trans bb17 hx18
            refine hK.out _ _ oA18 (fun hHeld2 => ?_)
            clear hK K hHeld
            have hHeld := hHeld2
            clear hHeld2
            try simp only [Act.put, List.getElem_toArray, List.getElem_cons_zero, List.getElem_cons_succ, List.setIfInBounds_toArray, List.set_cons_zero, List.set_cons_succ]
            refine wpAnyH_ready (rs := [13]) (by kernel_rfl) (by simp) ?_
            refine (AllReadyH.cons rfl (fun K hK => ?_) AllReadyH.nil)
            go_simp
            have hx19 := bl_alloc (bl_refl W18) (.cells #[.int .u8 n6] 5)
            have b1_19 := Own.new W18 5 #[.int .u8 n6]
            have hne19_0 : W15.heap.size ≠ W18.heap.size := by have := b0_18.lt; omega
            have hlo19 := bb18.size
            have hloA19 := oA18.lt
            have oA19 := oA18.step hx19
            have h2_19 := h2_18.step hx19
            have h3_19 := h3_18.step hx19
            have h4_19 := h4_18.step hx19
            have b0_19 := b0_18.step hx19
            have bb19 := bl_trans bb18 hx19
            generalize hgx19 : (W18.alloc (.cells #[.int .u8 n6] 5)) = W19 at *
            clear hgx19
            refine hK.out _ _ oA19 (fun hHeld2 => ?_)
            clear hK K hHeld
            have hHeld := hHeld2
            clear hHeld2
            try simp only [Act.put, List.getElem_toArray, List.getElem_cons_zero, List.getElem_cons_succ, List.setIfInBounds_toArray, List.set_cons_zero, List.set_cons_succ]
            refine wpAnyH_ready (rs := [15]) (by kernel_rfl) (by simp) ?_
            refine (AllReadyH.cons rfl (fun K hK => ?_) AllReadyH.nil)
            go_simp
            have hx := bl_alloc (bl_refl W19) (.cells #[.slice (some ⟨W15.heap.size, 0, none⟩) 1 1, .slice A2_ 2 d2_, .slice A3_ 2 d3_, .slice A4_ 4 d4_, .slice (some ⟨W18.heap.size, 0, none⟩) 1 1, .slice A6 n6 c6] 43)
            have oj := Own.new W19 43 #[.slice (some ⟨W15.heap.size, 0, none⟩) 1 1, .slice A2_ 2 d2_, .slice A3_ 2 d3_, .slice A4_ 4 d4_, .slice (some ⟨W18.heap.size, 0, none⟩) 1 1, .slice A6 n6 c6]
            have hct := Lib.hid (rocat6 (b0_19.step hx) (b1_19.step hx) (h2_19.step hx) (h3_19.step hx) (h4_19.step hx) ((HB6.out.step bb19).step hx) hn6 oj)
            have hdz := bl_trans (bl_trans hb7 bb19) hx
            have oAz := oA19.step hx
            generalize W19.alloc (.cells #[.slice (some ⟨W15.heap.size, 0, none⟩) 1 1, .slice A2_ 2 d2_, .slice A3_ 2 d3_, .slice A4_ 4 d4_, .slice (some ⟨W18.heap.size, 0, none⟩) 1 1, .slice A6 n6 c6] 43) = Wz at *
            refine hK.out _ _ oAz (fun hHeld2 => ?_)
            clear hK K hHeld
            have hHeld := hHeld2
            clear hHeld2
            try simp only [Act.put, List.getElem_toArray, List.getElem_cons_zero, List.getElem_cons_succ, List.setIfInBounds_toArray, List.set_cons_zero, List.set_cons_succ]
            refine wpAnyH_ready (rs := [16]) (by kernel_rfl) (by simp) ?_
            refine (AllReadyH.cons rfl (fun K hK => ?_) AllReadyH.nil)
            go_simp
            go_at_call 74
            refine hct.out.mono ?_
            rintro e wz ⟨Bz, dz, rfl, hxz, hbz⟩
            have hdy := bl_trans hdz hbz
            have oAy := oAz.step hbz
            refine hK.out _ _ oAy (fun hHeld2 => ?_)
            clear hK K hHeld
            have hHeld := hHeld2
            clear hHeld2
            try simp only [Act.put, List.getElem_toArray, List.getElem_cons_zero, List.getElem_cons_succ, List.setIfInBounds_toArray, List.set_cons_zero, List.set_cons_succ]
            refine wpAnyH_take (i := 17) (v := ?_) rfl (by kernel_rfl) (by kernel_rfl) (by kernel_rfl) (fun _ _ _ h => h) (Or.inl ⟨by rfl, ?_⟩) (by assumption) ?_
            rotate_left
            · (intro W hSw; skip; go_simp; try with_reducible rfl)
            simp only [Act.put, List.getElem_toArray, List.getElem_cons_zero, List.getElem_cons_succ, List.setIfInBounds_toArray, List.set_cons_zero, List.set_cons_succ]
            refine wpAnyH_take (i := 18) (v := ?_) rfl (by kernel_rfl) (by kernel_rfl) (by kernel_rfl) (fun _ _ _ h => h) (Or.inl ⟨by rfl, ?_⟩) (by assumption) ?_
            rotate_left
            · (intro W hSw; skip; go_simp; try with_reducible rfl)
            simp only [Act.put, List.getElem_toArray, List.getElem_cons_zero, List.getElem_cons_succ, List.setIfInBounds_toArray, List.set_cons_zero, List.set_cons_succ]
            refine wpAnyH_done (by kernel_rfl) ?_ _
            clear hct
            go_wp2
            go_ret2
            exact obytesR_yes HOK.out HM.out rfl hxz hdy
          · go_simp
            have hx20 := bl_alloc (bl_refl W17) (.cells #[.int .u8 n6] 5)
            have b1_20 := Own.new W17 5 #[.int .u8 n6]
            have hne20_0 : W15.heap.size ≠ W17.heap.size := by have := b0_17.lt; omega
            have hlo20 := bb17.size
            have hloA20 := oA17.lt
            have oA20 := oA17.step hx20
            have h2_20 := h2_17.step hx20
            have h3_20 := h3_17.step hx20
            have b0_20 := b0_17.step hx20
            have bb20 := bl_trans bb17 hx20
            generalize hgx20 : (W17.alloc (.cells #[.int .u8 n6] 5)) = W20 at *
            clear hgx20
            refine hK.out _ _ oA20 (fun hHeld2 => ?_)
            clear hK K hHeld
            have hHeld := hHeld2
            clear hHeld2
            try simp only [Act.put, List.getElem_toArray, List.getElem_cons_zero, List.getElem_cons_succ, List.setIfInBounds_toArray, List.set_cons_zero, List.set_cons_succ]
            refine wpAnyH_ready (rs := [9]) (by kernel_rfl) (by simp) ?_
            refine (AllReadyH.cons rfl (fun K hK => ?_) AllReadyH.nil)
            go_simp
            go_at_call 59
            refine (cO3.out W20).mono ?_
            rintro e W21 ⟨A4_, d4_, rfl, h4_21, hx21⟩
            have oA21 := oA20.step hx21
            have h2_21 := h2_20.step hx21
            have h3_21 := h3_20.step hx21
            have b0_21 := b0_20.step hx21
            have b1_21 := b1_20.step hx21
            have bb21 := bl_trans bb20 hx21
            refine hK.out _ _ oA21 (fun hHeld2 => ?_)
            clear hK K hHeld
            have hHeld := hHeld2
            clear hHeld2
            try simp only [Act.put, List.getElem_toArray, List.getElem_cons_zero, List.getElem_cons_succ, List.setIfInBounds_toArray, List.set_cons_zero, List.set_cons_succ]
            refine wpAnyH_ready (rs := [15]) (by kernel_rfl) (by simp) ?_
            refine (AllReadyH.cons rfl (fun K hK => ?_) AllReadyH.nil)
            go_simp
            have hx := bl_alloc (bl_refl W21) (.cells #[.slice (some ⟨W15.heap.size, 0, none⟩) 1 1, .slice A2_ 2 d2_, .slice A3_ 2 d3_, .slice A4_ 4 d4_, .slice (some ⟨W17.heap.size, 0, none⟩) 1 1, .slice A6 n6 c6] 43)
            have oj := Own.new W21 43 #[.slice (some ⟨W15.heap.size, 0, none⟩) 1 1, .slice A2_ 2 d2_, .slice A3_ 2 d3_, .slice A4_ 4 d4_, .slice (some ⟨W17.heap.size, 0, none⟩) 1 1, .slice A6 n6 c6]
            have hct := Lib.hid (rocat6 (b0_21.step hx) (b1_21.step hx) (h2_21.step hx) (h3_21.step hx) (h4_21.step hx) ((HB6.out.step bb21).step hx) hn6 oj)
            have hdz := bl_trans (bl_trans hb7 bb21) hx
            have oAz := oA21.step hx
            generalize W21.alloc (.cells #[.slice (some ⟨W15.heap.size, 0, none⟩) 1 1, .slice A2_ 2 d2_, .slice A3_ 2 d3_, .slice A4_ 4 d4_, .slice (some ⟨W17.heap.size, 0, none⟩) 1 1, .slice A6 n6 c6] 43) = Wz at *
            refine hK.out _ _ oAz (fun hHeld2 => ?_)
            clear hK K hHeld
            have hHeld := hHeld2
            clear hHeld2
            try simp only [Act.put, List.getElem_toArray, List.getElem_cons_zero, List.getElem_cons_succ, List.setIfInBounds_toArray, List.set_cons_zero, List.set_cons_succ]
            refine wpAnyH_ready (rs := [16]) (by kernel_rfl) (by simp) ?_
            refine (AllReadyH.cons rfl (fun K hK => ?_) AllReadyH.nil)
            go_simp
            go_at_call 74
            refine hct.out.mono ?_
            rintro e wz ⟨Bz, dz, rfl, hxz, hbz⟩
            have hdy := bl_trans hdz hbz
            have oAy := oAz.step hbz
            refine hK.out _ _ oAy (fun hHeld2 => ?_)
            clear hK K hHeld
            have hHeld := hHeld2
            clear hHeld2
            try simp only [Act.put, List.getElem_toArray, List.getElem_cons_zero, List.getElem_cons_succ, List.setIfInBounds_toArray, List.set_cons_zero, List.set_cons_succ]
            refine wpAnyH_take (i := 17) (v := ?_) rfl (by kernel_rfl) (by kernel_rfl) (by kernel_rfl) (fun _ _ _ h => h) (Or.inl ⟨by rfl, ?_⟩) (by assumption) ?_
            rotate_left
            · (intro W hSw; skip; go_simp; try with_reducible rfl)
            simp only [Act.put, List.getElem_toArray, List.getElem_cons_zero, List.getElem_cons_succ, List.setIfInBounds_toArray, List.set_cons_zero, List.set_cons_succ]
            refine wpAnyH_take (i := 18) (v := ?_) rfl (by kernel_rfl) (by kernel_rfl) (by kernel_rfl) (fun _ _ _ h => h) (Or.inl ⟨by rfl, ?_⟩) (by assumption) ?_
            rotate_left
            · (intro W hSw; skip; go_simp; try with_reducible rfl)
            simp only [Act.put, List.getElem_toArray, List.getElem_cons_zero, List.getElem_cons_succ, List.setIfInBounds_toArray, List.set_cons_zero, List.set_cons_succ]
            refine wpAnyH_done (by kernel_rfl) ?_ _
            clear hct
            go_wp2
            go_ret2
            exact obytesR_yes HOK.out HM.out rfl hxz hdy
        · go_simp
          have hx22 := bl_alloc (bl_refl W16) (.cells #[.int .u8 n6] 5)
          have b1_22 := Own.new W16 5 #[.int .u8 n6]
          have hne22_0 : W15.heap.size ≠ W16.heap.size := by have := b0_16.lt; omega
          have hlo22 := bb16.size
          have hloA22 := oA16.lt
          have oA22 := oA16.step hx22
          have h2_22 := h2_16.step hx22
          have b0_22 := b0_16.step hx22
          have bb22 := bl_trans bb16 hx22
          generalize hgx22 : (W16.alloc (.cells #[.int .u8 n6] 5)) = W22 at *
          clear hgx22
          refine hK.out _ _ oA22 (fun hHeld2 => ?_)
          clear hK K hHeld
          have hHeld := hHeld2
          clear hHeld2
          try simp only [Act.put, List.getElem_toArray, List.getElem_cons_zero, List.getElem_cons_succ, List.setIfInBounds_toArray, List.set_cons_zero, List.set_cons_succ]
          refine wpAnyH_ready (rs := [6]) (by kernel_rfl) (by simp) ?_
          refine (AllReadyH.cons rfl (fun K hK => ?_) AllReadyH.nil)
          go_simp
          go_at_call 59
          refine (cO2.out W22).mono ?_
          rintro e W23 ⟨A3_, d3_, rfl, h3_23, hx23⟩
          have oA23 := oA22.step hx23
          have h2_23 := h2_22.step hx23
          have b0_23 := b0_22.step hx23
          have b1_23 := b1_22.step hx23
          have bb23 := bl_trans bb22 hx23
          refine hK.out _ _ oA23 (fun hHeld2 => ?_)
          clear hK K hHeld
          have hHeld := hHeld2
          clear hHeld2
          try simp only [Act.put, List.getElem_toArray, List.getElem_cons_zero, List.getElem_cons_succ, List.setIfInBounds_toArray, List.set_cons_zero, List.set_cons_succ]
          refine wpAnyH_ready (rs := [9]) (by kernel_rfl) (by simp) ?_
          refine (AllReadyH.cons rfl (fun K hK => ?_) AllReadyH.nil)
          go_simp
          go_at_call 59
          refine (cO3.out W23).mono ?_
          rintro e W24 ⟨A4_, d4_, rfl, h4_24, hx24⟩
          have oA24 := oA23.step hx24
          have h2_24 := h2_23.step hx24
          have h3_24 := h3_23.step hx24
          have b0_24 := b0_23.step hx24
          have b1_24 := b1_23.step hx24
          have bb24 := bl_trans bb23 hx24
          refine hK.out _ _ oA24 (fun hHeld2 => ?_)
          clear hK K hHeld
          have hHeld := hHeld2
          clear hHeld2
          try simp only [Act.put, List.getElem_toArray, List.getElem_cons_zero, List.getElem_cons_succ, List.setIfInBounds_toArray, List.set_cons_zero, List.set_cons_succ]
          refine wpAnyH_ready (rs := [15]) (by kernel_rfl) (by simp) ?_
          refine (AllReadyH.cons rfl (fun K hK => ?_) AllReadyH.nil)
          go_simp
          have hx := bl_alloc (bl_refl W24) (.cells #[.slice (some ⟨W15.heap.size, 0, none⟩) 1 1, .slice A2_ 2 d2_, .slice A3_ 2 d3_, .slice A4_ 4 d4_, .slice (some ⟨W16.heap.size, 0, none⟩) 1 1, .slice A6 n6 c6] 43)
          have oj := Own.new W24 43 #[.slice (some ⟨W15.heap.size, 0, none⟩) 1 1, .slice A2_ 2 d2_, .slice A3_ 2 d3_, .slice A4_ 4 d4_, .slice (some ⟨W16.heap.size, 0, none⟩) 1 1, .slice A6 n6 c6]
          have hct := Lib.hid (rocat6 (b0_24.step hx) (b1_24.step hx) (h2_24.step hx) (h3_24.step hx) (h4_24.step hx) ((HB6.out.step bb24).step hx) hn6 oj)
          have hdz := bl_trans (bl_trans hb7 bb24) hx
          have oAz := oA24.step hx
          generalize W24.alloc (.cells #[.slice (some ⟨W15.heap.size, 0, none⟩) 1 1, .slice A2_ 2 d2_, .slice A3_ 2 d3_, .slice A4_ 4 d4_, .slice (some ⟨W16.heap.size, 0, none⟩) 1 1, .slice A6 n6 c6] 43) = Wz at *
          refine hK.out _ _ oAz (fun hHeld2 => ?_)
          clear hK K hHeld
          have hHeld := hHeld2
          clear hHeld2
          try simp only [Act.put, List.getElem_toArray, List.getElem_cons_zero, List.getElem_cons_succ, List.setIfInBounds_toArray, List.set_cons_zero, List.set_cons_succ]
          refine wpAnyH_ready (rs := [16]) (by kernel_rfl) (by simp) ?_
          refine (AllReadyH.cons rfl (fun K hK => ?_) AllReadyH.nil)
          go_simp
          go_at_call 74
          refine hct.out.mono ?_
          rintro e wz ⟨Bz, dz, rfl, hxz, hbz⟩
          have hdy := bl_trans hdz hbz
          have oAy := oAz.step hbz
          refine hK.out _ _ oAy (fun hHeld2 => ?_)
          clear hK K hHeld
          have hHeld := hHeld2
          clear hHeld2
          try simp only [Act.put, List.getElem_toArray, List.getElem_cons_zero, List.getElem_cons_succ, List.setIfInBounds_toArray, List.set_cons_zero, List.set_cons_succ]
          refine wpAnyH_take (i := 17) (v := ?_) rfl (by kernel_rfl) (by kernel_rfl) (by kernel_rfl) (fun _ _ _ h => h) (Or.inl ⟨by rfl, ?_⟩) (by assumption) ?_
          rotate_left
          · (intro W hSw; skip; go_simp; try with_reducible rfl)
          simp only [Act.put, List.getElem_toArray, List.getElem_cons_zero, List.getElem_cons_succ, List.setIfInBounds_toArray, List.set_cons_zero, List.set_cons_succ]
          refine wpAnyH_take (i := 18) (v := ?_) rfl (by kernel_rfl) (by kernel_rfl) (by kernel_rfl) (fun _ _ _ h => h) (Or.inl ⟨by rfl, ?_⟩) (by assumption) ?_
          rotate_left
          · (intro W hSw; skip; go_simp; try with_reducible rfl)
          simp only [Act.put, List.getElem_toArray, List.getElem_cons_zero, List.getElem_cons_succ, List.setIfInBounds_toArray, List.set_cons_zero, List.set_cons_succ]
          refine wpAnyH_done (by kernel_rfl) ?_ _
          clear hct
          go_wp2
          go_ret2
          exact obytesR_yes HOK.out HM.out rfl hxz hdy
      · go_simp
        go_at_call 59
        refine (cO2.out W15).mono ?_
        rintro e W25 ⟨A3_, d3_, rfl, h3_25, hx25⟩
        have oA25 := oA15.step hx25
        have h2_25 := h2_15.step hx25
        have bb25 := bl_trans bb15 hx25
        refine hK.out _ _ oA25 (fun hHeld2 => ?_)
        clear hK K hHeld
        have hHeld := hHeld2
        clear hHeld2
        try simp only [Act.put, List.getElem_toArray, List.getElem_cons_zero, List.getElem_cons_succ, List.setIfInBounds_toArray, List.set_cons_zero, List.set_cons_succ]
        refine wpAnyH_ready (rs := [0, 9, 13]) (by kernel_rfl) (by simp) ?_
        refine (AllReadyH.cons rfl (fun K hK => ?_) (AllReadyH.cons rfl (fun K hK => ?_) (AllReadyH.cons rfl (fun K hK => ?_) AllReadyH.nil)))
        · go_simp
          have hx26 := bl_alloc (bl_refl W25) (.cells #[.int .u8 4] 5)
          have b0_26 := Own.new W25 5 #[.int .u8 4]
          have hlo26 := bb25.size
          have hloA26 := oA25.lt
          have oA26 := oA25.step hx26
          have h2_26 := h2_25.step hx26
          have h3_26 := h3_25.step hx26
          have bb26 := bl_trans bb25 hx26
          generalize hgx26 : (W25.alloc (.cells #[.int .u8 4] 5)) = W26 at *
          clear hgx26
          refine hK.out _ _ oA26 (fun hHeld2 => ?_)
          clear hK K hHeld
          have hHeld := hHeld2
          clear hHeld2
          try simp only [Act.put, List.getElem_toArray, List.getElem_cons_zero, List.getElem_cons_succ, List.setIfInBounds_toArray, List.set_cons_zero, List.set_cons_succ]
          refine wpAnyH_ready (rs := [9, 13]) (by kernel_rfl) (by simp) ?_
          refine (AllReadyH.cons rfl (fun K hK => ?_) (AllReadyH.cons rfl (fun K hK => ?_) AllReadyH.nil))
          · go_simp
            go_at_call 59
            refine (cO3.out W26).mono ?_
            rintro e W27 ⟨A4_, d4_, rfl, h4_27, hx27⟩
            have oA27 := oA26.step hx27
            have h2_27 := h2_26.step hx27
            have h3_27 := h3_26.step hx27
            have b0_27 := b0_26.step hx27
            have bb27 := bl_trans bb26 hx27
            refine hK.out _ _ oA27 (fun hHeld2 => ?_)
            clear hK K hHeld
            have hHeld := hHeld2
            clear hHeld2
            try simp only [Act.put, List.getElem_toArray, List.getElem_cons_zero, List.getElem_cons_succ, List.setIfInBounds_toArray, List.set_cons_zero, List.set_cons_succ]
            refine wpAnyH_ready (rs := [13]) (by kernel_rfl) (by simp) ?_
            refine (AllReadyH.cons rfl (fun K hK => ?_) AllReadyH.nil)
            go_simp
            have hx28 := bl_alloc (bl_refl W27) (.cells #[.int .u8 n6] 5)
            have b1_28 := Own.new W27 5 #[.int .u8 n6]
            have hne28_0 : W25.heap.size ≠ W27.heap.size := by have := b0_27.lt; omega
            have hlo28 := bb27.size
            have hloA28 := oA27.lt
            have oA28 := oA27.step hx28
            have h2_28 := h2_27.step hx28
            have h3_28 := h3_27.step hx28
            have h4_28 := h4_27.step hx28
            have b0_28 := b0_27.step hx28
            have bb28 := bl_trans bb27 hx28
            generalize hgx28 : (W27.alloc (.cells #[.int .u8 n6] 5)) = W28 at *
            clear hgx28
            refine hK.out _ _ oA28 (fun hHeld2 => ?_)
            clear hK K hHeld
            have hHeld := hHeld2
            clear hHeld2
            try simp only [Act.put, List.getElem_toArray, List.getElem_cons_zero, List.getElem_cons_succ, List.setIfInBounds_toArray, List.set_cons_zero, List.set_cons_succ]
            refine wpAnyH_ready (rs := [15]) (by kernel_rfl) (by simp) ?_
            refine (AllReadyH.cons rfl (fun K hK => ?_) AllReadyH.nil)
            go_simp
            have hx := bl_alloc (bl_refl W28) (.cells #[.slice (some ⟨W25.heap.size, 0, none⟩) 1 1, .slice A2_ 2 d2_, .slice A3_ 2 d3_, .slice A4_ 4 d4_, .slice (some ⟨W27.heap.size, 0, none⟩) 1 1, .slice A6 n6 c6] 43)
            have oj := Own.new W28 43 #[.slice (some ⟨W25.heap.size, 0, none⟩) 1 1, .slice A2_ 2 d2_, .slice A3_ 2 d3_, .slice A4_ 4 d4_, .slice (some ⟨W27.heap.size, 0, none⟩) 1 1, .slice A6 n6 c6]
            have hct := Lib.hid (rocat6 (b0_28.step hx) (b1_28.step hx) (h2_28.step hx) (h3_28.step hx) (h4_28.step hx) ((HB6.out.step bb28).step hx) hn6 oj)
            have hdz := bl_trans (bl_trans hb7 bb28) hx
            have oAz := oA28.step hx
            generalize W28.alloc (.cells #[.slice (some ⟨W25.heap.size, 0, none⟩) 1 1, .slice A2_ 2 d2_, .slice A3_ 2 d3_, .slice A4_ 4 d4_, .slice (some ⟨W27.heap.size, 0, none⟩) 1 1, .slice A6 n6 c6] 43) = Wz at *
            refine hK.out _ _ oAz (fun hHeld2 => ?_)
            clear hK K hHeld
            have hHeld := hHeld2
            clear hHeld2
            try simp only [Act.put, List.getElem_toArray, List.getElem_cons_zero, List.getElem_cons_succ, List.setIfInBounds_toArray, List.set_cons_zero, List.set_cons_succ]
            refine wpAnyH_ready (rs := [16]) (by kernel_rfl) (by simp) ?_
            refine (AllReadyH.cons rfl (fun K hK => ?_) AllReadyH.nil)
            go_simp
            go_at_call 74
            refine hct.out.mono ?_
            rintro e wz ⟨Bz, dz, rfl, hxz, hbz⟩
            have hdy := bl_trans hdz hbz
            have oAy := oAz.step hbz
            refine hK.out _ _ oAy (fun hHeld2 => ?_)
            clear hK K hHeld
            have hHeld := hHeld2
            clear hHeld2
            try simp only [Act.put, List.getElem_toArray, List.getElem_cons_zero, List.getElem_cons_succ, List.setIfInBounds_toArray, List.set_cons_zero, List.set_cons_succ]
            refine wpAnyH_take (i := 17) (v := ?_) rfl (by kernel_rfl) (by kernel_rfl) (by kernel_rfl) (fun _ _ _ h => h) (Or.inl ⟨by rfl, ?_⟩) (by assumption) ?_
            rotate_left
            · (intro W hSw; skip; go_simp; try with_reducible rfl)
            simp only [Act.put, List.getElem_toArray, List.getElem_cons_zero, List.getElem_cons_succ, List.setIfInBounds_toArray, List.set_cons_zero, List.set_cons_succ]
            refine wpAnyH_take (i := 18) (v := ?_) rfl (by kernel_rfl) (by kernel_rfl) (by kernel_rfl) (fun _ _ _ h => h) (Or.inl ⟨by rfl, ?_⟩) (by assumption) ?_
            rotate_left
            · (intro W hSw; skip; go_simp; try with_reducible rfl)
            simp only [Act.put, List.getElem_toArray, List.getElem_cons_zero, List.getElem_cons_succ, List.setIfInBounds_toArray, List.set_cons_zero, List.set_cons_succ]
            refine wpAnyH_done (by kernel_rfl) ?_ _
            clear hct
            go_wp2
            go_ret2
            exact obytesR_yes HOK.out HM.out rfl hxz hdy
          · go_simp
            have hx29 := bl_alloc (bl_refl W26) (.cells #[.int .u8 n6] 5)
            have b1_29 := Own.new W26 5 #[.int .u8 n6]
            have hne29_0 : W25.heap.size ≠ W26.heap.size := by have := b0_26.lt; omega
            have hlo29 := bb26.size
            have hloA29 := oA26.lt
            have oA29 := oA26.step hx29
            have h2_29 := h2_26.step hx29
            have h3_29 := h3_26.step hx29
            have b0_29 := b0_26.step hx29
            have bb29 := bl_trans bb26 hx29
            generalize hgx29 : (W26.alloc (.cells #[.int .u8 n6] 5)) = W29 at *
            clear hgx29
            refine hK.out _ _ oA29 (fun hHeld2 => ?_)
            clear hK K hHeld
            have hHeld := hHeld2
            clear hHeld2
            try simp only [Act.put, List.getElem_toArray, List.getElem_cons_zero, List.getElem_cons_succ, List.setIfInBounds_toArray, List.set_cons_zero, List.set_cons_succ]
            refine wpAnyH_ready (rs := [9]) (by kernel_rfl) (by simp) ?_
            refine (AllReadyH.cons rfl (fun K hK => ?_) AllReadyH.nil)
            go_simp
            go_at_call 59
            refine (cO3.out W29).mono ?_
            rintro e W30 ⟨A4_, d4_, rfl, h4_30, hx30⟩
            have oA30 := oA29.step hx30
            have h2_30 := h2_29.step hx30
            have h3_30 := h3_29.step hx30
            have b0_30 := b0_29.step hx30
            have b1_30 := b1_29.step hx30
            have bb30 := bl_trans bb29 hx30
            refine hK.out _ _ oA30 (fun hHeld2 => ?_)
            clear hK K hHeld
            have hHeld := hHeld2
            clear hHeld2
            try simp only [Act.put, List.getElem_toArray, List.getElem_cons_zero, List.getElem_cons_succ, List.setIfInBounds_toArray, List.set_cons_zero, List.set_cons_succ]
            refine wpAnyH_ready (rs := [15]) (by kernel_rfl) (by simp) ?_
            refine (AllReadyH.cons rfl (fun K hK => ?_) AllReadyH.nil)
            go_simp
            have hx := bl_alloc (bl_refl W30) (.cells #[.slice (some ⟨W25.heap.size, 0, none⟩) 1 1, .slice A2_ 2 d2_, .slice A3_ 2 d3_, .slice A4_ 4 d4_, .slice (some ⟨W26.heap.size, 0, none⟩) 1 1, .slice A6 n6 c6] 43)
            have oj := Own.new W30 43 #[.slice (some ⟨W25.heap.size, 0, none⟩) 1 1, .slice A2_ 2 d2_, .slice A3_ 2 d3_, .slice A4_ 4 d4_, .slice (some ⟨W26.heap.size, 0, none⟩) 1 1, .slice A6 n6 c6]
            have hct := Lib.hid (rocat6 (b0_30.step hx) (b1_30.step hx) (h2_30.step hx) (h3_30.step hx) (h4_30.step hx) ((HB6.out.step bb30).step hx) hn6 oj)
            have hdz := bl_trans (bl_trans hb7 bb30) hx
            have oAz := oA30.step hx
            generalize W30.alloc (.cells #[.slice (some ⟨W25.heap.size, 0, none⟩) 1 1, .slice A2_ 2 d2_, .slice A3_ 2 d3_, .slice A4_ 4 d4_, .slice (some ⟨W26.heap.size, 0, none⟩) 1 1, .slice A6 n6 c6] 43) = Wz at *
            refine hK.out _ _ oAz (fun hHeld2 => ?_)
            clear hK K hHeld
            have hHeld := hHeld2
            clear hHeld2
            try simp only [Act.put, List.getElem_toArray, List.getElem_cons_zero, List.getElem_cons_succ, List.setIfInBounds_toArray, List.set_cons_zero, List.set_cons_succ]
            refine wpAnyH_ready (rs := [16]) (by kernel_rfl) (by simp) ?_
            refine (AllReadyH.cons rfl (fun K hK => ?_) AllReadyH.nil)
            go_simp
            go_at_call 74
            refine hct.out.mono ?_
            rintro e wz ⟨Bz, dz, rfl, hxz, hbz⟩
            have hdy := bl_trans hdz hbz
            have oAy := oAz.step hbz
            refine hK.out _ _ oAy (fun hHeld2 => ?_)
            clear hK K hHeld
            have hHeld := hHeld2
            clear hHeld2
            try simp only [Act.put, List.getElem_toArray, List.getElem_cons_zero, List.getElem_cons_succ, List.setIfInBounds_toArray, List.set_cons_zero, List.set_cons_succ]
            refine wpAnyH_take (i := 17) (v := ?_) rfl (by kernel_rfl) (by kernel_rfl) (by kernel_rfl) (fun _ _ _ h => h) (Or.inl ⟨by rfl, ?_⟩) (by assumption) ?_
            rotate_left
            · (intro W hSw; skip; go_simp; try with_reducible rfl)
            simp only [Act.put, List.getElem_toArray, List.getElem_cons_zero, List.getElem_cons_succ, List.setIfInBounds_toArray, List.set_cons_zero, List.set_cons_succ]
            refine wpAnyH_take (i := 18) (v := ?_) rfl (by kernel_rfl) (by kernel_rfl) (by kernel_rfl) (fun _ _ _ h => h) (Or.inl ⟨by rfl, ?_⟩) (by assumption) ?_
            rotate_left
            · (intro W hSw; skip; go_simp; try with_reducible rfl)
            simp only [Act.put, List.getElem_toArray, List.getElem_cons_zero, List.getElem_cons_succ, List.setIfInBounds_toArray, List.set_cons_zero, List.set_cons_succ]
            refine wpAnyH_done (by kernel_rfl) ?_ _
            clear hct
            go_wp2
            go_ret2
            exact obytesR_yes HOK.out HM.out rfl hxz hdy
        · go_simp
          go_at_call 59
          refine (cO3.out W25).mono ?_
          rintro e W31 ⟨A4_, d4_, rfl, h4_31, hx31⟩
          have oA31 := oA25.step hx31
          have h2_31 := h2_25.step hx31
          have h3_31 := h3_25.step hx31
          have bb31 := bl_trans bb25 hx31
          refine hK.out _ _ oA31 (fun hHeld2 => ?_)
          clear hK K hHeld
          have hHeld := hHeld2
          clear hHeld2
          try simp only [Act.put, List.getElem_toArray, List.getElem_cons_zero, List.getElem_cons_succ, List.setIfInBounds_toArray, List.set_cons_zero, List.set_cons_succ]
          refine wpAnyH_ready (rs := [0, 13]) (by kernel_rfl) (by simp) ?_
          refine (AllReadyH.cons rfl (fun K hK => ?_) (AllReadyH.cons rfl (fun K hK => ?_) AllReadyH.nil))
          · go_simp
            have hx32 := bl_alloc (bl_refl W31) (.cells #[.int .u8 4] 5)
            have b0_32 := Own.new W31 5 #[.int .u8 4]
            have hlo32 := bb31.size
            have hloA32 := oA31.lt
            have oA32 := oA31.step hx32
            have h2_32 := h2_31.step hx32
            have h3_32 := h3_31.step hx32
            have h4_32 := h4_31.step hx32
            have bb32 := bl_trans bb31 hx32
            generalize hgx32 : (W31.alloc (.cells #[.int .u8 4] 5)) = W32 at *
            clear hgx32
            refine hK.out _ _ oA32 (fun hHeld2 => ?_)
            clear hK K hHeld
            have hHeld := hHeld2
            clear hHeld2
            try simp only [Act.put, List.getElem_toArray, List.getElem_cons_zero, List.getElem_cons_succ, List.setIfInBounds_toArray, List.set_cons_zero, List.set_cons_succ]
            refine wpAnyH_ready (rs := [13]) (by kernel_rfl) (by simp) ?_
            refine (AllReadyH.cons rfl (fun K hK => ?_) AllReadyH.nil)
            go_simp
            have hx33 := bl_alloc (bl_refl W32) (.cells #[.int .u8 n6] 5)
            have b1_33 := Own.new W32 5 #[.int .u8 n6]
            have hne33_0 : W31.heap.size ≠ W32.heap.size := by have := b0_32.lt; omega
            have hlo33 := bb32.size
            have hloA33 := oA32.lt
            have oA33 := oA32.step hx33
            have h2_33 := h2_32.step hx33
            have h3_33 := h3_32.step hx33
            have h4_33 := h4_32.step hx33
            have b0_33 := b0_32.step hx33
            have bb33 := bl_trans bb32 hx33
            generalize hgx33 : (W32.alloc (.cells #[.int .u8 n6] 5)) = W33 at *
            clear hgx33
            refine hK.out _ _ oA33 (fun hHeld2 => ?_)
            clear hK K hHeld
            have hHeld := hHeld2
            clear hHeld2
            try simp only [Act.put, List.getElem_toArray, List.getElem_cons_zero, List.getElem_cons_succ, List.setIfInBounds_toArray, List.set_cons_zero, List.set_cons_succ]
            refine wpAnyH_ready (rs := [15]) (by kernel_rfl) (by simp) ?_
            refine (AllReadyH.cons rfl (fun K hK => ?_) AllReadyH.nil)
            go_simp
            have hx := bl_alloc (bl_refl W33) (.cells #[.slice (some ⟨W31.heap.size, 0, none⟩) 1 1, .slice A2_ 2 d2_, .slice A3_ 2 d3_, .slice A4_ 4 d4_, .slice (some ⟨W32.heap.size, 0, none⟩) 1 1, .slice A6 n6 c6] 43)
            have oj := Own.new W33 43 #[.slice (some ⟨W31.heap.size, 0, none⟩) 1 1, .slice A2_ 2 d2_, .slice A3_ 2 d3_, .slice A4_ 4 d4_, .slice (some ⟨W32.heap.size, 0, none⟩) 1 1, .slice A6 n6 c6]
            have hct := Lib.hid (rocat6 (b0_33.step hx) (b1_33.step hx) (h2_33.step hx) (h3_33.step hx) (h4_33.step hx) ((HB6.out.step bb33).step hx) hn6 oj)
            have hdz := bl_trans (bl_trans hb7 bb33) hx
            have oAz := oA33.step hx
            generalize W33.alloc (.cells #[.slice (some ⟨W31.heap.size, 0, none⟩) 1 1, .slice A2_ 2 d2_, .slice A3_ 2 d3_, .slice A4_ 4 d4_, .slice (some ⟨W32.heap.size, 0, none⟩) 1 1, .slice A6 n6 c6] 43) = Wz at *
            refine hK.out _ _ oAz (fun hHeld2 => ?_)
            clear hK K hHeld
            have hHeld := hHeld2
            clear hHeld2
            try simp only [Act.put, List.getElem_toArray, List.getElem_cons_zero, List.getElem_cons_succ, List.setIfInBounds_toArray, List.set_cons_zero, List.set_cons_succ]
            refine wpAnyH_ready (rs := [16]) (by kernel_rfl) (by simp) ?_
            refine (AllReadyH.cons rfl (fun K hK => ?_) AllReadyH.nil)
            go_simp
            go_at_call 74
            refine hct.out.mono ?_
            rintro e wz ⟨Bz, dz, rfl, hxz, hbz⟩
            have hdy := bl_trans hdz hbz
            have oAy := oAz.step hbz
            refine hK.out _ _ oAy (fun hHeld2 => ?_)
            clear hK K hHeld
            have hHeld := hHeld2
            clear hHeld2
            try simp only [Act.put, List.getElem_toArray, List.getElem_cons_zero, List.getElem_cons_succ, List.setIfInBounds_toArray, List.set_cons_zero, List.set_cons_succ]
            refine wpAnyH_take (i := 17) (v := ?_) rfl (by kernel_rfl) (by kernel_rfl) (by kernel_rfl) (fun _ _ _ h => h) (Or.inl ⟨by rfl, ?_⟩) (by assumption) ?_
            rotate_left
            · (intro W hSw; skip; go_simp; try with_reducible rfl)
            simp only [Act.put, List.getElem_toArray, List.getElem_cons_zero, List.getElem_cons_succ, List.setIfInBounds_toArray, List.set_cons_zero, List.set_cons_succ]
            refine wpAnyH_take (i := 18) (v := ?_) rfl (by kernel_rfl) (by kernel_rfl) (by kernel_rfl) (fun _ _ _ h => h) (Or.inl ⟨by rfl, ?_⟩) (by assumption) ?_
            rotate_left
            · (intro W hSw; skip; go_simp; try with_reducible rfl)
            simp only [Act.put, List.getElem_toArray, List.getElem_cons_zero, List.getElem_cons_succ, List.setIfInBounds_toArray, List.set_cons_zero, List.set_cons_succ]
            refine wpAnyH_done (by kernel_rfl) ?_ _
            clear hct
            go_wp2
            go_ret2
            exact obytesR_yes HOK.out HM.out rfl hxz hdy
          · go_simp
            have hx34 := bl_alloc (bl_refl W31) (.cells #[.int .u8 n6] 5)
            have b1_34 := Own.new W31 5 #[.int .u8 n6]
            have hlo34 := bb31.size
            have hloA34 := oA31.lt
            have oA34 := oA31.step hx34
            have h2_34 := h2_31.step hx34
            have h3_34 := h3_31.step hx34
            have h4_34 := h4_31.step hx34
            have bb34 := bl_trans bb31 hx34
            generalize hgx34 : (W31.alloc (.cells #[.int .u8 n6] 5)) = W34 at *
            clear hgx34
            refine hK.out _ _ oA34 (fun hHeld2 => ?_)
            clear hK K hHeld
            have hHeld := hHeld2
            clear hHeld2
            try simp only [Act.put, List.getElem_toArray, List.getElem_cons_zero, List.getElem_cons_succ, List.setIfInBounds_toArray, List.set_cons_zero, List.set_cons_succ]
            refine wpAnyH_ready (rs := [0]) (by kernel_rfl) (by simp) ?_
            refine (AllReadyH.cons rfl (fun K hK => ?_) AllReadyH.nil)
            go_simp
            have hx35 := bl_alloc (bl_refl W34) (.cells #[.int .u8 4] 5)
            have b0_35 := Own.new W34 5 #[.int .u8 4]
            have hne35_1 : W31.heap.size ≠ W34.heap.size := by have := b1_34.lt; omega
            have hlo35 := bb34.size
            have hloA35 := oA34.lt
            have oA35 := oA34.step hx35
            have h2_35 := h2_34.step hx35
            have h3_35 := h3_34.step hx35
            have h4_35 := h4_34.step hx35
            have b1_35 := b1_34.step hx35
            have bb35 := bl_trans bb34 hx35
            generalize hgx35 : (W34.alloc (.cells #[.int .u8 4] 5)) = W35 at *
            clear hgx35
            refine hK.out _ _ oA35 (fun hHeld2 => ?_)
            clear hK K hHeld
            have hHeld := hHeld2
            clear hHeld2
            try simp only [Act.put, List.getElem_toArray, List.getElem_cons_zero, List.getElem_cons_succ, List.setIfInBounds_toArray, List.set_cons_zero, List.set_cons_succ]
            refine wpAnyH_ready (rs := [15]) (by kernel_rfl) (by simp) ?_
            refine (AllReadyH.cons rfl (fun K hK => ?_) AllReadyH.nil)
            go_simp
            have hx := bl_alloc (bl_refl W35) (.cells #[.slice (some ⟨W34.heap.size, 0, none⟩) 1 1, .slice A2_ 2 d2_, .slice A3_ 2 d3_, .slice A4_ 4 d4_, .slice (some ⟨W31.heap.size, 0, none⟩) 1 1, .slice A6 n6 c6] 43)
            have oj := Own.new W35 43 #[.slice (some ⟨W34.heap.size, 0, none⟩) 1 1, .slice A2_ 2 d2_, .slice A3_ 2 d3_, .slice A4_ 4 d4_, .slice (some ⟨W31.heap.size, 0, none⟩) 1 1, .slice A6 n6 c6]
            have hct := Lib.hid (rocat6 (b0_35.step hx) (b1_35.step hx) (h2_35.step hx) (h3_35.step hx) (h4_35.step hx) ((HB6.out.step bb35).step hx) hn6 oj)
            have hdz := bl_trans (bl_trans hb7 bb35) hx
            have oAz := oA35.step hx
            generalize W35.alloc (.cells #[.slice (some ⟨W34.heap.size, 0, none⟩) 1 1, .slice A2_ 2 d2_, .slice A3_ 2 d3_, .slice A4_ 4 d4_, .slice (some ⟨W31.heap.size, 0, none⟩) 1 1, .slice A6 n6 c6] 43) = Wz at *
            refine hK.out _ _ oAz (fun hHeld2 => ?_)
            clear hK K hHeld
            have hHeld := hHeld2
            clear hHeld2
            try simp only [Act.put, List.getElem_toArray, List.getElem_cons_zero, List.getElem_cons_succ, List.setIfInBounds_toArray, List.set_cons_zero, List.set_cons_succ]
            refine wpAnyH_ready (rs := [16]) (by kernel_rfl) (by simp) ?_
            refine (AllReadyH.cons rfl (fun K hK => ?_) AllReadyH.nil)
            go_simp
            go_at_call 74
            refine hct.out.mono ?_
            rintro e wz ⟨Bz, dz, rfl, hxz, hbz⟩
            have hdy := bl_trans hdz hbz
            have oAy := oAz.step hbz
            refine hK.out _ _ oAy (fun hHeld2 => ?_)
            clear hK K hHeld
            have hHeld := hHeld2
            clear hHeld2
            try simp only [Act.put, List.getElem_toArray, List.getElem_cons_zero, List.getElem_cons_succ, List.setIfInBounds_toArray, List.set_cons_zero, List.set_cons_succ]
            refine wpAnyH_take (i := 17) (v := ?_) rfl (by kernel_rfl) (by kernel_rfl) (by kernel_rfl) (fun _ _ _ h => h) (Or.inl ⟨by rfl, ?_⟩) (by assumption) ?_
            rotate_left
            · (intro W hSw; skip; go_simp; try with_reducible rfl)
            simp only [Act.put, List.getElem_toArray, List.getElem_cons_zero, List.getElem_cons_succ, List.setIfInBounds_toArray, List.set_cons_zero, List.set_cons_succ]
            refine wpAnyH_take (i := 18) (v := ?_) rfl (by kernel_rfl) (by kernel_rfl) (by kernel_rfl) (fun _ _ _ h => h) (Or.inl ⟨by rfl, ?_⟩) (by assumption) ?_
            rotate_left
            · (intro W hSw; skip; go_simp; try with_reducible rfl)
            simp only [Act.put, List.getElem_toArray, List.getElem_cons_zero, List.getElem_cons_succ, List.setIfInBounds_toArray, List.set_cons_zero, List.set_cons_succ]
            refine wpAnyH_done (by kernel_rfl) ?_ _
            clear hct
            go_wp2
            go_ret2
            exact obytesR_yes HOK.out HM.out rfl hxz hdy
        · go_simp
          have hx36 := bl_alloc (bl_refl W25) (.cells #[.int .u8 n6] 5)
          have b1_36 := Own.new W25 5 #[.int .u8 n6]
          have hlo36 := bb25.size
          have hloA36 := oA25.lt
          have oA36 := oA25.step hx36
          have h2_36 := h2_25.step hx36
          have h3_36 := h3_25.step hx36
          have bb36 := bl_trans bb25 hx36
          generalize hgx36 : (W25.alloc (.cells #[.int .u8 n6] 5)) = W36 at *
          clear hgx36
          refine hK.out _ _ oA36 (fun hHeld2 => ?_)
          clear hK K hHeld
          have hHeld := hHeld2
          clear hHeld2
          try simp only [Act.put, List.getElem_toArray, List.getElem_cons_zero, List.getElem_cons_succ, List.setIfInBounds_toArray, List.set_cons_zero, List.set_cons_succ]
          refine wpAnyH_ready (rs := [0, 9]) (by kernel_rfl) (by simp) ?_
          refine (AllReadyH.cons rfl (fun K hK => ?_) (AllReadyH.cons rfl (fun K hK => ?_) AllReadyH.nil))
          · go_simp
            have hx37 := bl_alloc (bl_refl W36) (.cells #[.int .u8 4] 5)
            have b0_37 := Own.new W36 5 #[.int .u8 4]
            have hne37_1 : W25.heap.size ≠ W36.heap.size := by have := b1_36.lt; omega
            have hlo37 := bb36.size
            have hloA37 := oA36.lt
            have oA37 := oA36.step hx37
            have h2_37 := h2_36.step hx37
            have h3_37 := h3_36.step hx37
            have b1_37 := b1_36.step hx37
            have bb37 := bl_trans bb36 hx37
            generalize hgx37 : (W36.alloc (.cells #[.int .u8 4] 5)) = W37 at *
            clear hgx37
            refine hK.out _ _ oA37 (fun hHeld2 => ?_)
            clear hK K hHeld
            have hHeld := hHeld2
            clear hHeld2
            try simp only [Act.put, List.getElem_toArray, List.getElem_cons_zero, List.getElem_cons_succ, List.setIfInBounds_toArray, List.set_cons_zero, List.set_cons_succ]
            refine wpAnyH_ready (rs := [9]) (by kernel_rfl) (by simp) ?_
            refine (AllReadyH.cons rfl (fun K hK => ?_) AllReadyH.nil)
            go_simp
            go_at_call 59
            refine (cO3.out W37).mono ?_
            rintro e W38 ⟨A4_, d4_, rfl, h4_38, hx38⟩
            have oA38 := oA37.step hx38
            have h2_38 := h2_37.step hx38
            have h3_38 := h3_37.step hx38
            have b0_38 := b0_37.step hx38
            have b1_38 := b1_37.step hx38
            have bb38 := bl_trans bb37 hx38
            refine hK.out _ _ oA38 (fun hHeld2 => ?_)
            clear hK K hHeld
            have hHeld := hHeld2
            clear hHeld2
            try simp only [Act.put, List.getElem_toArray, List.getElem_cons_zero, List.getElem_cons_succ, List.setIfInBounds_toArray, List.set_cons_zero, List.set_cons_succ]
            refine wpAnyH_ready (rs := [15]) (by kernel_rfl) (by simp) ?_
            refine (AllReadyH.cons rfl (fun K hK => ?_) AllReadyH.nil)
            go_simp
            have hx := bl_alloc (bl_refl W38) (.cells #[.slice (some ⟨W36.heap.size, 0, none⟩) 1 1, .slice A2_ 2 d2_, .slice A3_ 2 d3_, .slice A4_ 4 d4_, .slice (some ⟨W25.heap.size, 0, none⟩) 1 1, .slice A6 n6 c6] 43)
            have oj := Own.new W38 43 #[.slice (some ⟨W36.heap.size, 0, none⟩) 1 1, .slice A2_ 2 d2_, .slice A3_ 2 d3_, .slice A4_ 4 d4_, .slice (some ⟨W25.heap.size, 0, none⟩) 1 1, .slice A6 n6 c6]
            have hct := Lib.hid (rocat6 (b0_38.step hx) (b1_38.step hx) (h2_38.step hx) (h3_38.step hx) (h4_38.step hx) ((HB6.out.step bb38).step hx) hn6 oj)
            have hdz := bl_trans (bl_trans hb7 bb38) hx
            have oAz := oA38.step hx
            generalize W38.alloc (.cells #[.slice (some ⟨W36.heap.size, 0, none⟩) 1 1, .slice A2_ 2 d2_, .slice A3_ 2 d3_, .slice A4_ 4 d4_, .slice (some ⟨W25.heap.size, 0, none⟩) 1 1, .slice A6 n6 c6] 43) = Wz at *
            refine hK.out _ _ oAz (fun hHeld2 => ?_)
            clear hK K hHeld
            have hHeld := hHeld2
            clear hHeld2
            try simp only [Act.put, List.getElem_toArray, List.getElem_cons_zero, List.getElem_cons_succ, List.setIfInBounds_toArray, List.set_cons_zero, List.set_cons_succ]
            refine wpAnyH_ready (rs := [16]) (by kernel_rfl) (by simp) ?_
            refine (AllReadyH.cons rfl (fun K hK => ?_) AllReadyH.nil)
            go_simp
            go_at_call 74
            refine hct.out.mono ?_
            rintro e wz ⟨Bz, dz, rfl, hxz, hbz⟩
            have hdy := bl_trans hdz hbz
            have oAy := oAz.step hbz
            refine hK.out _ _ oAy (fun hHeld2 => ?_)
            clear hK K hHeld
            have hHeld := hHeld2
            clear hHeld2
            try simp only [Act.put, List.getElem_toArray, List.getElem_cons_zero, List.getElem_cons_succ, List.setIfInBounds_toArray, List.set_cons_zero, List.set_cons_succ]
            refine wpAnyH_take (i := 17) (v := ?_) rfl (by kernel_rfl) (by kernel_rfl) (by kernel_rfl) (fun _ _ _ h => h) (Or.inl ⟨by rfl, ?_⟩) (by assumption) ?_
            rotate_left
            · (intro W hSw; skip; go_simp; try with_reducible rfl)
            simp only [Act.put, List.getElem_toArray, List.getElem_cons_zero, List.getElem_cons_succ, List.setIfInBounds_toArray, List.set_cons_zero, List.set_cons_succ]
            refine wpAnyH_take (i := 18) (v := ?_) rfl (by kernel_rfl) (by kernel_rfl) (by kernel_rfl) (fun _ _ _ h => h) (Or.inl ⟨by rfl, ?_⟩) (by assumption) ?_
            rotate_left
            · (intro W hSw; skip; go_simp; try with_reducible rfl)
            simp only [Act.put, List.getElem_toArray, List.getElem_cons_zero, List.getElem_cons_succ, List.setIfInBounds_toArray, List.set_cons_zero, List.set_cons_succ]
            refine wpAnyH_done (by kernel_rfl) ?_ _
            clear hct
            go_wp2
            go_ret2
            exact obytesR_yes HOK.out HM.out rfl hxz hdy
          · go_simp
            go_at_call 59
            refine (cO3.out W36).mono ?_
            rintro e W39 ⟨A4_, d4_, rfl, h4_39, hx39⟩
            have oA39 := oA36.step hx39
            have h2_39 := h2_36.step hx39
            have h3_39 := h3_36.step hx39
            have b1_39 := b1_36.step hx39
            have bb39 := bl_trans bb36 hx39
            refine hK.out _ _ oA39 (fun hHeld2 => ?_)
            clear hK K hHeld
            have hHeld := hHeld2
            clear hHeld2
            try simp only [Act.put, List.getElem_toArray, List.getElem_cons_zero, List.getElem_cons_succ, List.setIfInBounds_toArray, List.set_cons_zero, List.set_cons_succ]
            refine wpAnyH_ready (rs := [0]) (by kernel_rfl) (by simp) ?_
            refine (AllReadyH.cons rfl (fun K hK => ?_) AllReadyH.nil)
            go_simp
            have hx40 := bl_alloc (bl_refl W39) (.cells #[.int .u8 4] 5)
            have b0_40 := Own.new W39 5 #[.int .u8 4]
            have hne40_1 : W25.heap.size ≠ W39.heap.size := by have := b1_39.lt; omega
            have hlo40 := bb39.size
            have hloA40 := oA39.lt
            have oA40 := oA39.step hx40
            have h2_40 := h2_39.step hx40
            have h3_40 := h3_39.step hx40
            have h4_40 := h4_39.step hx40
            have b1_40 := b1_39.step hx40
            have bb40 := bl_trans bb39 hx40
            generalize hgx40 : (W39.alloc (.cells #[.int .u8 4] 5)) = W40 at *
            clear hgx40
            refine hK.out _ _ oA40 (fun hHeld2 => ?_)
            clear hK K hHeld
            have hHeld := hHeld2
            clear hHeld2
            try simp only [Act.put, List.getElem_toArray, List.getElem_cons_zero, List.getElem_cons_succ, List.setIfInBounds_toArray, List.set_cons_zero, List.set_cons_succ]
            refine wpAnyH_ready (rs := [15]) (by kernel_rfl) (by simp) ?_
            refine (AllReadyH.cons rfl (fun K hK => ?_) AllReadyH.nil)
            go_simp
            have hx := bl_alloc (bl_refl W40) (.cells #[.slice (some ⟨W39.heap.size, 0, none⟩) 1 1, .slice A2_ 2 d2_, .slice A3_ 2 d3_, .slice A4_ 4 d4_, .slice (some ⟨W25.heap.size, 0, none⟩) 1 1, .slice A6 n6 c6] 43)
            have oj := Own.new W40 43 #[.slice (some ⟨W39.heap.size, 0, none⟩) 1 1, .slice A2_ 2 d2_, .slice A3_ 2 d3_, .slice A4_ 4 d4_, .slice (some ⟨W25.heap.size, 0, none⟩) 1 1, .slice A6 n6 c6]
            have hct := Lib.hid (rocat6 (b0_40.step hx) (b1_40.step hx) (h2_40.step hx) (h3_40.step hx) (h4_40.step hx) ((HB6.out.step bb40).step hx) hn6 oj)
            have hdz := bl_trans (bl_trans hb7 bb40) hx
            have oAz := oA40.step hx
            generalize W40.alloc (.cells #[.slice (some ⟨W39.heap.size, 0, none⟩) 1 1, .slice A2_ 2 d2_, .slice A3_ 2 d3_, .slice A4_ 4 d4_, .slice (some ⟨W25.heap.size, 0, none⟩) 1 1, .slice A6 n6 c6] 43) = Wz at *
            refine hK.out _ _ oAz (fun hHeld2 => ?_)
            clear hK K hHeld
            have hHeld := hHeld2
            clear hHeld2
            try simp only [Act.put, List.getElem_toArray, List.getElem_cons_zero, List.getElem_cons_succ, List.setIfInBounds_toArray, List.set_cons_zero, List.set_cons_succ]
            refine wpAnyH_ready (rs := [16]) (by kernel_rfl) (by simp) ?_
            refine (AllReadyH.cons rfl (fun K hK => ?_) AllReadyH.nil)
            go_simp
            go_at_call 74
            refine hct.out.mono ?_
            rintro e wz ⟨Bz, dz, rfl, hxz, hbz⟩
            have hdy := bl_trans hdz hbz
            have oAy := oAz.step hbz
            refine hK.out _ _ oAy (fun hHeld2 => ?_)
            clear hK K hHeld
            have hHeld := hHeld2
            clear hHeld2
            try simp only [Act.put, List.getElem_toArray, List.getElem_cons_zero, List.getElem_cons_succ, List.setIfInBounds_toArray, List.set_cons_zero, List.set_cons_succ]
            refine wpAnyH_take (i := 17) (v := ?_) rfl (by kernel_rfl) (by kernel_rfl) (by kernel_rfl) (fun _ _ _ h => h) (Or.inl ⟨by rfl, ?_⟩) (by assumption) ?_
            rotate_left
            · (intro W hSw; skip; go_simp; try with_reducible rfl)
            simp only [Act.put, List.getElem_toArray, List.getElem_cons_zero, List.getElem_cons_succ, List.setIfInBounds_toArray, List.set_cons_zero, List.set_cons_succ]
            refine wpAnyH_take (i := 18) (v := ?_) rfl (by kernel_rfl) (by kernel_rfl) (by kernel_rfl) (fun _ _ _ h => h) (Or.inl ⟨by rfl, ?_⟩) (by assumption) ?_
            rotate_left
            · (intro W hSw; skip; go_simp; try with_reducible rfl)
            simp only [Act.put, List.getElem_toArray, List.getElem_cons_zero, List.getElem_cons_succ, List.setIfInBounds_toArray, List.set_cons_zero, List.set_cons_succ]
            refine wpAnyH_done (by kernel_rfl) ?_ _
            clear hct
            go_wp2
            go_ret2
            exact obytesR_yes HOK.out HM.out rfl hxz hdy
      · go_simp
        have hx41 := bl_alloc (bl_refl W15) (.cells #[.int .u8 n6] 5)
        have b1_41 := Own.new W15 5 #[.int .u8 n6]
        have hlo41 := bb15.size
        have hloA41 := oA15.lt
        have oA41 := oA15.step hx41
        have h2_41 := h2_15.step hx41
        have bb41 := bl_trans bb15 hx41
        generalize hgx41 : (W15.alloc (.cells #[.int .u8 n6] 5)) = W41 at *
        clear hgx41
        refine hK.out _ _ oA41 (fun hHeld2 => ?_)
        clear hK K hHeld
        have hHeld := hHeld2
        clear hHeld2
        try simp only [Act.put, List.getElem_toArray, List.getElem_cons_zero, List.getElem_cons_succ, List.setIfInBounds_toArray, List.set_cons_zero, List.set_cons_succ]
        refine wpAnyH_ready (rs := [0, 6]) (by kernel_rfl) (by simp) ?_
        refine (AllReadyH.cons rfl (fun K hK => ?_) (AllReadyH.cons rfl (fun K hK => ?_) AllReadyH.nil))
        · go_simp
          have hx42 := bl_alloc (bl_refl W41) (.cells #[.int .u8 4] 5)
          have b0_42 := Own.new W41 5 #[.int .u8 4]
          have hne42_1 : W15.heap.size ≠ W41.heap.size := by have := b1_41.lt; omega
          have hlo42 := bb41.size
          have hloA42 := oA41.lt
          have oA42 := oA41.step hx42
          have h2_42 := h2_41.step hx42
          have b1_42 := b1_41.step hx42
          have bb42 := bl_trans bb41 hx42
          generalize hgx42 : (W41.alloc (.cells #[.int .u8 4] 5)) = W42 at *
          clear hgx42
          refine hK.out _ _ oA42 (fun hHeld2 => ?_)
          clear hK K hHeld
          have hHeld := hHeld2
          clear hHeld2
          try simp only [Act.put, List.getElem_toArray, List.getElem_cons_zero, List.getElem_cons_succ, List.setIfInBounds_toArray, List.set_cons_zero, List.set_cons_succ]
          refine wpAnyH_ready (rs := [6]) (by kernel_rfl) (by simp) ?_
          refine (AllReadyH.cons rfl (fun K hK => ?_) AllReadyH.nil)
          go_simp
          go_at_call 59
          refine (cO2.out W42).mono ?_
          rintro e W43 ⟨A3_, d3_, rfl, h3_43, hx43⟩
          have oA43 := oA42.step hx43
          have h2_43 := h2_42.step hx43
          have b0_43 := b0_42.step hx43
          have b1_43 := b1_42.step hx43
          have bb43 := bl_trans bb42 hx43
          refine hK.out _ _ oA43 (fun hHeld2 => ?_)
          clear hK K hHeld
          have hHeld := hHeld2
          clear hHeld2
          try simp only [Act.put, List.getElem_toArray, List.getElem_cons_zero, List.getElem_cons_succ, List.setIfInBounds_toArray, List.set_cons_zero, List.set_cons_succ]
          refine wpAnyH_ready (rs := [9]) (by kernel_rfl) (by simp) ?_
          refine (AllReadyH.cons rfl (fun K hK => ?_) AllReadyH.nil)
          go_simp
          go_at_call 59
          refine (cO3.out W43).mono ?_
          rintro e W44 ⟨A4_, d4_, rfl, h4_44, hx44⟩
          have oA44 := oA43.step hx44
          have h2_44 := h2_43.step hx44
          have h3_44 := h3_43.step hx44
          have b0_44 := b0_43.step hx44
          have b1_44 := b1_43.step hx44
          have bb44 := bl_trans bb43 hx44
          refine hK.out _ _ oA44 (fun hHeld2 => ?_)
          clear hK K hHeld
          have hHeld := hHeld2
          clear hHeld2
          try simp only [Act.put, List.getElem_toArray, List.getElem_cons_zero, List.getElem_cons_succ, List.setIfInBounds_toArray, List.set_cons_zero, List.set_cons_succ]
          refine wpAnyH_ready (rs := [15]) (by kernel_rfl) (by simp) ?_
          refine (AllReadyH.cons rfl (fun K hK => ?_) AllReadyH.nil)
          go_simp
          have hx := bl_alloc (bl_refl W44) (.cells #[.slice (some ⟨W41.heap.size, 0, none⟩) 1 1, .slice A2_ 2 d2_, .slice A3_ 2 d3_, .slice A4_ 4 d4_, .slice (some ⟨W15.heap.size, 0, none⟩) 1 1, .slice A6 n6 c6] 43)
          have oj := Own.new W44 43 #[.slice (some ⟨W41.heap.size, 0, none⟩) 1 1, .slice A2_ 2 d2_, .slice A3_ 2 d3_, .slice A4_ 4 d4_, .slice (some ⟨W15.heap.size, 0, none⟩) 1 1, .slice A6 n6 c6]
          have hct := Lib.hid (rocat6 (b0_44.step hx) (b1_44.step hx) (h2_44.step hx) (h3_44.step hx) (h4_44.step hx) ((HB6.out.step bb44).step hx) hn6 oj)
          have hdz := bl_trans (bl_trans hb7 bb44) hx
          have oAz := oA44.step hx
          generalize W44.alloc (.cells #[.slice (some ⟨W41.heap.size, 0, none⟩) 1 1, .slice A2_ 2 d2_, .slice A3_ 2 d3_, .slice A4_ 4 d4_, .slice (some ⟨W15.heap.size, 0, none⟩) 1 1, .slice A6 n6 c6] 43) = Wz at *
          refine hK.out _ _ oAz (fun hHeld2 => ?_)
          clear hK K hHeld
          have hHeld := hHeld2
          clear hHeld2
          try simp only [Act.put, List.getElem_toArray, List.getElem_cons_zero, List.getElem_cons_succ, List.setIfInBounds_toArray, List.set_cons_zero, List.set_cons_succ]
          refine wpAnyH_ready (rs := [16]) (by kernel_rfl) (by simp) ?_
          refine (AllReadyH.cons rfl (fun K hK => ?_) AllReadyH.nil)
          go_simp
          go_at_call 74
          refine hct.out.mono ?_
          rintro e wz ⟨Bz, dz, rfl, hxz, hbz⟩
          have hdy := bl_trans hdz hbz
          have oAy := oAz.step hbz
          refine hK.out _ _ oAy (fun hHeld2 => ?_)
          clear hK K hHeld
          have hHeld := hHeld2
          clear hHeld2
          try simp only [Act.put, List.getElem_toArray, List.getElem_cons_zero, List.getElem_cons_succ, List.setIfInBounds_toArray, List.set_cons_zero, List.set_cons_succ]
          refine wpAnyH_take (i := 17) (v := ?_) rfl (by kernel_rfl) (by kernel_rfl) (by kernel_rfl) (fun _ _ _ h => h) (Or.inl ⟨by rfl, ?_⟩) (by assumption) ?_
          rotate_left
          · (intro W hSw; skip; go_simp; try with_reducible rfl)
          simp only [Act.put, List.getElem_toArray, List.getElem_cons_zero, List.getElem_cons_succ, List.setIfInBounds_toArray, List.set_cons_zero, List.set_cons_succ]
          refine wpAnyH_take (i := 18) (v := ?_) rfl (by kernel_rfl) (by kernel_rfl) (by kernel_rfl) (fun _ _ _ h => h) (Or.inl ⟨by rfl, ?_⟩) (by assumption) ?_
          rotate_left
          · (intro W hSw; skip; go_simp; try with_reducible rfl)
          simp only [Act.put, List.getElem_toArray, List.getElem_cons_zero, List.getElem_cons_succ, List.setIfInBounds_toArray, List.set_cons_zero, List.set_cons_succ]
          refine wpAnyH_done (by kernel_rfl) ?_ _
          clear hct
          go_wp2
          go_ret2
          exact obytesR_yes HOK.out HM.out rfl hxz hdy
        · go_simp
          go_at_call 59
          refine (cO2.out W41).mono ?_
          rintro e W45 ⟨A3_, d3_, rfl, h3_45, hx45⟩
          have oA45 := oA41.step hx45
          have h2_45 := h2_41.step hx45
          have b1_45 := b1_41.step hx45
          have bb45 := bl_trans bb41 hx45
          refine hK.out _ _ oA45 (fun hHeld2 => ?_)
          clear hK K hHeld
          have hHeld := hHeld2
          clear hHeld2
          try simp only [Act.put, List.getElem_toArray, List.getElem_cons_zero, List.getElem_cons_succ, List.setIfInBounds_toArray, List.set_cons_zero, List.set_cons_succ]
          refine wpAnyH_ready (rs := [0, 9]) (by kernel_rfl) (by simp) ?_
          refine (AllReadyH.cons rfl (fun K hK => ?_) (AllReadyH.cons rfl (fun K hK => ?_) AllReadyH.nil))
          · go_simp
            have hx46 := bl_alloc (bl_refl W45) (.cells #[.int .u8 4] 5)
            have b0_46 := Own.new W45 5 #[.int .u8 4]
            have hne46_1 : W15.heap.size ≠ W45.heap.size := by have := b1_45.lt; omega
            have hlo46 := bb45.size
            have hloA46 := oA45.lt
            have oA46 := oA45.step hx46
            have h2_46 := h2_45.step hx46
            have h3_46 := h3_45.step hx46
            have b1_46 := b1_45.step hx46
            have bb46 := bl_trans bb45 hx46
            generalize hgx46 : (W45.alloc (.cells #[.int .u8 4] 5)) = W46 at *
            clear hgx46
            refine hK.out _ _ oA46 (fun hHeld2 => ?_)
            clear hK K hHeld
            have hHeld := hHeld2
            clear hHeld2
            try simp only [Act.put, List.getElem_toArray, List.getElem_cons_zero, List.getElem_cons_succ, List.setIfInBounds_toArray, List.set_cons_zero, List.set_cons_succ]
            refine wpAnyH_ready (rs := [9]) (by kernel_rfl) (by simp) ?_
            refine (AllReadyH.cons rfl (fun K hK => ?_) AllReadyH.nil)
            go_simp
            go_at_call 59
            refine (cO3.out W46).mono ?_
            rintro e W47 ⟨A4_, d4_, rfl, h4_47, hx47⟩
            have oA47 := oA46.step hx47
            have h2_47 := h2_46.step hx47
            have h3_47 := h3_46.step hx47
            have b0_47 := b0_46.step hx47
            have b1_47 := b1_46.step hx47
            have bb47 := bl_trans bb46 hx47
            refine hK.out _ _ oA47 (fun hHeld2 => ?_)
            clear hK K hHeld
            have hHeld := hHeld2
            clear hHeld2
            try simp only [Act.put, List.getElem_toArray, List.getElem_cons_zero, List.getElem_cons_succ, List.setIfInBounds_toArray, List.set_cons_zero, List.set_cons_succ]
            refine wpAnyH_ready (rs := [15]) (by kernel_rfl) (by simp) ?_
            refine (AllReadyH.cons rfl (fun K hK => ?_) AllReadyH.nil)
            go_simp
            have hx := bl_alloc (bl_refl W47) (.cells #[.slice (some ⟨W45.heap.size, 0, none⟩) 1 1, .slice A2_ 2 d2_, .slice A3_ 2 d3_, .slice A4_ 4 d4_, .slice (some ⟨W15.heap.size, 0, none⟩) 1 1, .slice A6 n6 c6] 43)
            have oj := Own.new W47 43 #[.slice (some ⟨W45.heap.size, 0, none⟩) 1 1, .slice A2_ 2 d2_, .slice A3_ 2 d3_, .slice A4_ 4 d4_, .slice (some ⟨W15.heap.size, 0, none⟩) 1 1, .slice A6 n6 c6]
            have hct := Lib.hid (rocat6 (b0_47.step hx) (b1_47.step hx) (h2_47.step hx) (h3_47.step hx) (h4_47.step hx) ((HB6.out.step bb47).step hx) hn6 oj)
            have hdz := bl_trans (bl_trans hb7 bb47) hx
            have oAz := oA47.step hx
            generalize W47.alloc (.cells #[.slice (some ⟨W45.heap.size, 0, none⟩) 1 1, .slice A2_ 2 d2_, .slice A3_ 2 d3_, .slice A4_ 4 d4_, .slice (some ⟨W15.heap.size, 0, none⟩) 1 1, .slice A6 n6 c6] 43) = Wz at *
            refine hK.out _ _ oAz (fun hHeld2 => ?_)
            clear hK K hHeld
            have hHeld := hHeld2
            clear hHeld2
            try simp only [Act.put, List.getElem_toArray, List.getElem_cons_zero, List.getElem_cons_succ, List.setIfInBounds_toArray, List.set_cons_zero, List.set_cons_succ]
            refine wpAnyH_ready (rs := [16]) (by kernel_rfl) (by simp) ?_
            refine (AllReadyH.cons rfl (fun K hK => ?_) AllReadyH.nil)
            go_simp
            go_at_call 74
            refine hct.out.mono ?_
            rintro e wz ⟨Bz, dz, rfl, hxz, hbz⟩
            have hdy := bl_trans hdz hbz
            have oAy := oAz.step hbz
            refine hK.out _ _ oAy (fun hHeld2 => ?_)
            clear hK K hHeld
            have hHeld := hHeld2
            clear hHeld2
            try simp only [Act.put, List.getElem_toArray, List.getElem_cons_zero, List.getElem_cons_succ, List.setIfInBounds_toArray, List.set_cons_zero, List.set_cons_succ]
            refine wpAnyH_take (i := 17) (v := ?_) rfl (by kernel_rfl) (by kernel_rfl) (by kernel_rfl) (fun _ _ _ h => h) (Or.inl ⟨by rfl, ?_⟩) (by assumption) ?_
            rotate_left
            · (intro W hSw; skip; go_simp; try with_reducible rfl)
            simp only [Act.put, List.getElem_toArray, List.getElem_cons_zero, List.getElem_cons_succ, List.setIfInBounds_toArray, List.set_cons_zero, List.set_cons_succ]
            refine wpAnyH_take (i := 18) (v := ?_) rfl (by kernel_rfl) (by kernel_rfl) (by kernel_rfl) (fun _ _ _ h => h) (Or.inl ⟨by rfl, ?_⟩) (by assumption) ?_
            rotate_left
            · (intro W hSw; skip; go_simp; try with_reducible rfl)
            simp only [Act.put, List.getElem_toArray, List.getElem_cons_zero, List.getElem_cons_succ, List.setIfInBounds_toArray, List.set_cons_zero, List.set_cons_succ]
            refine wpAnyH_done (by kernel_rfl) ?_ _
            clear hct
            go_wp2
            go_ret2
            exact obytesR_yes HOK.out HM.out rfl hxz hdy
          · go_simp
            go_at_call 59
            refine (cO3.out W45).mono ?_
            rintro e W48 ⟨A4_, d4_, rfl, h4_48, hx48⟩
            have oA48 := oA45.step hx48
            have h2_48 := h2_45.step hx48
            have h3_48 := h3_45.step hx48
            have b1_48 := b1_45.step hx48
            have bb48 := bl_trans bb45 hx48
            refine hK.out _ _ oA48 (fun hHeld2 => ?_)
            clear hK K hHeld
            have hHeld := hHeld2
            clear hHeld2
            try simp only [Act.put, List.getElem_toArray, List.getElem_cons_zero, List.getElem_cons_succ, List.setIfInBounds_toArray, List.set_cons_zero, List.set_cons_succ]
            refine wpAnyH_ready (rs := [0]) (by kernel_rfl) (by simp) ?_
            refine (AllReadyH.cons rfl (fun K hK => ?_) AllReadyH.nil)
            go_simp
            have hx49 := bl_alloc (bl_refl W48) (.cells #[.int .u8 4] 5)
            have b0_49 := Own.new W48 5 #[.int .u8 4]
            have hne49_1 : W15.heap.size ≠ W48.heap.size := by have := b1_48.lt; omega
            have hlo49 := bb48.size
            have hloA49 := oA48.lt
            have oA49 := oA48.step hx49
            have h2_49 := h2_48.step hx49
            have h3_49 := h3_48.step hx49
            have h4_49 := h4_48.step hx49
            have b1_49 := b1_48.step hx49
            have bb49 := bl_trans bb48 hx49
            generalize hgx49 : (W48.alloc (.cells #[.int .u8 4] 5)) = W49 at *
            clear hgx49
            refine hK.out _ _ oA49 (fun hHeld2 => ?_)
            clear hK K hHeld
            have hHeld := hHeld2
            clear hHeld2
            try simp only [Act.put, List.getElem_toArray, List.getElem_cons_zero, List.getElem_cons_succ, List.setIfInBounds_toArray, List.set_cons_zero, List.set_cons_succ]
            refine wpAnyH_ready (rs := [15]) (by kernel_rfl) (by simp) ?_
            refine (AllReadyH.cons rfl (fun K hK => ?_) AllReadyH.nil)
            go_simp
            have hx := bl_alloc (bl_refl W49) (.cells #[.slice (some ⟨W48.heap.size, 0, none⟩) 1 1, .slice A2_ 2 d2_, .slice A3_ 2 d3_, .slice A4_ 4 d4_, .slice (some ⟨W15.heap.size, 0, none⟩) 1 1, .slice A6 n6 c6] 43)
            have oj := Own.new W49 43 #[.slice (some ⟨W48.heap.size, 0, none⟩) 1 1, .slice A2_ 2 d2_, .slice A3_ 2 d3_, .slice A4_ 4 d4_, .slice (some ⟨W15.heap.size, 0, none⟩) 1 1, .slice A6 n6 c6]
            have hct := Lib.hid (rocat6 (b0_49.step hx) (b1_49.step hx) (h2_49.step hx) (h3_49.step hx) (h4_49.step hx) ((HB6.out.step bb49).step hx) hn6 oj)
            have hdz := bl_trans (bl_trans hb7 bb49) hx
            have oAz := oA49.step hx
            generalize W49.alloc (.cells #[.slice (some ⟨W48.heap.size, 0, none⟩) 1 1, .slice A2_ 2 d2_, .slice A3_ 2 d3_, .slice A4_ 4 d4_, .slice (some ⟨W15.heap.size, 0, none⟩) 1 1, .slice A6 n6 c6] 43) = Wz at *
            refine hK.out _ _ oAz (fun hHeld2 => ?_)
            clear hK K hHeld
            have hHeld := hHeld2
            clear hHeld2
            try simp only [Act.put, List.getElem_toArray, List.getElem_cons_zero, List.getElem_cons_succ, List.setIfInBounds_toArray, List.set_cons_zero, List.set_cons_succ]
            refine wpAnyH_ready (rs := [16]) (by kernel_rfl) (by simp) ?_
            refine (AllReadyH.cons rfl (fun K hK => ?_) AllReadyH.nil)
            go_simp
            go_at_call 74
            refine hct.out.mono ?_
            rintro e wz ⟨Bz, dz, rfl, hxz, hbz⟩
            have hdy := bl_trans hdz hbz
            have oAy := oAz.step hbz
            refine hK.out _ _ oAy (fun hHeld2 => ?_)
            clear hK K hHeld
            have hHeld := hHeld2
            clear hHeld2
            try simp only [Act.put, List.getElem_toArray, List.getElem_cons_zero, List.getElem_cons_succ, List.setIfInBounds_toArray, List.set_cons_zero, List.set_cons_succ]
            refine wpAnyH_take (i := 17) (v := ?_) rfl (by kernel_rfl) (by kernel_rfl) (by kernel_rfl) (fun _ _ _ h => h) (Or.inl ⟨by rfl, ?_⟩) (by assumption) ?_
            rotate_left
            · (intro W hSw; skip; go_simp; try with_reducible rfl)
            simp only [Act.put, List.getElem_toArray, List.getElem_cons_zero, List.getElem_cons_succ, List.setIfInBounds_toArray, List.set_cons_zero, List.set_cons_succ]
            refine wpAnyH_take (i := 18) (v := ?_) rfl (by kernel_rfl) (by kernel_rfl) (by kernel_rfl) (fun _ _ _ h => h) (Or.inl ⟨by rfl, ?_⟩) (by assumption) ?_
            rotate_left
            · (intro W hSw; skip; go_simp; try with_reducible rfl)
            simp only [Act.put, List.getElem_toArray, List.getElem_cons_zero, List.getElem_cons_succ, List.setIfInBounds_toArray, List.set_cons_zero, List.set_cons_succ]
            refine wpAnyH_done (by kernel_rfl) ?_ _
            clear hct
            go_wp2
            go_ret2
            exact obytesR_yes HOK.out HM.out rfl hxz hdy
    · go_simp
      have hx50 := bl_alloc (bl_refl Y0) (.cells #[.int .u8 n6] 5)
      have b1_50 := Own.new Y0 5 #[.int .u8 n6]
      have hlo50 := bb0.size
      have hloA50 := oA0.lt
      have oA50 := oA0.step hx50
      have bb50 := bl_trans bb0 hx50
      generalize hgx50 : (Y0.alloc (.cells #[.int .u8 n6] 5)) = W50 at *
      clear hgx50
      refine hK.out _ _ oA50 (fun hHeld2 => ?_)
      clear hK K hHeld
      have hHeld := hHeld2
      clear hHeld2
      try simp only [Act.put, List.getElem_toArray, List.getElem_cons_zero, List.getElem_cons_succ, List.setIfInBounds_toArray, List.set_cons_zero, List.set_cons_succ]
      refine wpAnyH_ready (rs := [0, 2]) (by kernel_rfl) (by simp) ?_
      refine (AllReadyH.cons rfl (fun K hK => ?_) (AllReadyH.cons rfl (fun K hK => ?_) AllReadyH.nil))
      · go_simp
        have hx51 := bl_alloc (bl_refl W50) (.cells #[.int .u8 4] 5)
        have b0_51 := Own.new W50 5 #[.int .u8 4]
        have hne51_1 : Y0.heap.size ≠ W50.heap.size := by have := b1_50.lt; omega
        have hlo51 := bb50.size
        have hloA51 := oA50.lt
        have oA51 := oA50.step hx51
        have b1_51 := b1_50.step hx51
        have bb51 := bl_trans bb50 hx51
        generalize hgx51 : (W50.alloc (.cells #[.int .u8 4] 5)) = W51 at *
        clear hgx51
        refine hK.out _ _ oA51 (fun hHeld2 => ?_)
        clear hK K hHeld
        have hHeld := hHeld2
        clear hHeld2
        try simp only [Act.put, List.getElem_toArray, List.getElem_cons_zero, List.getElem_cons_succ, List.setIfInBounds_toArray, List.set_cons_zero, List.set_cons_succ]
        refine wpAnyH_ready (rs := [2]) (by kernel_rfl) (by simp) ?_
        refine (AllReadyH.cons rfl (fun K hK => ?_) AllReadyH.nil)
        go_simp
        go_at_call 59
        refine (cO1.out W51).mono ?_
        rintro e W52 ⟨A2_, d2_, rfl, h2_52, hx52⟩
        have oA52 := oA51.step hx52
        have b0_52 := b0_51.step hx52
        have b1_52 := b1_51.step hx52
        have bb52 := bl_trans bb51 hx52
        refine hK.out _ _ oA52 (fun hHeld2 => ?_)
        clear hK K hHeld
        have hHeld := hHeld2
        clear hHeld2
        try simp only [Act.put, List.getElem_toArray, List.getElem_cons_zero, List.getElem_cons_succ, List.setIfInBounds_toArray, List.set_cons_zero, List.set_cons_succ]
        refine wpAnyH_ready (rs := [6]) (by kernel_rfl) (by simp) ?_
        refine (AllReadyH.cons rfl (fun K hK => ?_) AllReadyH.nil)
        go_simp
        go_at_call 59
        refine (cO2.out W52).mono ?_
        rintro e W53 ⟨A3_, d3_, rfl, h3_53, hx53⟩
        have oA53 := oA52.step hx53
        have h2_53 := h2_52.step hx53
        have b0_53 := b0_52.step hx53
        have b1_53 := b1_52.step hx53
        have bb53 := bl_trans bb52 hx53
        refine hK.out _ _ oA53 (fun hHeld2 => ?_)
        clear hK K hHeld
        have hHeld := hHeld2
        clear hHeld2
        try simp only [Act.put, List.getElem_toArray, List.getElem_cons_zero, List.getElem_cons_succ, List.setIfInBounds_toArray, List.set_cons_zero, List.set_cons_succ]
        refine wpAnyH_ready (rs := [9]) (by kernel_rfl) (by simp) ?_
        refine (AllReadyH.cons rfl (fun K hK => ?_) AllReadyH.nil)
        go_simp
        go_at_call 59
        refine (cO3.out W53).mono ?_
        rintro e W54 ⟨A4_, d4_, rfl, h4_54, hx54⟩
        have oA54 := oA53.step hx54
        have h2_54 := h2_53.step hx54
        have h3_54 := h3_53.step hx54
        have b0_54 := b0_53.step hx54
        have b1_54 := b1_53.step hx54
        have bb54 := bl_trans bb53 hx54
        refine hK.out _ _ oA54 (fun hHeld2 => ?_)
        clear hK K hHeld
        have hHeld := hHeld2
        clear hHeld2
        try simp only [Act.put, List.getElem_toArray, List.getElem_cons_zero, List.getElem_cons_succ, List.setIfInBounds_toArray, List.set_cons_zero, List.set_cons_succ]
        refine wpAnyH_ready (rs := [15]) (by kernel_rfl) (by simp) ?_
        refine (AllReadyH.cons rfl (fun K hK => ?_) AllReadyH.nil)
        go_simp
        have hx := bl_alloc (bl_refl W54) (.cells #[.slice (some ⟨W50.heap.size, 0, none⟩) 1 1, .slice A2_ 2 d2_, .slice A3_ 2 d3_, .slice A4_ 4 d4_, .slice (some ⟨Y0.heap.size, 0, none⟩) 1 1, .slice A6 n6 c6] 43)
        have oj := Own.new W54 43 #[.slice (some ⟨W50.heap.size, 0, none⟩) 1 1, .slice A2_ 2 d2_, .slice A3_ 2 d3_, .slice A4_ 4 d4_, .slice (some ⟨Y0.heap.size, 0, none⟩) 1 1, .slice A6 n6 c6]
        have hct := Lib.hid (rocat6 (b0_54.step hx) (b1_54.step hx) (h2_54.step hx) (h3_54.step hx) (h4_54.step hx) ((HB6.out.step bb54).step hx) hn6 oj)
        have hdz := bl_trans (bl_trans hb7 bb54) hx
        have oAz := oA54.step hx
        generalize W54.alloc (.cells #[.slice (some ⟨W50.heap.size, 0, none⟩) 1 1, .slice A2_ 2 d2_, .slice A3_ 2 d3_, .slice A4_ 4 d4_, .slice (some ⟨Y0.heap.size, 0, none⟩) 1 1, .slice A6 n6 c6] 43) = Wz at *
        refine hK.out _ _ oAz (fun hHeld2 => ?_)
        clear hK K hHeld
        have hHeld := hHeld2
        clear hHeld2
        try simp only [Act.put, List.getElem_toArray, List.getElem_cons_zero, List.getElem_cons_succ, List.setIfInBounds_toArray, List.set_cons_zero, List.set_cons_succ]
        refine wpAnyH_ready (rs := [16]) (by kernel_rfl) (by simp) ?_
        refine (AllReadyH.cons rfl (fun K hK => ?_) AllReadyH.nil)
        go_simp
        go_at_call 74
        refine hct.out.mono ?_
        rintro e wz ⟨Bz, dz, rfl, hxz, hbz⟩
        have hdy := bl_trans hdz hbz
        have oAy := oAz.step hbz
        refine hK.out _ _ oAy (fun hHeld2 => ?_)
        clear hK K hHeld
        have hHeld := hHeld2
        clear hHeld2
        try simp only [Act.put, List.getElem_toArray, List.getElem_cons_zero, List.getElem_cons_succ, List.setIfInBounds_toArray, List.set_cons_zero, List.set_cons_succ]
        refine wpAnyH_take (i := 17) (v := ?_) rfl (by kernel_rfl) (by kernel_rfl) (by kernel_rfl) (fun _ _ _ h => h) (Or.inl ⟨by rfl, ?_⟩) (by assumption) ?_
        rotate_left
        · (intro W hSw; skip; go_simp; try with_reducible rfl)
        simp only [Act.put, List.getElem_toArray, List.getElem_cons_zero, List.getElem_cons_succ, List.setIfInBounds_toArray, List.set_cons_zero, List.set_cons_succ]
        refine wpAnyH_take (i := 18) (v := ?_) rfl (by kernel_rfl) (by kernel_rfl) (by kernel_rfl) (fun _ _ _ h => h) (Or.inl ⟨by rfl, ?_⟩) (by assumption) ?_
        rotate_left
        · (intro W hSw; skip; go_simp; try with_reducible rfl)
        simp only [Act.put, List.getElem_toArray, List.getElem_cons_zero, List.getElem_cons_succ, List.setIfInBounds_toArray, List.set_cons_zero, List.set_cons_succ]
        refine wpAnyH_done (by kernel_rfl) ?_ _
        clear hct
        go_wp2
        go_ret2
        exact obytesR_yes HOK.out HM.out rfl hxz hdy
      · go_simp
        go_at_call 59
        refine (cO1.out W50).mono ?_
        rintro e W55 ⟨A2_, d2_, rfl, h2_55, hx55⟩
        have oA55 := oA50.step hx55
        have b1_55 := b1_50.step hx55
        have bb55 := bl_trans bb50 hx55
        refine hK.out _ _ oA55 (fun hHeld2 => ?_)
        clear hK K hHeld
        have hHeld := hHeld2
        clear hHeld2
        try simp only [Act.put, List.getElem_toArray, List.getElem_cons_zero, List.getElem_cons_succ, List.setIfInBounds_toArray, List.set_cons_zero, List.set_cons_succ]
        refine wpAnyH_ready (rs := [0, 6]) (by kernel_rfl) (by simp) ?_
        refine (AllReadyH.cons rfl (fun K hK => ?_) (AllReadyH.cons rfl (fun K hK => ?_) AllReadyH.nil))
        · go_simp
          have hx56 := bl_alloc (bl_refl W55) (.cells #[.int .u8 4] 5)
          have b0_56 := Own.new W55 5 #[.int .u8 4]
          have hne56_1 : Y0.heap.size ≠ W55.heap.size := by have := b1_55.lt; omega
          have hlo56 := bb55.size
          have hloA56 := oA55.lt
          have oA56 := oA55.step hx56
          have h2_56 := h2_55.step hx56
          have b1_56 := b1_55.step hx56
          have bb56 := bl_trans bb55 hx56
          generalize hgx56 : (W55.alloc (.cells #[.int .u8 4] 5)) = W56 at *
          clear hgx56
          refine hK.out _ _ oA56 (fun hHeld2 => ?_)
          clear hK K hHeld
          have hHeld := hHeld2
          clear hHeld2
          try simp only [Act.put, List.getElem_toArray, List.getElem_cons_zero, List.getElem_cons_succ, List.setIfInBounds_toArray, List.set_cons_zero, List.set_cons_succ]
          refine wpAnyH_ready (rs := [6]) (by kernel_rfl) (by simp) ?_
          refine (AllReadyH.cons rfl (fun K hK => ?_) AllReadyH.nil)
          go_simp
          go_at_call 59
          refine (cO2.out W56).mono ?_
          rintro e W57 ⟨A3_, d3_, rfl, h3_57, hx57⟩
          have oA57 := oA56.step hx57
          have h2_57 := h2_56.step hx57
          have b0_57 := b0_56.step hx57
          have b1_57 := b1_56.step hx57
          have bb57 := bl_trans bb56 hx57
          refine hK.out _ _ oA57 (fun hHeld2 => ?_)
          clear hK K hHeld
          have hHeld := hHeld2
          clear hHeld2
          try simp only [Act.put, List.getElem_toArray, List.getElem_cons_zero, List.getElem_cons_succ, List.setIfInBounds_toArray, List.set_cons_zero, List.set_cons_succ]
          refine wpAnyH_ready (rs := [9]) (by kernel_rfl) (by simp) ?_
          refine (AllReadyH.cons rfl (fun K hK => ?_) AllReadyH.nil)
          go_simp
          go_at_call 59
          refine (cO3.out W57).mono ?_
          rintro e W58 ⟨A4_, d4_, rfl, h4_58, hx58⟩
          have oA58 := oA57.step hx58
          have h2_58 := h2_57.step hx58
          have h3_58 := h3_57.step hx58
          have b0_58 := b0_57.step hx58
          have b1_58 := b1_57.step hx58
          have bb58 := bl_trans bb57 hx58
          refine hK.out _ _ oA58 (fun hHeld2 => ?_)
          clear hK K hHeld
          have hHeld := hHeld2
          clear hHeld2
          try simp only [Act.put, List.getElem_toArray, List.getElem_cons_zero, List.getElem_cons_succ, List.setIfInBounds_toArray, List.set_cons_zero, List.set_cons_succ]
          refine wpAnyH_ready (rs := [15]) (by kernel_rfl) (by simp) ?_
          refine (AllReadyH.cons rfl (fun K hK => ?_) AllReadyH.nil)
          go_simp
          have hx := bl_alloc (bl_refl W58) (.cells #[.slice (some ⟨W55.heap.size, 0, none⟩) 1 1, .slice A2_ 2 d2_, .slice A3_ 2 d3_, .slice A4_ 4 d4_, .slice (some ⟨Y0.heap.size, 0, none⟩) 1 1, .slice A6 n6 c6] 43)
          have oj := Own.new W58 43 #[.slice (some ⟨W55.heap.size, 0, none⟩) 1 1, .slice A2_ 2 d2_, .slice A3_ 2 d3_, .slice A4_ 4 d4_, .slice (some ⟨Y0.heap.size, 0, none⟩) 1 1, .slice A6 n6 c6]
          have hct := Lib.hid (rocat6 (b0_58.step hx) (b1_58.step hx) (h2_58.step hx) (h3_58.step hx) (h4_58.step hx) ((HB6.out.step bb58).step hx) hn6 oj)
          have hdz := bl_trans (bl_trans hb7 bb58) hx
          have oAz := oA58.step hx
          generalize W58.alloc (.cells #[.slice (some ⟨W55.heap.size, 0, none⟩) 1 1, .slice A2_ 2 d2_, .slice A3_ 2 d3_, .slice A4_ 4 d4_, .slice (some ⟨Y0.heap.size, 0, none⟩) 1 1, .slice A6 n6 c6] 43) = Wz at *
          refine hK.out _ _ oAz (fun hHeld2 => ?_)
          clear hK K hHeld
          have hHeld := hHeld2
          clear hHeld2
          try simp only [Act.put, List.getElem_toArray, List.getElem_cons_zero, List.getElem_cons_succ, List.setIfInBounds_toArray, List.set_cons_zero, List.set_cons_succ]
          refine wpAnyH_ready (rs := [16]) (by kernel_rfl) (by simp) ?_
          refine (AllReadyH.cons rfl (fun K hK => ?_) AllReadyH.nil)
          go_simp
          go_at_call 74
          refine hct.out.mono ?_
          rintro e wz ⟨Bz, dz, rfl, hxz, hbz⟩
          have hdy := bl_trans hdz hbz
          have oAy := oAz.step hbz
          refine hK.out _ _ oAy (fun hHeld2 => ?_)
          clear hK K hHeld
          have hHeld := hHeld2
          clear hHeld2
          try simp only [Act.put, List.getElem_toArray, List.getElem_cons_zero, List.getElem_cons_succ, List.setIfInBounds_toArray, List.set_cons_zero, List.set_cons_succ]
          refine wpAnyH_take (i := 17) (v := ?_) rfl (by kernel_rfl) (by kernel_rfl) (by kernel_rfl) (fun _ _ _ h => h) (Or.inl ⟨by rfl, ?_⟩) (by assumption) ?_
          rotate_left
          · (intro W hSw; skip; go_simp; try with_reducible rfl)
          simp only [Act.put, List.getElem_toArray, List.getElem_cons_zero, List.getElem_cons_succ, List.setIfInBounds_toArray, List.set_cons_zero, List.set_cons_succ]
          refine wpAnyH_take (i := 18) (v := ?_) rfl (by kernel_rfl) (by kernel_rfl) (by kernel_rfl) (fun _ _ _ h => h) (Or.inl ⟨by rfl, ?_⟩) (by assumption) ?_
          rotate_left
          · (intro W hSw; skip; go_simp; try with_reducible rfl)
          simp only [Act.put, List.getElem_toArray, List.getElem_cons_zero, List.getElem_cons_succ, List.setIfInBounds_toArray, List.set_cons_zero, List.set_cons_succ]
          refine wpAnyH_done (by kernel_rfl) ?_ _
          clear hct
          go_wp2
          go_ret2
          exact obytesR_yes HOK.out HM.out rfl hxz hdy
        · go_simp
          go_at_call 59
          refine (cO2.out W55).mono ?_
          rintro e W59 ⟨A3_, d3_, rfl, h3_59, hx59⟩
          have oA59 := oA55.step hx59
          have h2_59 := h2_55.step hx59
          have b1_59 := b1_55.step hx59
          have bb59 := bl_trans bb55 hx59
          refine hK.out _ _ oA59 (fun hHeld2 => ?_)
          clear hK K hHeld
          have hHeld := hHeld2
          clear hHeld2
          try simp only [Act.put, List.getElem_toArray, List.getElem_cons_zero, List.getElem_cons_succ, List.setIfInBounds_toArray, List.set_cons_zero, List.set_cons_succ]
          refine wpAnyH_ready (rs := [0, 9]) (by kernel_rfl) (by simp) ?_
          refine (AllReadyH.cons rfl (fun K hK => ?_) (AllReadyH.cons rfl (fun K hK => ?_) AllReadyH.nil))
          · go_simp
            have hx60 := bl_alloc (bl_refl W59) (.cells #[.int .u8 4] 5)
            have b0_60 := Own.new W59 5 #[.int .u8 4]
            have hne60_1 : Y0.heap.size ≠ W59.heap.size := by have := b1_59.lt; omega
            have hlo60 := bb59.size
            have hloA60 := oA59.lt
            have oA60 := oA59.step hx60
            have h2_60 := h2_59.step hx60
            have h3_60 := h3_59.step hx60
            have b1_60 := b1_59.step hx60
            have bb60 := bl_trans bb59 hx60
            generalize hgx60 : (W59.alloc (.cells #[.int .u8 4] 5)) = W60 at *
            clear hgx60
            refine hK.out _ _ oA60 (fun hHeld2 => ?_)
            clear hK K hHeld
            have hHeld := hHeld2
            clear hHeld2
            try simp only [Act.put, List.getElem_toArray, List.getElem_cons_zero, List.getElem_cons_succ, List.setIfInBounds_toArray, List.set_cons_zero, List.set_cons_succ]
            refine wpAnyH_ready (rs := [9]) (by kernel_rfl) (by simp) ?_
            refine (AllReadyH.cons rfl (fun K hK => ?_) AllReadyH.nil)
            go_simp
            go_at_call 59
            refine (cO3.out W60).mono ?_
            rintro e W61 ⟨A4_, d4_, rfl, h4_61, hx61⟩
            have oA61 := oA60.step hx61
            have h2_61 := h2_60.step hx61
            have h3_61 := h3_60.step hx61
            have b0_61 := b0_60.step hx61
            have b1_61 := b1_60.step hx61
            have bb61 := bl_trans bb60 hx61
            refine hK.out _ _ oA61 (fun hHeld2 => ?_)
            clear hK K hHeld
            have hHeld := hHeld2
            clear hHeld2
            try simp only [Act.put, List.getElem_toArray, List.getElem_cons_zero, List.getElem_cons_succ, List.setIfInBounds_toArray, List.set_cons_zero, List.set_cons_succ]
            refine wpAnyH_ready (rs := [15]) (by kernel_rfl) (by simp) ?_
            refine (AllReadyH.cons rfl (fun K hK => ?_) AllReadyH.nil)
            go_simp
            have hx := bl_alloc (bl_refl W61) (.cells #[.slice (some ⟨W59.heap.size, 0, none⟩) 1 1, .slice A2_ 2 d2_, .slice A3_ 2 d3_, .slice A4_ 4 d4_, .slice (some ⟨Y0.heap.size, 0, none⟩) 1 1, .slice A6 n6 c6] 43)
            have oj := Own.new W61 43 #[.slice (some ⟨W59.heap.size, 0, none⟩) 1 1, .slice A2_ 2 d2_, .slice A3_ 2 d3_, .slice A4_ 4 d4_, .slice (some ⟨Y0.heap.size, 0, none⟩) 1 1, .slice A6 n6 c6]
            have hct := Lib.hid (rocat6 (b0_61.step hx) (b1_61.step hx) (h2_61.step hx) (h3_61.step hx) (h4_61.step hx) ((HB6.out.step bb61).step hx) hn6 oj)
            have hdz := bl_trans (bl_trans hb7 bb61) hx
            have oAz := oA61.step hx
            generalize W61.alloc (.cells #[.slice (some ⟨W59.heap.size, 0, none⟩) 1 1, .slice A2_ 2 d2_, .slice A3_ 2 d3_, .slice A4_ 4 d4_, .slice (some ⟨Y0.heap.size, 0, none⟩) 1 1, .slice A6 n6 c6] 43) = Wz at *
            refine hK.out _ _ oAz (fun hHeld2 => ?_)
            clear hK K hHeld
            have hHeld := hHeld2
            clear hHeld2
            try simp only [Act.put, List.getElem_toArray, List.getElem_cons_zero, List.getElem_cons_succ, List.setIfInBounds_toArray, List.set_cons_zero, List.set_cons_succ]
            refine wpAnyH_ready (rs := [16]) (by kernel_rfl) (by simp) ?_
            refine (AllReadyH.cons rfl (fun K hK => ?_) AllReadyH.nil)
            go_simp
            go_at_call 74
            refine hct.out.mono ?_
            rintro e wz ⟨Bz, dz, rfl, hxz, hbz⟩
            have hdy := bl_trans hdz hbz
            have oAy := oAz.step hbz
            refine hK.out _ _ oAy (fun hHeld2 => ?_)
            clear hK K hHeld
            have hHeld := hHeld2
            clear hHeld2
            try simp only [Act.put, List.getElem_toArray, List.getElem_cons_zero, List.getElem_cons_succ, List.setIfInBounds_toArray, List.set_cons_zero, List.set_cons_succ]
            refine wpAnyH_take (i := 17) (v := ?_) rfl (by kernel_rfl) (by kernel_rfl) (by kernel_rfl) (fun _ _ _ h => h) (Or.inl ⟨by rfl, ?_⟩) (by assumption) ?_
            rotate_left
            · (intro W hSw; skip; go_simp; try with_reducible rfl)
            simp only [Act.put, List.getElem_toArray, List.getElem_cons_zero, List.getElem_cons_succ, List.setIfInBounds_toArray, List.set_cons_zero, List.set_cons_succ]
            refine wpAnyH_take (i := 18) (v := ?_) rfl (by kernel_rfl) (by kernel_rfl) (by kernel_rfl) (fun _ _ _ h => h) (Or.inl ⟨by rfl, ?_⟩) (by assumption) ?_
            rotate_left
            · (intro W hSw; skip; go_simp; try with_reducible rfl)
            simp only [Act.put, List.getElem_toArray, List.getElem_cons_zero, List.getElem_cons_succ, List.setIfInBounds_toArray, List.set_cons_zero, List.set_cons_succ]
            refine wpAnyH_done (by kernel_rfl) ?_ _
            clear hct
            go_wp2
            go_ret2
            exact obytesR_yes HOK.out HM.out rfl hxz hdy
          · go_simp
            go_at_call 59
            refine (cO3.out W59).mono ?_
            rintro e W62 ⟨A4_, d4_, rfl, h4_62, hx62⟩
            have oA62 := oA59.step hx62
            have h2_62 := h2_59.step hx62
            have h3_62 := h3_59.step hx62
            have b1_62 := b1_59.step hx62
            have bb62 := bl_trans bb59 hx62
            refine hK.out _ _ oA62 (fun hHeld2 => ?_)
            clear hK K hHeld
            have hHeld := hHeld2
            clear hHeld2
            try simp only [Act.put, List.getElem_toArray, List.getElem_cons_zero, List.getElem_cons_succ, List.setIfInBounds_toArray, List.set_cons_zero, List.set_cons_succ]
            refine wpAnyH_ready (rs := [0]) (by kernel_rfl) (by simp) ?_
            refine (AllReadyH.cons rfl (fun K hK => ?_) AllReadyH.nil)
            go_simp
            have hx63 := bl_alloc (bl_refl W62) (.cells #[.int .u8 4] 5)
            have b0_63 := Own.new W62 5 #[.int .u8 4]
            have hne63_1 : Y0.heap.size ≠ W62.heap.size := by have := b1_62.lt; omega
            have hlo63 := bb62.size
            have hloA63 := oA62.lt
            have oA63 := oA62.step hx63
            have h2_63 := h2_62.step hx63
            have h3_63 := h3_62.step hx63
            have h4_63 := h4_62.step hx63
            have b1_63 := b1_62.step hx63
            have bb63 := bl_trans bb62 hx63
            generalize hgx63 : (W62.alloc (.cells #[.int .u8 4] 5)) = W63 at *
            clear hgx63
            refine hK.out _ _ oA63 (fun hHeld2 => ?_)
            clear hK K hHeld
            have hHeld := hHeld2
            clear hHeld2
            try simp only [Act.put, List.getElem_toArray, List.getElem_cons_zero, List.getElem_cons_succ, List.setIfInBounds_toArray, List.set_cons_zero, List.set_cons_succ]
            refine wpAnyH_ready (rs := [15]) (by kernel_rfl) (by simp) ?_
            refine (AllReadyH.cons rfl (fun K hK => ?_) AllReadyH.nil)
            go_simp
            have hx := bl_alloc (bl_refl W63) (.cells #[.slice (some ⟨W62.heap.size, 0, none⟩) 1 1, .slice A2_ 2 d2_, .slice A3_ 2 d3_, .slice A4_ 4 d4_, .slice (some ⟨Y0.heap.size, 0, none⟩) 1 1, .slice A6 n6 c6] 43)
            have oj := Own.new W63 43 #[.slice (some ⟨W62.heap.size, 0, none⟩) 1 1, .slice A2_ 2 d2_, .slice A3_ 2 d3_, .slice A4_ 4 d4_, .slice (some ⟨Y0.heap.size, 0, none⟩) 1 1, .slice A6 n6 c6]
            have hct := Lib.hid (rocat6 (b0_63.step hx) (b1_63.step hx) (h2_63.step hx) (h3_63.step hx) (h4_63.step hx) ((HB6.out.step bb63).step hx) hn6 oj)
            have hdz := bl_trans (bl_trans hb7 bb63) hx
            have oAz := oA63.step hx
            generalize W63.alloc (.cells #[.slice (some ⟨W62.heap.size, 0, none⟩) 1 1, .slice A2_ 2 d2_, .slice A3_ 2 d3_, .slice A4_ 4 d4_, .slice (some ⟨Y0.heap.size, 0, none⟩) 1 1, .slice A6 n6 c6] 43) = Wz at *
            refine hK.out _ _ oAz (fun hHeld2 => ?_)
            clear hK K hHeld
            have hHeld := hHeld2
            clear hHeld2
            try simp only [Act.put, List.getElem_toArray, List.getElem_cons_zero, List.getElem_cons_succ, List.setIfInBounds_toArray, List.set_cons_zero, List.set_cons_succ]
            refine wpAnyH_ready (rs := [16]) (by kernel_rfl) (by simp) ?_
            refine (AllReadyH.cons rfl (fun K hK => ?_) AllReadyH.nil)
            go_simp
            go_at_call 74
            refine hct.out.mono ?_
            rintro e wz ⟨Bz, dz, rfl, hxz, hbz⟩
            have hdy := bl_trans hdz hbz
            have oAy := oAz.step hbz
            refine hK.out _ _ oAy (fun hHeld2 => ?_)
            clear hK K hHeld
            have hHeld := hHeld2
            clear hHeld2
            try simp only [Act.put, List.getElem_toArray, List.getElem_cons_zero, List.getElem_cons_succ, List.setIfInBounds_toArray, List.set_cons_zero, List.set_cons_succ]
            refine wpAnyH_take (i := 17) (v := ?_) rfl (by kernel_rfl) (by kernel_rfl) (by kernel_rfl) (fun _ _ _ h => h) (Or.inl ⟨by rfl, ?_⟩) (by assumption) ?_
            rotate_left
            · (intro W hSw; skip; go_simp; try with_reducible rfl)
            simp only [Act.put, List.getElem_toArray, List.getElem_cons_zero, List.getElem_cons_succ, List.setIfInBounds_toArray, List.set_cons_zero, List.set_cons_succ]
            refine wpAnyH_take (i := 18) (v := ?_) rfl (by kernel_rfl) (by kernel_rfl) (by kernel_rfl) (fun _ _ _ h => h) (Or.inl ⟨by rfl, ?_⟩) (by assumption) ?_
            rotate_left
            · (intro W hSw; skip; go_simp; try with_reducible rfl)
            simp only [Act.put, List.getElem_toArray, List.getElem_cons_zero, List.getElem_cons_succ, List.setIfInBounds_toArray, List.set_cons_zero, List.set_cons_succ]
            refine wpAnyH_done (by kernel_rfl) ?_ _
            clear hct
            go_wp2
            go_ret2
            exact obytesR_yes HOK.out HM.out rfl hxz hdy
end Go.Proofs.YtniheakafkakhaaDoor

/- what both Parses of OPENs give, in one form; peeragelaw17.Back; peerageref04.Same -/
namespace Go.Proofs.YtniheakafkakhaaDoor
open Go.RowKit Go.Sort
set_option maxRecDepth 100000 in
theorem rsame1_same (A A2 : Option Addr) (n n2 c c2 : Nat) (xs : List Int) (w : World) (B B2 : Nat) (hx : Bytes w B A n xs) (hy : Bytes w B2 A2 n2 xs) :
    Calls Tryd.prog 58 #[.slice A n c, .slice A2 n2 c2] w fun e w' => e = .returned (.bool true) ∧ w = w' := by
  have h1 := bytes_str (c := c) hx
  have h2 := bytes_str (c := c2) hy
  generalize strOfNums xs = s at h1 h2
  go_enter Tryd.func58, Tryd.ntmps58
  go_wp2
  go_ret
  exact ⟨by simp, rfl⟩
set_option maxRecDepth 100000 in
set_option maxHeartbeats 800000 in
theorem vsame_same (a b c d : Int) (A A2 : Option Addr) (n n2 c1 c2 : Nat) (xs : List Int) (w : World) (hx : Bytes w w.heap.size A n xs) (hy : Bytes w w.heap.size A2 n2 xs) :
    Calls Tryd.prog 32 #[.agg #[.int .i64 a, .int .i64 b, .int .i64 c, .slice A n c1, .int .i64 d], .agg #[.int .i64 a, .int .i64 b, .int .i64 c, .slice A2 n2 c2, .int .i64 d]] w fun e w' => e = .returned (.bool true) ∧ Below w.heap.size w w' := by
  have hb := bl_alloc (bl_alloc (bl_refl w) (.cells #[.int .i64 a, .int .i64 b, .int .i64 c, .slice A n c1, .int .i64 d] 55)) (.cells #[.int .i64 a, .int .i64 b, .int .i64 c, .slice A2 n2 c2, .int .i64 d] 55)
  have hx1 := hx.below hb
  have hy1 := hy.below hb
  have qa : (a == a) = true := by simp
  have qb : (b == b) = true := by simp
  have qc : (c == c) = true := by simp
  have qd : (d == d) = true := by simp
  go_enter Tryd.func32, Tryd.ntmps32
  go_wp2_with fail
  refine (rsame1_same _ _ _ _ _ _ _ _ _ _ hx1 hy1).mono ?_
  rintro e w1 ⟨rfl, rfl⟩
  go_wp2
  go_ret
  exact ⟨rfl, hb⟩
set_option maxRecDepth 100000 in
set_option maxHeartbeats 1600000 in
theorem back17_any (p q r : Int) (A : Option Addr) (n c : Nat) (ss : List Cp) (w : World) (h : Caps w w.heap.size A n ss) (hn : n ≤ 100000) :
    Calls Tryd.prog 34 #[.agg #[.int .u32 p, .int .i64 q, .int .u32 r, .slice A n c]] w fun e w' => ∃ A' c', e = .returned (.agg #[.int .u32 p, .int .i64 q, .int .u32 r, .slice A' n c']) ∧ Caps w' w'.heap.size A' n ss ∧ Below w.heap.size w w' := by
  have hb0 := bl_alloc (bl_alloc (bl_refl w) (.cells #[.int .u32 p, .int .i64 q, .int .u32 r, .slice A n c] 47)) (.cells #[.int .u32 0, .int .i64 0, .int .u32 0, .slice none 0 0] 41)
  have o0 := (Own.new w 47 #[.int .u32 p, .int .i64 q, .int .u32 r, .slice A n c]).alloc (.cells #[.int .u32 0, .int .i64 0, .int .u32 0, .slice none 0 0] 41)
  have o1 := Own.new (w.alloc (.cells #[.int .u32 p, .int .i64 q, .int .u32 r, .slice A n c] 47)) 41 #[.int .u32 0, .int .i64 0, .int .u32 0, .slice none 0 0]
  have HC := Lib.hid (h.step hb0)
  rw [show (w.alloc (.cells #[.int .u32 p, .int .i64 q, .int .u32 r, .slice A n c] 47)).heap.size = w.heap.size + 1 by simp] at o1
  clear h
  go_enter Tryd.func34, Tryd.ntmps34
  go_wp2_with fail
  generalize ((w.alloc (.cells #[.int .u32 p, .int .i64 q, .int .u32 r, .slice A n c] 47)).alloc (.cells #[.int .u32 0, .int .i64 0, .int .u32 0, .slice none 0 0] 41)) = X at *
  refine wp_region_held_drew (S := (fun X => Own X w.heap.size 47 #[.int .u32 p, .int .i64 q, .int .u32 r, .slice A n c])) (by kernel_rfl) o0.drew (fun hHeld => ?_)
  refine wpAnyH_take (i := 0) (v := ?_) rfl (by kernel_rfl) (by kernel_rfl) (by kernel_rfl) (fun _ _ _ h => h) (Or.inl ⟨by rfl, ?_⟩) (by assumption) ?_
  rotate_left
  · (intro W hSw; have s0 : Own W w.heap.size 47 #[.int .u32 p, .int .i64 q, .int .u32 r, .slice A n c] := hSw; obtain ⟨e0, e1, e2, e3⟩ := own_end s0; go_simp; try with_reducible rfl)
  simp only [Act.put, List.getElem_toArray, List.getElem_cons_zero, List.setIfInBounds_toArray, List.set_cons_zero, List.set_cons_succ]
  refine wpAnyH_take (i := 1) (v := ?_) rfl (by kernel_rfl) (by kernel_rfl) (by kernel_rfl) (fun _ _ _ h => h) (Or.inl ⟨by rfl, ?_⟩) (by assumption) ?_
  rotate_left
  · (intro W hSw; have s0 : Own W w.heap.size 47 #[.int .u32 p, .int .i64 q, .int .u32 r, .slice A n c] := hSw; obtain ⟨e0, e1, e2, e3⟩ := own_end s0; go_simp; try with_reducible rfl)
  simp only [Act.put, List.getElem_toArray, List.getElem_cons_zero, List.getElem_cons_succ, List.setIfInBounds_toArray, List.set_cons_zero, List.set_cons_succ]
  refine wpAnyH_take (i := 2) (v := ?_) rfl (by kernel_rfl) (by kernel_rfl) (by kernel_rfl) (fun _ _ _ h => h) (Or.inl ⟨by rfl, ?_⟩) (by assumption) ?_
  rotate_left
  · (intro W hSw; have s0 : Own W w.heap.size 47 #[.int .u32 p, .int .i64 q, .int .u32 r, .slice A n c] := hSw; obtain ⟨e0, e1, e2, e3⟩ := own_end s0; go_simp; try with_reducible rfl)
  simp only [Act.put, List.getElem_toArray, List.getElem_cons_zero, List.getElem_cons_succ, List.setIfInBounds_toArray, List.set_cons_zero, List.set_cons_succ]
  refine wpAnyH_take (i := 3) (v := ?_) rfl (by kernel_rfl) (by kernel_rfl) (by kernel_rfl) (fun _ _ _ h => h) (Or.inl ⟨by rfl, ?_⟩) (by assumption) ?_
  rotate_left
  · (intro W hSw; have s0 : Own W w.heap.size 47 #[.int .u32 p, .int .i64 q, .int .u32 r, .slice A n c] := hSw; obtain ⟨e0, e1, e2, e3⟩ := own_end s0; go_simp; try with_reducible rfl)
  simp only [Act.put, List.getElem_toArray, List.getElem_cons_zero, List.getElem_cons_succ, List.setIfInBounds_toArray, List.set_cons_zero, List.set_cons_succ]
  refine wpAnyH_take (i := 4) (v := ?_) rfl (by kernel_rfl) (by kernel_rfl) (by kernel_rfl) (fun _ _ _ h => h) (Or.inl ⟨by rfl, ?_⟩) (by assumption) ?_
  rotate_left
  · (intro W hSw; have s0 : Own W w.heap.size 47 #[.int .u32 p, .int .i64 q, .int .u32 r, .slice A n c] := hSw; obtain ⟨e0, e1, e2, e3⟩ := own_end s0; go_simp; try with_reducible rfl)
  simp only [Act.put, List.getElem_toArray, List.getElem_cons_zero, List.getElem_cons_succ, List.setIfInBounds_toArray, List.set_cons_zero, List.set_cons_succ]
  refine wpAnyH_take (i := 5) (v := ?_) rfl (by kernel_rfl) (by kernel_rfl) (by kernel_rfl) (fun _ _ _ h => h) (Or.inl ⟨by rfl, ?_⟩) (by assumption) ?_
  rotate_left
  · (intro W hSw; have s0 : Own W w.heap.size 47 #[.int .u32 p, .int .i64 q, .int .u32 r, .slice A n c] := hSw; obtain ⟨e0, e1, e2, e3⟩ := own_end s0; go_simp; try with_reducible rfl)
  simp only [Act.put, List.getElem_toArray, List.getElem_cons_zero, List.getElem_cons_succ, List.setIfInBounds_toArray, List.set_cons_zero, List.set_cons_succ]
  refine wpAnyH_take (i := 6) (v := ?_) rfl (by kernel_rfl) (by kernel_rfl) (by kernel_rfl) (fun _ _ _ h => h) (Or.inl ⟨by rfl, ?_⟩) (by assumption) ?_
  rotate_left
  · (intro W hSw; have s0 : Own W w.heap.size 47 #[.int .u32 p, .int .i64 q, .int .u32 r, .slice A n c] := hSw; obtain ⟨e0, e1, e2, e3⟩ := own_end s0; go_simp; try with_reducible rfl)
  simp only [Act.put, List.getElem_toArray, List.getElem_cons_zero, List.getElem_cons_succ, List.setIfInBounds_toArray, List.set_cons_zero, List.set_cons_succ]
  refine wpAnyH_take (i := 7) (v := ?_) rfl (by kernel_rfl) (by kernel_rfl) (by kernel_rfl) (fun _ _ _ h => h) (Or.inl ⟨by rfl, ?_⟩) (by assumption) ?_
  rotate_left
  · (intro W hSw; have s0 : Own W w.heap.size 47 #[.int .u32 p, .int .i64 q, .int .u32 r, .slice A n c] := hSw; obtain ⟨e0, e1, e2, e3⟩ := own_end s0; go_simp; try with_reducible rfl)
  simp only [Act.put, List.getElem_toArray, List.getElem_cons_zero, List.getElem_cons_succ, List.setIfInBounds_toArray, List.set_cons_zero, List.set_cons_succ]
  refine wpAnyH_ready (rs := [8]) (by kernel_rfl) (by simp) ?_
  refine (AllReadyH.cons rfl (fun K hK => ?_) AllReadyH.nil)
  go_simp
  go_at_call 13
  refine (back16_any A n c ss X.drew (HC.out.step (bl_drewN (bl_refl X) 1)) hn).mono ?_
  rintro e w2 ⟨A2, c2, rfl, hC2, hb2⟩
  have hb3 := bl_trans (bl_drewN (bl_refl X) 1) hb2
  have o2 := o0.step hb3
  have o3 := o1.step hb3
  refine hK.out _ _ o2 (fun hHeld2 => ?_)
  clear hK K hHeld
  have hHeld := hHeld2
  clear hHeld2
  try simp only [Act.put, List.getElem_toArray, List.getElem_cons_zero, List.getElem_cons_succ, List.setIfInBounds_toArray, List.set_cons_zero, List.set_cons_succ]
  refine wpAnyH_take (i := 9) (v := ?_) rfl (by kernel_rfl) (by kernel_rfl) (by kernel_rfl) (fun _ _ _ h => h) (Or.inl ⟨by rfl, ?_⟩) (by assumption) ?_
  rotate_left
  · (intro W hSw; skip; go_simp; try with_reducible rfl)
  simp only [Act.put, List.getElem_toArray, List.getElem_cons_zero, List.getElem_cons_succ, List.setIfInBounds_toArray, List.set_cons_zero, List.set_cons_succ]
  have oZ := (((o3.set_ 0 (.int .u32 p)).set_ 1 (.int .i64 q)).set_ 2 (.int .u32 r)).set_ 3 (.slice A2 n c2)
  have hbx := bl_trans hb0 hb3
  have hl1 : w.heap.size ≤ w.heap.size + 1 := by omega
  have hl2 := hbx.size
  have hl3 : w2.heap.size ≤ w2.heap.size := Nat.le_refl _
  have hbZ := (((hbx.setCell (p := ⟨w.heap.size + 1, 0, none⟩) hl1 (.int .u32 p)).setCell (p := ⟨w.heap.size + 1, 1, none⟩) hl1 (.int .i64 q)).setCell (p := ⟨w.heap.size + 1, 2, none⟩) hl1 (.int .u32 r)).setCell (p := ⟨w.heap.size + 1, 3, none⟩) hl1 (.slice A2 n c2)
  have hCZ : Caps ((((w2.setCell ⟨w.heap.size + 1, 0, none⟩ (.int .u32 p)).setCell ⟨w.heap.size + 1, 1, none⟩ (.int .i64 q)).setCell ⟨w.heap.size + 1, 2, none⟩ (.int .u32 r)).setCell ⟨w.heap.size + 1, 3, none⟩ (.slice A2 n c2)) w2.heap.size A2 n ss := (((hC2.otherW o3 (noCap_open 0 0 0 _ (by simp) (by simp)) 0 (.int .u32 p)).otherW (o3.set_ 0 (.int .u32 p)) (noCap_open p 0 0 _ (by simp) (by simp)) 1 (.int .i64 q)).otherW ((o3.set_ 0 (.int .u32 p)).set_ 1 (.int .i64 q)) (noCap_open p q 0 _ (by simp) (by simp)) 2 (.int .u32 r)).otherW (((o3.set_ 0 (.int .u32 p)).set_ 1 (.int .i64 q)).set_ 2 (.int .u32 r)) (noCap_open p q r _ (by simp) (by simp)) 3 (.slice A2 n c2)
  have oY := (((o2.far (p := ⟨w.heap.size + 1, 0, none⟩) (by show _ ≠ _; simp <;> omega) (.int .u32 p)).far (p := ⟨w.heap.size + 1, 1, none⟩) (by show _ ≠ _; simp <;> omega) (.int .i64 q)).far (p := ⟨w.heap.size + 1, 2, none⟩) (by show _ ≠ _; simp <;> omega) (.int .u32 r)).far (p := ⟨w.heap.size + 1, 3, none⟩) (by show _ ≠ _; simp <;> omega) (.slice A2 n c2)
  refine wpAnyH_ready (rs := [10]) (by kernel_rfl) (by simp) ?_
  refine (AllReadyH.cons rfl (fun K hK => ?_) AllReadyH.nil)
  have z0 := o3.frozen 0
  have z1 := o3.frozen 1
  have z2 := o3.frozen 2
  have z3 := o3.frozen 3
  obtain ⟨y0, y1, y2, y3⟩ := own_end o3
  go_simp
  refine hK.out _ _ oY (fun hHeld2 => ?_)
  clear hK K hHeld
  have hHeld := hHeld2
  clear hHeld2
  try simp only [Act.put, List.getElem_toArray, List.getElem_cons_zero, List.getElem_cons_succ, List.setIfInBounds_toArray, List.set_cons_zero, List.set_cons_succ]
  refine wpAnyH_done (by kernel_rfl) ?_ _
  go_wp2
  exact bodyPost_ret (results_cell1N (p := 2) (fn := Tryd.f34) rfl _ _ (w.heap.size + 1) 41 #[.int .u32 p, .int .i64 q, .int .u32 r, .slice A2 n c2] _ rfl oZ ro_descP rfl (ro_infoP _ _ _ _)) rfl ⟨A2, c2, rfl, hCZ.more (by simp), hbZ⟩
/-- The OPEN and the verdict of an answer. -/
def oAns (r : (Int × Int × List Int) ⊕ (Int × Int × Int × List (Int × List Int))) : (Int × Int × Int × List (Int × List Int)) × (Int × Int × Int × Int × List Int) := match r with
  | .inl (s, t, ds) => ((0, 0, 0, []), (4, 2, s, t, ds))
  | .inr (a, hd, id, N) => ((a, hd, id, N), (0, 0, 0, 0, []))
theorem kform_len : ∀ (N : List (Int × List Int)), 2 * N.length ≤ (N.flatMap kFormC).length
  | [] => Nat.zero_le _
  | p :: N => by
    have := kform_len N
    have h2 : 2 ≤ (kFormC p).length := by
      unfold kFormC
      simp only [List.length_cons]
      omega
    rw [List.flatMap_cons, List.length_append, List.length_cons]
    omega
theorem oAns_few {bs : List Int} (hb : byteC bs) : (oAns (oParse bs)).1.2.2.2.length ≤ 200 := by
  cases h : oParse bs with
  | inl e => obtain ⟨s, t, ds⟩ := e; exact Nat.zero_le _
  | inr x =>
    obtain ⟨a, hd, id, N⟩ := x
    have := (oParse_good hb h).1.2.2.2.2.1
    have h2 := kform_len N
    show N.length ≤ 200
    omega
theorem OPR.join {bs : List Int} {w w' : World} {e : Ending} (hb : byteC bs) (h : OPR bs w e w') : ∃ A c L D dn dc, e = .returned (.tuple #[.agg #[.int .u32 (oAns (oParse bs)).1.1, .int .i64 (oAns (oParse bs)).1.2.1, .int .u32 (oAns (oParse bs)).1.2.2.1, .slice A L.length c], .agg #[.int .i64 (oAns (oParse bs)).2.1, .int .i64 (oAns (oParse bs)).2.2.1, .int .i64 (oAns (oParse bs)).2.2.2.1, .slice D dn dc, .int .i64 (oAns (oParse bs)).2.2.2.2.1]]) ∧ Caps w' w'.heap.size A L.length L ∧ L.map cpK = (oAns (oParse bs)).1.2.2.2 ∧ L.length ≤ 200 ∧ Bytes w' w'.heap.size D dn (oAns (oParse bs)).2.2.2.2.2 ∧ Below w.heap.size w w' := by
  have hf := oAns_few hb
  rcases h with ⟨s, t, ds, D, dn, dc, hp, rfl, hB, hbl⟩ | ⟨a, hd, id, A, n, c, L, hp, rfl, hC, hbl⟩
  · rw [hp]
    exact ⟨none, 0, [], D, dn, dc, rfl, caps_nilO _ _, rfl, by simp, hB, hbl⟩
  · rw [← hp] at hf ⊢
    have hn : n = L.length := hC.1
    subst hn
    have hL : L.length ≤ 200 := by have h2 : (L.map cpK).length ≤ 200 := hf; rwa [List.length_map] at h2
    exact ⟨A, c, L, none, 0, 0, rfl, hC, rfl, hL, Bytes.nil _ _ _, hbl⟩
/-- What a Parse leaves, in plain variables. -/
def PRes (a hd id : Int) (N : List (Int × List Int)) (k cd s t : Int) (ds : List Int) (w : World) (e : Ending) (w' : World) : Prop := ∃ A c L D dn dc, e = .returned (.tuple #[.agg #[.int .u32 a, .int .i64 hd, .int .u32 id, .slice A (List.length L) c], .agg #[.int .i64 k, .int .i64 cd, .int .i64 s, .slice D dn dc, .int .i64 t]]) ∧ Caps w' w'.heap.size A L.length L ∧ L.map cpK = N ∧ L.length ≤ 200 ∧ Bytes w' w'.heap.size D dn ds ∧ Below w.heap.size w w'
theorem OPR.res {bs : List Int} {a hd id : Int} {N : List (Int × List Int)} {k cd s t : Int} {ds : List Int} (hq : oAns (oParse bs) = ((a, hd, id, N), (k, cd, s, t, ds))) (hb : byteC bs) {w w' : World} {e : Ending} (h : OPR bs w e w') : PRes a hd id N k cd s t ds w e w' := by
  have h2 := h.join hb
  rw [hq] at h2
  exact h2
/-- What is in the boxes of a Parse's results. -/
def PBx (T : TypeId) (a hd id : Int) (N : List (Int × List Int)) (k cd s t : Int) (ds : List Int) (w : World) (v3 v4 : Value) (wx : World) : Prop := ∃ g1 g2 A c L D dn dc, v3 = .pointer (some ⟨g1, 0, none⟩) ∧ v4 = .pointer (some ⟨g2, 0, none⟩) ∧ Own wx g1 T #[.int .u32 a, .int .i64 hd, .int .u32 id, .slice A (List.length L) c] ∧ Own wx g2 55 #[.int .i64 k, .int .i64 cd, .int .i64 s, .slice D dn dc, .int .i64 t] ∧ Caps wx wx.heap.size A L.length L ∧ L.map cpK = N ∧ L.length ≤ 200 ∧ Bytes wx wx.heap.size D dn ds ∧ Below w.heap.size w wx
end Go.Proofs.YtniheakafkakhaaDoor
