/- capability: what a list of capabilities says (System, Has): the pure words, and System, Has on both sides -/
import Derived.Test.YtniheakafkakhaaDoorCpAl
import Derived.Test.YtniheakafkakhaaDoorCpH
import Derived.Test.YtniheakafkakhaaDoorRdrB
import Derived.Test.YtniheakafkakhaaDoorPfxE
namespace Go.Proofs.YtniheakafkakhaaDoor
open Go.RowKit

/-- Four bytes. -/
structure Q4 where
  a : Int
  b : Int
  c : Int
  d : Int
  ha : 0 ≤ a ∧ a ≤ 255
  hb : 0 ≤ b ∧ b ≤ 255
  hc : 0 ≤ c ∧ c ≤ 255
  hd : 0 ≤ d ∧ d ≤ 255
def by8 (x : Int) : Int := if 0 ≤ x ∧ x ≤ 255 then x else 0
theorem by8_ok (x : Int) : 0 ≤ by8 x ∧ by8 x ≤ 255 := by unfold by8; split <;> omega
theorem by8_eq {x : Int} (h : 0 ≤ x ∧ x ≤ 255) : by8 x = x := if_pos h
/-- The k-th four of some bytes. -/
def q4 (xs : List Int) (k : Nat) : Q4 := ⟨by8 (nth xs (k * 4)), by8 (nth xs (k * 4 + 1)), by8 (nth xs (k * 4 + 2)), by8 (nth xs (k * 4 + 3)), by8_ok _, by8_ok _, by8_ok _, by8_ok _⟩
def q4s (xs : List Int) (k : Nat) : List Q4 := (List.range k).map (q4 xs)
theorem q4s_succ (xs : List Int) (k : Nat) : q4s xs (k + 1) = q4s xs k ++ [q4 xs k] := by simp [q4s, List.range_succ]
theorem q4s_length (xs : List Int) (k : Nat) : (q4s xs k).length = k := by simp [q4s]
/-- The groups of four of a capability of a code. -/
def quadsK (code : Int) (p : Int × List Int) : List Q4 := if p.1 = code ∧ p.2.length % 4 = 0 ∧ (code = 1 → p.2.length = 4) then q4s p.2 (p.2.length / 4) else []
def quads (code : Int) (L : List (Int × List Int)) : List Q4 := L.flatMap (quadsK code)
theorem quads_snoc (code : Int) (L : List (Int × List Int)) (p : Int × List Int) : quads code (L ++ [p]) = quads code L ++ quadsK code p := by unfold quads; rw [List.flatMap_append]; simp
theorem quads_take {code : Int} {ss : List Cp} {j : Nat} (h : j < ss.length) : quads code ((ss.take (j + 1)).map cpK) = quads code ((ss.take j).map cpK) ++ quadsK code (cpK (cpth ss j)) := by rw [take_cpth h, List.map_append, List.map_singleton, quads_snoc]
theorem quads_len {code : Int} {ss : List Cp} {j : Nat} (h : j < ss.length) : (quads code ((ss.take j).map cpK)).length + (quadsK code (cpK (cpth ss j))).length ≤ (quads code (ss.map cpK)).length := by
  have e : ss.map cpK = (ss.take (j + 1)).map cpK ++ (ss.drop (j + 1)).map cpK := by rw [← List.map_append, List.take_append_drop]
  have e2 : quads code (ss.map cpK) = quads code ((ss.take (j + 1)).map cpK) ++ quads code ((ss.drop (j + 1)).map cpK) := by rw [e]; unfold quads; rw [List.flatMap_append]
  rw [e2, quads_take h]
  simp
/-- The number of a system that capabilities name. -/
def isASk (p : Int × List Int) : Bool := decide (p.1 = 65 ∧ p.2.length = 4)
def sysK (L : List (Int × List Int)) : Option Int := (L.find? isASk).map fun p => big p.2
def isHas (code m : Int) (p : Int × List Int) : Bool := decide (p.1 = code ∧ (p.2.length : Int) = m)
def hasK (code m : Int) (L : List (Int × List Int)) : Bool := L.any (isHas code m)

theorem drop_cpth {ss : List Cp} {k : Nat} (h : k < ss.length) : ss.drop k = cpth ss k :: ss.drop (k + 1) := by
  rw [List.drop_eq_getElem_cons h]; simp [cpth, h]
theorem find_noneK {ss : List Cp} {q : Int × List Int → Bool} (h : ss.all (fun s => !q (cpK s)) = true) : (ss.map cpK).find? q = none := by
  rw [List.find?_eq_none]
  intro p hp
  obtain ⟨s, hs, rfl⟩ := List.mem_map.1 hp
  have := List.all_eq_true.1 h s hs
  simpa using this
theorem find_someK {ss : List Cp} {q : Int × List Int → Bool} {i : Nat} (hi : i < ss.length) (hq : q (cpK (cpth ss i)) = true) (h : (ss.take i).all (fun s => !q (cpK s)) = true) : (ss.map cpK).find? q = some (cpK (cpth ss i)) := by
  have e : ss.map cpK = (ss.take i).map cpK ++ cpK (cpth ss i) :: (ss.drop (i + 1)).map cpK := by
    rw [← List.map_cons, ← drop_cpth hi, ← List.map_append, List.take_append_drop]
  rw [e, List.find?_append, find_noneK h]
  simp [hq]
theorem any_noneK {ss : List Cp} {q : Int × List Int → Bool} (h : ss.all (fun s => !q (cpK s)) = true) : (ss.map cpK).any q = false := by
  rw [List.any_eq_false]
  intro p hp
  obtain ⟨s, hs, rfl⟩ := List.mem_map.1 hp
  have := List.all_eq_true.1 h s hs
  simpa using this
theorem any_someK {ss : List Cp} {q : Int × List Int → Bool} {i : Nat} (hi : i < ss.length) (hq : q (cpK (cpth ss i)) = true) : (ss.map cpK).any q = true := by
  rw [List.any_eq_true]
  exact ⟨_, List.mem_map_of_mem (cpth_mem hi), hq⟩
/-- What IndexFunc gives. -/
def IdxR (q : Int × List Int → Bool) (ss : List Cp) (e : Ending) : Prop := (e = .returned (.int .i64 (-1)) ∧ ss.all (fun s => !q (cpK s)) = true) ∨ ∃ i : Nat, i < ss.length ∧ e = .returned (.int .i64 i) ∧ q (cpK (cpth ss i)) = true ∧ (ss.take i).all (fun s => !q (cpK s)) = true
set_option maxRecDepth 100000 in
theorem csysf_any (s : Cp) (w : World) (hl : s.n = s.xs.length) : Calls Tryd.prog 61 #[.agg #[.int .i64 s.k, .slice s.A s.n s.c]] w fun e w' => e = .returned (.bool (isASk (cpK s))) ∧ Below w.heap.size w w' := by
  obtain ⟨k, A, n, c, xs⟩ := s
  dsimp only [cpK] at *
  have hb := bl_alloc (bl_refl w) (.cells #[.int .i64 k, .slice A n c] 83)
  have HQ : Hid (isASk (k, xs) = (decide (k = 65) && decide (n = 4))) := Lib.hid (by unfold isASk; rw [hl, Bool.decide_and])
  clear hl
  by_cases h1 : k = 65
  · by_cases h2 : n = 4
    · have hR := Lib.hid (show isASk (k, xs) = true by rw [HQ.out, h1, h2]; rfl)
      have q1 : (k == 65) = true := by simpa using h1
      have q2 : ((n : Int) == 4) = true := by simp; omega
      clear h1 h2
      go_enter Tryd.func61, Tryd.ntmps61
      go_wp2
      go_ret
      exact ⟨ret_boolC hR.out.symm, hb⟩
    · have hR := Lib.hid (show isASk (k, xs) = false by rw [HQ.out, h1, decide_eq_false h2]; rfl)
      have q1 : (k == 65) = true := by simpa using h1
      have q2 : ((n : Int) == 4) = false := by simp; omega
      clear h1 h2
      go_enter Tryd.func61, Tryd.ntmps61
      go_wp2
      go_ret
      exact ⟨ret_boolC hR.out.symm, hb⟩
  · have hR := Lib.hid (show isASk (k, xs) = false by rw [HQ.out, decide_eq_false h1]; rfl)
    have q1 : (k == 65) = false := by simpa using h1
    clear h1
    go_enter Tryd.func61, Tryd.ntmps61
    go_wp2
    go_ret
    exact ⟨ret_boolC hR.out.symm, hb⟩
set_option maxRecDepth 100000 in
theorem chasf_any (s : Cp) (code m : Int) (g h : Nat) (w : World) (hg : Own w g 3 #[.int .i64 code]) (hh : Own w h 3 #[.int .i64 m]) (hl : s.n = s.xs.length) : Calls Tryd.prog 69 #[.agg #[.int .i64 s.k, .slice s.A s.n s.c], .pointer (some ⟨g, 0, none⟩), .pointer (some ⟨h, 0, none⟩)] w fun e w' => e = .returned (.bool (isHas code m (cpK s))) ∧ Below w.heap.size w w' := by
  obtain ⟨k, A, n, c, xs⟩ := s
  dsimp only [cpK] at *
  have hb := bl_alloc (bl_refl w) (.cells #[.int .i64 k, .slice A n c] 83)
  have HQ : Hid (isHas code m (k, xs) = (decide (k = code) && decide ((n : Int) = m))) := Lib.hid (by unfold isHas; rw [hl, Bool.decide_and])
  have g0 := (hg.alloc (.cells #[.int .i64 k, .slice A n c] 83)).cell (i := 0) (v := .int .i64 code) rfl
  have h0 := (hh.alloc (.cells #[.int .i64 k, .slice A n c] 83)).cell (i := 0) (v := .int .i64 m) rfl
  clear hl hg hh
  by_cases h1 : k = code
  · by_cases h2 : (n : Int) = m
    · have hR := Lib.hid (show isHas code m (k, xs) = true by rw [HQ.out, decide_eq_true h1, decide_eq_true h2]; rfl)
      have q1 : (k == code) = true := by simpa using h1
      have q2 : ((n : Int) == m) = true := by simpa using h2
      clear h1 h2
      go_enter Tryd.func69, Tryd.ntmps69
      go_wp2
      go_ret
      exact ⟨ret_boolC hR.out.symm, hb⟩
    · have hR := Lib.hid (show isHas code m (k, xs) = false by rw [HQ.out, decide_eq_true h1, decide_eq_false h2]; rfl)
      have q1 : (k == code) = true := by simpa using h1
      have q2 : ((n : Int) == m) = false := by simpa using h2
      clear h1 h2
      go_enter Tryd.func69, Tryd.ntmps69
      go_wp2
      go_ret
      exact ⟨ret_boolC hR.out.symm, hb⟩
  · have hR := Lib.hid (show isHas code m (k, xs) = false by rw [HQ.out, decide_eq_false h1]; rfl)
    have q1 : (k == code) = false := by simpa using h1
    clear h1
    go_enter Tryd.func69, Tryd.ntmps69
    go_wp2
    go_ret
    exact ⟨ret_boolC hR.out.symm, hb⟩
set_option maxRecDepth 100000 in
set_option maxHeartbeats 3200000 in
theorem cidx_sys (A : Option Addr) (n c : Nat) (q : Int × List Int → Bool) (ss : List Cp) (w : World) (h : Caps w w.heap.size A n ss) (hn : n ≤ 100000)
    (hC : ∀ s ∈ ss, ∀ W, Below w.heap.size w W → Calls Tryd.prog 61 #[.agg #[.int .i64 s.k, .slice s.A s.n s.c]] W fun e w' => e = .returned (.bool (q (cpK s))) ∧ Below W.heap.size W w') :
    Calls Tryd.prog 60 #[.slice A n c, .func (.func 61) #[] #[]] w fun e w' => Below w.heap.size w w' ∧ IdxR q ss e := by
  have HN := Lib.hid h.1
  have HX := Lib.hid h
  have HC := Lib.hid hC
  clear h hC
  go_enter Tryd.func60, Tryd.ntmps60
  go_wp2
  go_loopw [8] (fun i wr => ∃ k : Nat, k ≤ n ∧ i = .int .i64 k ∧ Hid ((ss.take k).all (fun s => !q (cpK s)) = true) ∧ Below w.heap.size w wr) (fun i _ => n - (intOf i).toNat)
  case atStart => exact ⟨0, Nat.zero_le _, rfl, Lib.hid (by simp), bl_refl _⟩
  case round =>
    obtain ⟨k, hk, rfl, hall, hb⟩ := hrel
    by_cases hlt : k < n
    · obtain ⟨b, o, rfl, hbB, d0, d1⟩ := (HX.out.below hb).at_ hlt
      have hkx := Lib.hid (show k < ss.length by rw [← HN.out]; exact hlt)
      have hYe := Lib.hid (fun h => cpall_step (P := fun s => !q (cpK s)) hkx.out hall.out h)
      have hFo := Lib.hid (fun h => (show IdxR q ss (.returned (.int .i64 k)) from .inr ⟨k, hkx.out, rfl, h, hall.out⟩))
      have hCk := Lib.hid (HC.out _ (cpth_mem hkx.out) wr hb)
      generalize cpth ss k = s at *
      cases he : q (cpK s) with
      | false =>
        have hR := Lib.hid (hYe.out (by rw [he]; rfl))
        rw [he] at hCk
        clear he hYe hFo
        obtain ⟨sk, sA, sn, sc, sx⟩ := s
        dsimp only at *
        go_wp2_with fail
        go_at_call 61
        refine hCk.out.mono ?_
        rintro e w2 ⟨rfl, hb2⟩
        have hb3 := bl_trans hb hb2
        go_wp2
        go_roundw
        case rel => exact ⟨k + 1, by omega, by go_num, hR, hb3⟩
        case measure => simp [intOf]; omega
      | true =>
        have hR := Lib.hid (hFo.out he)
        rw [he] at hCk
        clear he hYe hFo
        obtain ⟨sk, sA, sn, sc, sx⟩ := s
        dsimp only at *
        go_wp2_with fail
        go_at_call 61
        refine hCk.out.mono ?_
        rintro e w2 ⟨rfl, hb2⟩
        have hb3 := bl_trans hb hb2
        go_wp2
        go_ret
        exact ⟨hb3, hR.out⟩
    · obtain rfl : n = k := by omega
      have HE := Lib.hid (show IdxR q ss (.returned (.int .i64 (-1))) from .inl ⟨rfl, cpall_done HN.out hall.out⟩)
      go_wp2
      go_ret
      exact ⟨hb, HE.out⟩
set_option maxRecDepth 100000 in
set_option maxHeartbeats 3200000 in
theorem cidx_has (g h₀ : Nat) (A : Option Addr) (n c : Nat) (q : Int × List Int → Bool) (ss : List Cp) (w : World) (h : Caps w w.heap.size A n ss) (hn : n ≤ 100000)
    (hC : ∀ s ∈ ss, ∀ W, Below w.heap.size w W → Calls Tryd.prog 69 #[.agg #[.int .i64 s.k, .slice s.A s.n s.c], .pointer (some ⟨g, 0, none⟩), .pointer (some ⟨h₀, 0, none⟩)] W fun e w' => e = .returned (.bool (q (cpK s))) ∧ Below W.heap.size W w') :
    Calls Tryd.prog 60 #[.slice A n c, .func (.func 69) #[] #[.pointer (some ⟨g, 0, none⟩), .pointer (some ⟨h₀, 0, none⟩)]] w fun e w' => Below w.heap.size w w' ∧ IdxR q ss e := by
  have HN := Lib.hid h.1
  have HX := Lib.hid h
  have HC := Lib.hid hC
  clear h hC
  go_enter Tryd.func60, Tryd.ntmps60
  go_wp2
  go_loopw [8] (fun i wr => ∃ k : Nat, k ≤ n ∧ i = .int .i64 k ∧ Hid ((ss.take k).all (fun s => !q (cpK s)) = true) ∧ Below w.heap.size w wr) (fun i _ => n - (intOf i).toNat)
  case atStart => exact ⟨0, Nat.zero_le _, rfl, Lib.hid (by simp), bl_refl _⟩
  case round =>
    obtain ⟨k, hk, rfl, hall, hb⟩ := hrel
    by_cases hlt : k < n
    · obtain ⟨b, o, rfl, hbB, d0, d1⟩ := (HX.out.below hb).at_ hlt
      have hkx := Lib.hid (show k < ss.length by rw [← HN.out]; exact hlt)
      have hYe := Lib.hid (fun h => cpall_step (P := fun s => !q (cpK s)) hkx.out hall.out h)
      have hFo := Lib.hid (fun h => (show IdxR q ss (.returned (.int .i64 k)) from .inr ⟨k, hkx.out, rfl, h, hall.out⟩))
      have hCk := Lib.hid (HC.out _ (cpth_mem hkx.out) wr hb)
      generalize cpth ss k = s at *
      cases he : q (cpK s) with
      | false =>
        have hR := Lib.hid (hYe.out (by rw [he]; rfl))
        rw [he] at hCk
        clear he hYe hFo
        obtain ⟨sk, sA, sn, sc, sx⟩ := s
        dsimp only at *
        go_wp2_with fail
        go_at_call 69
        refine hCk.out.mono ?_
        rintro e w2 ⟨rfl, hb2⟩
        have hb3 := bl_trans hb hb2
        go_wp2
        go_roundw
        case rel => exact ⟨k + 1, by omega, by go_num, hR, hb3⟩
        case measure => simp [intOf]; omega
      | true =>
        have hR := Lib.hid (hFo.out he)
        rw [he] at hCk
        clear he hYe hFo
        obtain ⟨sk, sA, sn, sc, sx⟩ := s
        dsimp only at *
        go_wp2_with fail
        go_at_call 69
        refine hCk.out.mono ?_
        rintro e w2 ⟨rfl, hb2⟩
        have hb3 := bl_trans hb hb2
        go_wp2
        go_ret
        exact ⟨hb3, hR.out⟩
    · obtain rfl : n = k := by omega
      have HE := Lib.hid (show IdxR q ss (.returned (.int .i64 (-1))) from .inl ⟨rfl, cpall_done HN.out hall.out⟩)
      go_wp2
      go_ret
      exact ⟨hb, HE.out⟩
set_option maxRecDepth 100000 in
theorem ccont_has (g h₀ : Nat) (A : Option Addr) (n c : Nat) (q : Int × List Int → Bool) (ss : List Cp) (w : World) (h : Caps w w.heap.size A n ss) (hn : n ≤ 100000)
    (hC : ∀ s ∈ ss, ∀ W, Below w.heap.size w W → Calls Tryd.prog 69 #[.agg #[.int .i64 s.k, .slice s.A s.n s.c], .pointer (some ⟨g, 0, none⟩), .pointer (some ⟨h₀, 0, none⟩)] W fun e w' => e = .returned (.bool (q (cpK s))) ∧ Below W.heap.size W w') :
    Calls Tryd.prog 65 #[.slice A n c, .func (.func 69) #[] #[.pointer (some ⟨g, 0, none⟩), .pointer (some ⟨h₀, 0, none⟩)]] w fun e w' => e = .returned (.bool ((ss.map cpK).any q)) ∧ Below w.heap.size w w' := by
  have hI := Lib.hid (cidx_has g h₀ A n c q ss w h hn hC)
  clear h hC
  go_enter Tryd.func65, Tryd.ntmps65
  go_wp2_with fail
  refine hI.out.mono ?_
  rintro e w' ⟨hb, ⟨rfl, h⟩ | ⟨i, hi, rfl, h, _⟩⟩
  · have h2 := Lib.hid (any_noneK h)
    clear h
    go_wp2
    go_ret
    exact ⟨ret_boolC h2.out.symm, hb⟩
  · have h2 := Lib.hid (any_someK hi h)
    have hi : (0 : Int) ≤ (i : Int) := by omega
    clear h
    go_wp2
    go_ret
    exact ⟨ret_boolC h2.out.symm, hb⟩
set_option maxRecDepth 100000 in
theorem num4 (g : Nat) (sx : List Int) (w : World) (h : RdrB w.heap.size w g sx 0) (hl : sx.length = 4) : Calls Tryd.prog 63 #[.pointer (some ⟨g, 0, none⟩), .int .i64 4] w fun e w' => e = .returned (.tuple #[.int .u32 (big sx), .bool true]) ∧ w.grownBy w' (some g) :=
  (number_yesB w.heap.size g sx 0 4 w h (by omega) (by omega) (by omega) (by omega) (by omega)).mono (by
    rintro e w' ⟨rfl, _, hg⟩
    rw [show sx.take (4 : Int).toNat = sx from List.take_of_length_le (by rw [hl]; decide)]
    exact ⟨rfl, hg⟩)
set_option maxRecDepth 100000 in
set_option maxHeartbeats 1600000 in
theorem csys_any (A : Option Addr) (n c : Nat) (ss : List Cp) (w : World) (h : Caps w w.heap.size A n ss) (hn : n ≤ 100000) :
    Calls Tryd.prog 15 #[.slice A n c] w fun e w' => e = .returned (.tuple #[.int .u32 ((sysK (ss.map cpK)).getD 0), .bool (sysK (ss.map cpK)).isSome]) ∧ Below w.heap.size w w' := by
  have HX := Lib.hid h
  have hI := Lib.hid (cidx_sys A n c isASk ss w h hn (fun s m W _ => csysf_any s W (h.2.1 s m).1.1))
  clear h
  go_enter Tryd.func15, Tryd.ntmps15
  go_wp2_with fail
  refine hI.out.mono ?_
  rintro e w1 ⟨hb, ⟨rfl, hno⟩ | ⟨i, hi, rfl, hp, hall⟩⟩
  · have hR := Lib.hid (show sysK (ss.map cpK) = none by unfold sysK; rw [find_noneK hno]; rfl)
    clear hno
    go_wp2
    go_ret2
    exact ⟨by rw [hR.out]; rfl, hb⟩
  · have hin : i < n := by have := HX.out.1; omega
    have hXb := HX.out.below hb
    have hR := Lib.hid (show sysK (ss.map cpK) = some (big (cpth ss i).xs) by unfold sysK; rw [find_someK hi hp hall]; rfl)
    have hx := Lib.hid (((hXb.ok hin).1).more hb.size)
    have hl4 : Hid ((cpth ss i).xs.length = 4) := Lib.hid (by unfold isASk at hp; exact (of_decide_eq_true hp).2)
    have hn4 := (hXb.ok hin).1.1
    rw [hl4.out] at hn4
    obtain ⟨b, o, rfl, hbB, d0, d1⟩ := hXb.at_ hin
    clear hp hall hXb
    generalize cpth ss i = s at *
    obtain ⟨sk, sA, sn, sc, sx⟩ := s
    dsimp only at *
    subst hn4
    have hi0 : ¬ (i : Int) < 0 := by omega
    have hin2 : (i : Int) < (n : Int) := by omega
    go_wp2_with fail
    refine (new_any sA 4 sc sx _ hx.out (by omega)).mono ?_
    rintro e w2 ⟨g, rfl, hg, hrd, hb2⟩
    go_wp2_with fail
    refine (num4 g sx w2 hrd.toB hl4.out).mono ?_
    rintro e w3 ⟨rfl, hg3⟩
    have hb3 := bl_only (bl_trans hb hb2) hg3 (Nat.le_trans hb.size hg)
    go_wp2
    go_ret2
    exact ⟨by rw [hR.out]; rfl, hb3⟩
set_option maxRecDepth 100000 in
theorem chas_any (code m : Int) (A : Option Addr) (n c : Nat) (ss : List Cp) (w : World) (h : Caps w w.heap.size A n ss) (hn : n ≤ 100000) :
    Calls Tryd.prog 20 #[.int .i64 code, .int .i64 m, .slice A n c] w fun e w' => e = .returned (.bool (hasK code m (ss.map cpK))) ∧ Below w.heap.size w w' := by
  have hb0 := bl_alloc (bl_alloc (bl_refl w) (.cells #[.int .i64 code] 3)) (.cells #[.int .i64 m] 3)
  have o1 := (Own.new w 3 #[.int .i64 code]).alloc (.cells #[.int .i64 m] 3)
  have o2 := Own.new (w.alloc (.cells #[.int .i64 code] 3)) 3 #[.int .i64 m]
  rw [World.size_alloc] at o2
  have hX := h.step hb0
  have hC := Lib.hid (show Calls Tryd.prog 65 #[.slice A n c, .func (.func 69) #[] #[.pointer (some ⟨w.heap.size, 0, none⟩), .pointer (some ⟨w.heap.size + 1, 0, none⟩)]] ((w.alloc (.cells #[.int .i64 code] 3)).alloc (.cells #[.int .i64 m] 3)) (fun e w' => e = .returned (.bool (hasK code m (ss.map cpK))) ∧ Below ((w.alloc (.cells #[.int .i64 code] 3)).alloc (.cells #[.int .i64 m] 3)).heap.size ((w.alloc (.cells #[.int .i64 code] 3)).alloc (.cells #[.int .i64 m] 3)) w') from ccont_has w.heap.size (w.heap.size + 1) A n c (isHas code m) ss _ hX hn (fun s hm W hW => chasf_any s code m _ _ W (o1.step hW) (o2.step hW) (hX.2.1 s hm).1.1))
  generalize hasK code m (ss.map cpK) = V at *
  clear o1 o2 hX h
  go_enter Tryd.func20, Tryd.ntmps20
  go_wp2_with fail
  refine hC.out.mono ?_
  rintro e w1 ⟨rfl, hb1⟩
  go_wp2
  go_ret
  exact ⟨rfl, bl_trans hb0 hb1⟩
set_option maxRecDepth 100000 in
set_option maxHeartbeats 1600000 in
theorem rcsys_any (A : Option Addr) (n c : Nat) (ss : List Cp) (w : World) (h : Caps w w.heap.size A n ss) (hn : n ≤ 100000) :
    Calls Tryd.prog 90 #[.slice A n c] w fun e w' => e = .returned (.tuple #[.int .u32 ((sysK (ss.map cpK)).getD 0), .bool (sysK (ss.map cpK)).isSome]) ∧ w = w' := by
  have HN := Lib.hid h.1
  have HV := Lib.hid h
  clear h
  go_enter Tryd.func90, Tryd.ntmps90
  go_wp2
  go_loopw [4] (fun i wr => (∃ j : Nat, j ≤ n ∧ i = .int .i64 j ∧ Hid ((ss.take j).all (fun s => !isASk (cpK s)) = true)) ∧ wr = w) (fun i _ => n - (intOf i).toNat)
  case atStart => exact ⟨⟨0, Nat.zero_le _, rfl, Lib.hid (by simp)⟩, rfl⟩
  case round =>
    obtain ⟨⟨j, hj, rfl, hall⟩, rfl⟩ := hrel
    by_cases hlt : j < n
    · obtain ⟨b, o, rfl, hbB, d0, d1⟩ := HV.out.at_ hlt
      have hj' : Hid (j < ss.length) := Lib.hid (by have := HN.out; omega)
      have hYe := Lib.hid (fun h => cpall_step (P := fun s => !isASk (cpK s)) hj'.out hall.out h)
      have hR := Lib.hid (fun h => find_someK (q := isASk) hj'.out h hall.out)
      have hB := Lib.hid (HV.out.ok hlt).1
      have hQ : Hid (isASk (cpK (cpth ss j)) = (decide ((cpth ss j).k = 65) && decide ((cpth ss j).n = 4))) := Lib.hid (by unfold isASk cpK; rw [Bool.decide_and, ← hB.out.1])
      generalize cpth ss j = v at *
      obtain ⟨k, A1, n1, c1, x1⟩ := v
      dsimp only at *
      by_cases h1 : k = 65
      · have q1 : (k == 65) = true := by simpa using h1
        by_cases h2 : n1 = 4
        · have q2 : ((n1 : Int) == 4) = true := by simp; omega
          have hS := Lib.hid (show sysK (ss.map cpK) = some (big x1) by
            unfold sysK
            rw [hR.out (by rw [hQ.out, decide_eq_true h1, decide_eq_true h2]; rfl)]
            rfl)
          have hn4 : n1 ≤ 4 := by omega
          clear h1 h2 hYe hR hQ
          go_wp2_with fail
          refine (rbig_any A1 n1 c1 x1 _ _ hB.out hn4).mono ?_
          rintro e w1 ⟨rfl, rfl⟩
          go_wp2
          go_ret2
          exact ⟨by rw [hS.out]; rfl, rfl⟩
        · have q2 : ((n1 : Int) == 4) = false := by simp; omega
          have hS := Lib.hid (hYe.out (by rw [hQ.out, decide_eq_true h1, decide_eq_false h2]; rfl))
          clear h1 h2 hYe hR hQ
          go_wp2
          go_roundw
          case rel => exact ⟨⟨j + 1, by omega, by go_num, hS⟩, trivial⟩
          case measure => simp [intOf]; omega
      · have q1 : (k == 65) = false := by simpa using h1
        have hS := Lib.hid (hYe.out (by rw [hQ.out, decide_eq_false h1]; rfl))
        clear h1 hYe hR hQ
        go_wp2
        go_roundw
        case rel => exact ⟨⟨j + 1, by omega, by go_num, hS⟩, trivial⟩
        case measure => simp [intOf]; omega
    · obtain rfl : n = j := by omega
      have hS := Lib.hid (show sysK (ss.map cpK) = none by unfold sysK; rw [find_noneK (cpall_done HN.out hall.out)]; rfl)
      clear hlt hj
      go_wp2
      go_ret2
      exact ⟨by rw [hS.out]; rfl, rfl⟩
set_option maxRecDepth 100000 in
set_option maxHeartbeats 1600000 in
theorem rchas_any (code m : Int) (A : Option Addr) (n c : Nat) (ss : List Cp) (w : World) (h : Caps w w.heap.size A n ss) (hn : n ≤ 100000) :
    Calls Tryd.prog 91 #[.int .i64 code, .int .i64 m, .slice A n c] w fun e w' => e = .returned (.bool (hasK code m (ss.map cpK))) ∧ w = w' := by
  have HN := Lib.hid h.1
  have HV := Lib.hid h
  clear h
  go_enter Tryd.func91, Tryd.ntmps91
  go_wp2
  go_loopw [7] (fun i wr => (∃ j : Nat, j ≤ n ∧ i = .int .i64 j ∧ Hid ((ss.take j).all (fun s => !isHas code m (cpK s)) = true)) ∧ wr = w) (fun i _ => n - (intOf i).toNat)
  case atStart => exact ⟨⟨0, Nat.zero_le _, rfl, Lib.hid (by simp)⟩, rfl⟩
  case round =>
    obtain ⟨⟨j, hj, rfl, hall⟩, rfl⟩ := hrel
    by_cases hlt : j < n
    · obtain ⟨b, o, rfl, hbB, d0, d1⟩ := HV.out.at_ hlt
      have hj' : Hid (j < ss.length) := Lib.hid (by have := HN.out; omega)
      have hYe := Lib.hid (fun h => cpall_step (P := fun s => !isHas code m (cpK s)) hj'.out hall.out h)
      have hR := Lib.hid (fun h => any_someK (q := isHas code m) hj'.out h)
      have hQ : Hid (isHas code m (cpK (cpth ss j)) = (decide ((cpth ss j).k = code) && decide (((cpth ss j).n : Int) = m))) := Lib.hid (by unfold isHas cpK; rw [Bool.decide_and, ← (HV.out.ok hlt).1.1])
      generalize cpth ss j = v at *
      obtain ⟨k, A1, n1, c1, x1⟩ := v
      dsimp only at *
      by_cases h1 : k = code
      · have q1 : (k == code) = true := by simpa using h1
        by_cases h2 : (n1 : Int) = m
        · have q2 : ((n1 : Int) == m) = true := by simpa using h2
          have hS := Lib.hid (show hasK code m (ss.map cpK) = true from hR.out (by rw [hQ.out, decide_eq_true h1, decide_eq_true h2]; rfl))
          clear h1 h2 hYe hR hQ
          go_wp2
          go_ret
          exact ⟨ret_boolC hS.out.symm, rfl⟩
        · have q2 : ((n1 : Int) == m) = false := by simpa using h2
          have hS := Lib.hid (hYe.out (by rw [hQ.out, decide_eq_true h1, decide_eq_false h2]; rfl))
          clear h1 h2 hYe hR hQ
          go_wp2
          go_roundw
          case rel => exact ⟨⟨j + 1, by omega, by go_num, hS⟩, trivial⟩
          case measure => simp [intOf]; omega
      · have q1 : (k == code) = false := by simpa using h1
        have hS := Lib.hid (hYe.out (by rw [hQ.out, decide_eq_false h1]; rfl))
        clear h1 hYe hR hQ
        go_wp2
        go_roundw
        case rel => exact ⟨⟨j + 1, by omega, by go_num, hS⟩, trivial⟩
        case measure => simp [intOf]; omega
    · obtain rfl : n = j := by omega
      have hS := Lib.hid (show hasK code m (ss.map cpK) = false from any_noneK (cpall_done HN.out hall.out))
      clear hlt hj
      go_wp2
      go_ret
      exact ⟨ret_boolC hS.out.symm, rfl⟩
end Go.Proofs.YtniheakafkakhaaDoor
