/- open.fits, open.Bytes, open.Valid -/
import Derived.Test.YtniheakafkakhaaDoorNgM1
import Derived.Test.YtniheakafkakhaaDoorPfxB
import Derived.Test.YtniheakafkakhaaDoorCpC
namespace Go.Proofs.YtniheakafkakhaaDoor
open Go.RowKit Go.Sort
/-- Whether the numbers of an OPEN are right. -/
def numB (p q r : Int) : Bool := !(p == 0) && (!(r == 0) && ((q == 0) || (decide (3 ≤ q) && decide (q ≤ 65535))))
def fitB (p q r sa : Int) (sb : Bool) : Bool := numB p q r && (if sb = true then sa == p else decide (p ≤ 65535))
theorem fitB_q {p q r sa : Int} {sb : Bool} (h : fitB p q r sa sb = true) : 0 ≤ q ∧ q ≤ 65535 := by
  unfold fitB numB at h
  rw [Bool.and_eq_true, Bool.and_eq_true, Bool.and_eq_true, Bool.or_eq_true, Bool.and_eq_true, decide_eq_true_iff, decide_eq_true_iff, beq_iff_eq] at h
  omega
set_option maxRecDepth 100000 in
set_option maxHeartbeats 3200000 in
theorem ofits_any (p q r : Int) (A : Option Addr) (n c : Nat) (ss : List Cp) (w : World) (h : Caps w w.heap.size A n ss) (hn : n ≤ 1000) :
    Calls Tryd.prog 70 #[.agg #[.int .u32 p, .int .i64 q, .int .u32 r, .slice A n c]] w fun e w' => e = .returned (.bool (fitB p q r ((sysK (ss.map cpK)).getD 0) (sysK (ss.map cpK)).isSome)) ∧ Below w.heap.size w w' := by
  have hb0 := bl_alloc (bl_refl w) (.cells #[.int .u32 p, .int .i64 q, .int .u32 r, .slice A n c] 47)
  have o0 := Own.new w 47 #[.int .u32 p, .int .i64 q, .int .u32 r, .slice A n c]
  have hSy := Lib.hid (csys_any A n c ss _ (h.step hb0) (by omega))
  generalize (sysK (ss.map cpK)).getD 0 = sa at *
  generalize (sysK (ss.map cpK)).isSome = sb at *
  have HK : Hid (fitB p q r sa sb = (numB p q r && (if sb = true then sa == p else decide (p ≤ 65535)))) := Lib.hid rfl
  have HN : Hid (numB p q r = (!(p == 0) && (!(r == 0) && ((q == 0) || (decide (3 ≤ q) && decide (q ≤ 65535)))))) := Lib.hid rfl
  obtain ⟨e0, e1, e2, e3⟩ := own_end o0
  clear h hn
  by_cases hp : p = 0
  · have hv := Lib.hid (show fitB p q r sa sb = false by rw [HK.out, HN.out, hp]; rfl)
    subst hp
    clear HK HN
    go_enter Tryd.func70, Tryd.ntmps70
    go_wp2
    go_ret
    exact ⟨by rw [hv.out]; first | done | rfl, hb0⟩
  · have ep : (p == 0) = false := by simpa using hp
    by_cases hr : r = 0
    · have hv := Lib.hid (show fitB p q r sa sb = false by rw [HK.out, HN.out, hr, ep]; rfl)
      subst hr
      clear HK HN hp
      go_enter Tryd.func70, Tryd.ntmps70
      go_wp2
      go_ret
      exact ⟨by rw [hv.out]; first | done | rfl, hb0⟩
    · have er : (r == 0) = false := by simpa using hr
      clear hp hr
      by_cases hq : q = 0
      · have hnum := Lib.hid (show numB p q r = true by rw [HN.out, ep, er, hq]; rfl)
        subst hq
        rcases (show sb = false ∨ sb = true ∧ (sa == p) = true ∨ sb = true ∧ (sa == p) = false by cases sb <;> cases (sa == p) <;> simp) with rfl | ⟨rfl, es⟩ | ⟨rfl, es⟩
        · have hv := Lib.hid (show fitB p 0 r sa false = decide (p ≤ 65535) by rw [HK.out, hnum.out]; simp)
          clear HK HN hnum
          go_enter Tryd.func70, Tryd.ntmps70
          go_wp2_with fail
          refine hSy.out.mono ?_
          rintro e w2 ⟨rfl, hb2⟩
          have hb3 := bl_trans hb0 hb2
          have o2 := o0.step hb2
          clear hSy e0 e1 e2 e3 o0
          obtain ⟨e0, e1, e2, e3⟩ := own_end o2
          go_wp2
          go_ret
          exact ⟨by rw [hv.out]; first | done | rfl, hb3⟩
        · have hv := Lib.hid (show fitB p 0 r sa true = true by rw [HK.out, hnum.out]; simp [es])
          clear HK HN hnum
          go_enter Tryd.func70, Tryd.ntmps70
          go_wp2_with fail
          refine hSy.out.mono ?_
          rintro e w2 ⟨rfl, hb2⟩
          have hb3 := bl_trans hb0 hb2
          have o2 := o0.step hb2
          clear hSy e0 e1 e2 e3 o0
          obtain ⟨e0, e1, e2, e3⟩ := own_end o2
          go_wp2
          go_ret
          exact ⟨by rw [hv.out]; first | done | rfl, hb3⟩
        · have hv := Lib.hid (show fitB p 0 r sa true = false by rw [HK.out, hnum.out]; simp [es])
          clear HK HN hnum
          go_enter Tryd.func70, Tryd.ntmps70
          go_wp2_with fail
          refine hSy.out.mono ?_
          rintro e w2 ⟨rfl, hb2⟩
          have hb3 := bl_trans hb0 hb2
          have o2 := o0.step hb2
          clear hSy e0 e1 e2 e3 o0
          obtain ⟨e0, e1, e2, e3⟩ := own_end o2
          go_wp2
          go_ret
          exact ⟨by rw [hv.out]; first | done | rfl, hb3⟩
      · have eq : (q == 0) = false := by simpa using hq
        have nq : (q != 0) = true := by simpa using hq
        clear hq
        by_cases h3 : q < 3
        · have d3 : decide (q < 3) = true := decide_eq_true h3
          have hv := Lib.hid (show fitB p q r sa sb = false by rw [HK.out, HN.out, ep, er, eq, decide_eq_false (show ¬ 3 ≤ q by omega)]; rfl)
          clear HK HN h3
          go_enter Tryd.func70, Tryd.ntmps70
          go_wp2
          go_ret
          exact ⟨by rw [hv.out]; first | done | rfl, hb0⟩
        · have d3 : decide (q < 3) = false := decide_eq_false h3
          by_cases h6 : 65535 < q
          · have d6 : decide (65535 < q) = true := decide_eq_true h6
            have hv := Lib.hid (show fitB p q r sa sb = false by rw [HK.out, HN.out, ep, er, eq, decide_eq_false (show ¬ q ≤ 65535 by omega), Bool.and_false]; rfl)
            clear HK HN h3 h6
            go_enter Tryd.func70, Tryd.ntmps70
            go_wp2
            go_ret
            exact ⟨by rw [hv.out]; first | done | rfl, hb0⟩
          · have d6 : decide (65535 < q) = false := decide_eq_false h6
            have hnum := Lib.hid (show numB p q r = true by rw [HN.out, ep, er, eq, decide_eq_true (show 3 ≤ q by omega), decide_eq_true (show q ≤ 65535 by omega)]; rfl)
            clear h3 h6
            rcases (show sb = false ∨ sb = true ∧ (sa == p) = true ∨ sb = true ∧ (sa == p) = false by cases sb <;> cases (sa == p) <;> simp) with rfl | ⟨rfl, es⟩ | ⟨rfl, es⟩
            · have hv := Lib.hid (show fitB p q r sa false = decide (p ≤ 65535) by rw [HK.out, hnum.out]; simp)
              clear HK HN hnum
              go_enter Tryd.func70, Tryd.ntmps70
              go_wp2_with fail
              refine hSy.out.mono ?_
              rintro e w2 ⟨rfl, hb2⟩
              have hb3 := bl_trans hb0 hb2
              have o2 := o0.step hb2
              clear hSy e0 e1 e2 e3 o0
              obtain ⟨e0, e1, e2, e3⟩ := own_end o2
              go_wp2
              go_ret
              exact ⟨by rw [hv.out]; first | done | rfl, hb3⟩
            · have hv := Lib.hid (show fitB p q r sa true = true by rw [HK.out, hnum.out]; simp [es])
              clear HK HN hnum
              go_enter Tryd.func70, Tryd.ntmps70
              go_wp2_with fail
              refine hSy.out.mono ?_
              rintro e w2 ⟨rfl, hb2⟩
              have hb3 := bl_trans hb0 hb2
              have o2 := o0.step hb2
              clear hSy e0 e1 e2 e3 o0
              obtain ⟨e0, e1, e2, e3⟩ := own_end o2
              go_wp2
              go_ret
              exact ⟨by rw [hv.out]; first | done | rfl, hb3⟩
            · have hv := Lib.hid (show fitB p q r sa true = false by rw [HK.out, hnum.out]; simp [es])
              clear HK HN hnum
              go_enter Tryd.func70, Tryd.ntmps70
              go_wp2_with fail
              refine hSy.out.mono ?_
              rintro e w2 ⟨rfl, hb2⟩
              have hb3 := bl_trans hb0 hb2
              have o2 := o0.step hb2
              clear hSy e0 e1 e2 e3 o0
              obtain ⟨e0, e1, e2, e3⟩ := own_end o2
              go_wp2
              go_ret
              exact ⟨by rw [hv.out]; first | done | rfl, hb3⟩
/-- The parameter of an OPEN's form. -/
def oPar (ss : List Cp) : List Int := if ss = [] then [] else 2 :: ((cpsForm ss).length : Int) :: cpsForm ss
/-- The form of an OPEN. -/
def oFormK (num q r : Int) (P : List Int) : List Int := [4] ++ (digitsOf 2 num ++ (digitsOf 2 q ++ (digitsOf 4 r ++ ([(P.length : Int)] ++ P))))
def oNum (p : Int) : Int := if 65535 < p then 23456 else p
def oOk (p q r : Int) (ss : List Cp) : Bool := ss.all cpOk && (decide ((cpsForm ss).length ≤ 253) && fitB p q r ((sysK (ss.map cpK)).getD 0) (sysK (ss.map cpK)).isSome)
/-- What open.Bytes gives. -/
def OBytesR (p q r : Int) (ss : List Cp) (w : World) (e : Ending) (w' : World) : Prop := ∃ A' n' c', e = .returned (.tuple #[.slice A' n' c', .bool (oOk p q r ss)]) ∧ Bytes w' w'.heap.size A' n' (if oOk p q r ss = true then oFormK (oNum p) q r (oPar ss) else []) ∧ Below w.heap.size w w'
theorem parts_six {W : World} {j : Nat} {T : TypeId} {A1 A2 A3 A4 A5 A6 : Option Addr} {n1 n2 n3 n4 n5 n6 c1 c2 c3 c4 c5 c6 : Nat} {xs1 xs2 xs3 xs4 xs5 xs6 : List Int} (ho : Own W j T #[.slice A1 n1 c1, .slice A2 n2 c2, .slice A3 n3 c3, .slice A4 n4 c4, .slice A5 n5 c5, .slice A6 n6 c6]) (h1 : Bytes W W.heap.size A1 n1 xs1) (h2 : Bytes W W.heap.size A2 n2 xs2) (h3 : Bytes W W.heap.size A3 n3 xs3) (h4 : Bytes W W.heap.size A4 n4 xs4) (h5 : Bytes W W.heap.size A5 n5 xs5) (h6 : Bytes W W.heap.size A6 n6 xs6) :
    Parts W W.heap.size (some ⟨j, 0, none⟩) 6 [⟨A1, n1, c1, xs1⟩, ⟨A2, n2, c2, xs2⟩, ⟨A3, n3, c3, xs3⟩, ⟨A4, n4, c4, xs4⟩, ⟨A5, n5, c5, xs5⟩, ⟨A6, n6, c6, xs6⟩] := by
  refine ⟨rfl, fun p hp => ?_, Shows.of_owned ho ho.lt⟩
  simp at hp
  rcases hp with rfl | rfl | rfl | rfl | rfl | rfl
  · exact h1
  · exact h2
  · exact h3
  · exact h4
  · exact h5
  · exact h6
theorem Bytes.stp {W W' : World} {A : Option Addr} {n : Nat} {xs : List Int} (h : Bytes W W.heap.size A n xs) (hb : Below W.heap.size W W') : Bytes W' W'.heap.size A n xs := (h.below hb).more hb.size
set_option maxRecDepth 100000 in
/-- The last Cat of open.Bytes: six parts. -/
theorem ocat6 {W : World} {A2 A3 A4 A6 : Option Addr} {n6 c2 c3 c4 c6 : Nat} {num q r : Int} {P : List Int} (h2 : Bytes W W.heap.size A2 2 (digitsOf 2 num)) (h3 : Bytes W W.heap.size A3 2 (digitsOf 2 q)) (h4 : Bytes W W.heap.size A4 4 (digitsOf 4 r)) (h6 : Bytes W W.heap.size A6 n6 P) (hP : n6 ≤ 255) :
    Calls Tryd.prog 53 #[.slice (some ⟨W.heap.size + 1 + 1, 0, none⟩) 6 6] (((W.alloc (.cells #[.int .u8 4] 5)).alloc (.cells #[.int .u8 n6] 5)).alloc (.cells #[.slice (some ⟨W.heap.size, 0, none⟩) 1 1, .slice A2 2 c2, .slice A3 2 c3, .slice A4 4 c4, .slice (some ⟨W.heap.size + 1, 0, none⟩) 1 1, .slice A6 n6 c6] 43)) fun e w' => ∃ B d, e = .returned (.slice B (oFormK num q r P).length d) ∧ Bytes w' w'.heap.size B (oFormK num q r P).length (oFormK num q r P) ∧ Below W.heap.size W w' := by
  have s1 : (W.alloc (.cells #[.int .u8 4] 5)).heap.size = W.heap.size + 1 := by simp
  have s2 : ((W.alloc (.cells #[.int .u8 4] 5)).alloc (.cells #[.int .u8 n6] 5)).heap.size = W.heap.size + 1 + 1 := by simp
  have hb := bl_alloc (bl_alloc (bl_alloc (bl_refl W) (.cells #[.int .u8 4] 5)) (.cells #[.int .u8 n6] 5)) (.cells #[.slice (some ⟨W.heap.size, 0, none⟩) 1 1, .slice A2 2 c2, .slice A3 2 c3, .slice A4 4 c4, .slice (some ⟨W.heap.size + 1, 0, none⟩) 1 1, .slice A6 n6 c6] 43)
  have o1 := ((Own.new W 5 #[.int .u8 4]).alloc (.cells #[.int .u8 n6] 5)).alloc (.cells #[.slice (some ⟨W.heap.size, 0, none⟩) 1 1, .slice A2 2 c2, .slice A3 2 c3, .slice A4 4 c4, .slice (some ⟨W.heap.size + 1, 0, none⟩) 1 1, .slice A6 n6 c6] 43)
  have o5 := (Own.new (W.alloc (.cells #[.int .u8 4] 5)) 5 #[.int .u8 n6]).alloc (.cells #[.slice (some ⟨W.heap.size, 0, none⟩) 1 1, .slice A2 2 c2, .slice A3 2 c3, .slice A4 4 c4, .slice (some ⟨W.heap.size + 1, 0, none⟩) 1 1, .slice A6 n6 c6] 43)
  rw [s1] at o5
  have oj := Own.new ((W.alloc (.cells #[.int .u8 4] 5)).alloc (.cells #[.int .u8 n6] 5)) 43 #[.slice (some ⟨W.heap.size, 0, none⟩) 1 1, .slice A2 2 c2, .slice A3 2 c3, .slice A4 4 c4, .slice (some ⟨W.heap.size + 1, 0, none⟩) 1 1, .slice A6 n6 c6]
  rw [s2] at oj
  have hpt := parts_six (c1 := 1) (c5 := 1) oj (Bytes.of_owned (xs := [4]) o1 (by intro x hx; rw [List.mem_singleton] at hx; omega) o1.lt) (h2.stp hb) (h3.stp hb) (h4.stp hb) (Bytes.of_owned (xs := [(n6 : Int)]) o5 (by intro x hx; rw [List.mem_singleton] at hx; omega) o5.lt) (h6.stp hb)
  have hn6 : n6 = P.length := h6.1
  have hfl : flat [⟨some ⟨W.heap.size, 0, none⟩, 1, 1, [4]⟩, ⟨A2, 2, c2, digitsOf 2 num⟩, ⟨A3, 2, c3, digitsOf 2 q⟩, ⟨A4, 4, c4, digitsOf 4 r⟩, ⟨some ⟨W.heap.size + 1, 0, none⟩, 1, 1, [(n6 : Int)]⟩, ⟨A6, n6, c6, P⟩] = oFormK num q r P := by simp [flat, oFormK, hn6]
  have hlen : (oFormK num q r P).length ≤ 1000 := by
    unfold oFormK
    rw [List.length_append, List.length_append, List.length_append, List.length_append, List.length_append, digitsOf_len, digitsOf_len, digitsOf_len]
    simp
    omega
  refine (cat_bytes (c := 6) hpt (by omega) (by rw [hfl]; omega)).mono ?_
  rw [hfl]
  rintro e w' ⟨B, d, rfl, ho, hb2⟩
  exact ⟨B, d, rfl, ho, bl_trans hb hb2⟩
set_option maxRecDepth 100000 in
/-- The Cat of the parameter: two parts. -/
theorem ocat2 {W : World} {A2 : Option Addr} {n2 c2 : Nat} {xs : List Int} (h2 : Bytes W W.heap.size A2 n2 xs) (hP : n2 ≤ 253) :
    Calls Tryd.prog 53 #[.slice (some ⟨W.heap.size + 1, 0, none⟩) 2 2] ((W.alloc (.cells #[.int .u8 2, .int .u8 n2] 5)).alloc (.cells #[.slice (some ⟨W.heap.size, 0, none⟩) 2 2, .slice A2 n2 c2] 43)) fun e w' => ∃ B d, e = .returned (.slice B (n2 + 2) d) ∧ Bytes w' w'.heap.size B (n2 + 2) (2 :: (n2 : Int) :: xs) ∧ Below W.heap.size W w' := by
  have s1 : (W.alloc (.cells #[.int .u8 2, .int .u8 n2] 5)).heap.size = W.heap.size + 1 := by simp
  have hb := bl_alloc (bl_alloc (bl_refl W) (.cells #[.int .u8 2, .int .u8 n2] 5)) (.cells #[.slice (some ⟨W.heap.size, 0, none⟩) 2 2, .slice A2 n2 c2] 43)
  have o1 := (Own.new W 5 #[.int .u8 2, .int .u8 n2]).alloc (.cells #[.slice (some ⟨W.heap.size, 0, none⟩) 2 2, .slice A2 n2 c2] 43)
  have oj := Own.new (W.alloc (.cells #[.int .u8 2, .int .u8 n2] 5)) 43 #[.slice (some ⟨W.heap.size, 0, none⟩) 2 2, .slice A2 n2 c2]
  rw [s1] at oj
  have hpt := parts_two (c1 := 2) oj (Bytes.of_owned (xs := [2, (n2 : Int)]) o1 (by intro x hx; simp at hx; omega) o1.lt) (h2.stp hb)
  have hn2 : n2 = xs.length := h2.1
  have hfl : flat [⟨some ⟨W.heap.size, 0, none⟩, 2, 2, [2, (n2 : Int)]⟩, ⟨A2, n2, c2, xs⟩] = 2 :: (n2 : Int) :: xs := by simp [flat]
  refine (cat_bytes (c := 2) hpt (by omega) (by rw [hfl]; simp; omega)).mono ?_
  rw [hfl]
  rintro e w' ⟨B, d, rfl, ho, hb2⟩
  have hl : (2 :: (n2 : Int) :: xs).length = n2 + 2 := by simp; omega
  rw [hl] at ho ⊢
  exact ⟨B, d, rfl, ho, bl_trans hb hb2⟩
theorem obytesR_no {p q r : Int} {ss : List Cp} {w w' : World} (h : oOk p q r ss = false) (hb : Below w.heap.size w w') : OBytesR p q r ss w (.returned (.tuple #[.slice none 0 0, .bool false])) w' :=
  ⟨none, 0, 0, by rw [h], by rw [h]; exact Bytes.nil _ _ _, hb⟩
theorem obytesR_yes {p q r : Int} {ss : List Cp} {w w' : World} {B : Option Addr} {k d : Nat} {num : Int} {P : List Int} (h : oOk p q r ss = true) (hm : oNum p = num) (hP : oPar ss = P) (hx : Bytes w' w'.heap.size B k (oFormK num q r P)) (hb : Below w.heap.size w w') : OBytesR p q r ss w (.returned (.tuple #[.slice B k d, .bool true])) w' :=
  ⟨B, k, d, by rw [h], by rw [h, if_pos rfl, hm, hP]; exact hx, hb⟩
set_option maxRecDepth 100000 in
set_option maxHeartbeats 12800000 in
theorem obytes_any (p q r : Int) (A : Option Addr) (n c : Nat) (ss : List Cp) (w : World) (h : Caps w w.heap.size A n ss) (hn : n ≤ 1000) (hs : ∀ s ∈ ss, s.n ≤ 1000) (hp0 : 0 ≤ p ∧ p < 4294967296) (hr0 : 0 ≤ r ∧ r < 4294967296) :
    Calls Tryd.prog 24 #[.agg #[.int .u32 p, .int .i64 q, .int .u32 r, .slice A n c]] w fun e w' => OBytesR p q r ss w e w' := by
  have hb0 := bl_alloc (bl_refl w) (.cells #[.int .u32 p, .int .i64 q, .int .u32 r, .slice A n c] 47)
  have o0 := Own.new w 47 #[.int .u32 p, .int .i64 q, .int .u32 r, .slice A n c]
  have HC := Lib.hid (h.step hb0)
  have HN := Lib.hid h.1
  have hB := Lib.hid (cbytes_any A n c ss _ HC.out hn hs)
  have hFi : Hid (∀ W, Below (w.alloc (.cells #[.int .u32 p, .int .i64 q, .int .u32 r, .slice A n c] 47)).heap.size (w.alloc (.cells #[.int .u32 p, .int .i64 q, .int .u32 r, .slice A n c] 47)) W → Calls Tryd.prog 70 #[.agg #[.int .u32 p, .int .i64 q, .int .u32 r, .slice A n c]] W fun e w' => e = .returned (.bool (fitB p q r ((sysK (ss.map cpK)).getD 0) (sysK (ss.map cpK)).isSome)) ∧ Below W.heap.size W w') := Lib.hid fun W hb => ofits_any p q r A n c ss W (HC.out.step hb) hn
  have HO : Hid (oOk p q r ss = (ss.all cpOk && (decide ((cpsForm ss).length ≤ 253) && fitB p q r ((sysK (ss.map cpK)).getD 0) (sysK (ss.map cpK)).isSome))) := Lib.hid rfl
  have hFq : Hid (fitB p q r ((sysK (ss.map cpK)).getD 0) (sysK (ss.map cpK)).isSome = true → 0 ≤ q ∧ q ≤ 65535) := Lib.hid fitB_q
  generalize fitB p q r ((sysK (ss.map cpK)).getD 0) (sysK (ss.map cpK)).isSome = fb at *
  obtain ⟨e0, e1, e2, e3⟩ := own_end o0
  clear h hs
  go_enter Tryd.func24, Tryd.ntmps24
  go_wp2_with fail
  refine hB.out.mono ?_
  rintro e w2 ⟨A2, n2, c2, rfl, hx2, hc2, hb2⟩
  have hb3 := bl_trans hb0 hb2
  have o2 := o0.step hb2
  clear hB e0 e1 e2 e3 o0 HC
  generalize hok : ss.all cpOk = ok at *
  obtain ⟨e0, e1, e2, e3⟩ := own_end o2
  cases ok
  · have hv : oOk p q r ss = false := by rw [HO.out]; rfl
    have HV := Lib.hid hv
    clear hv hx2 hok
    go_wp2
    go_ret2
    exact obytesR_no HV.out hb3
  · rw [if_pos rfl] at hx2
    have HX2 := Lib.hid hx2
    have hl2 := Lib.hid hx2.1
    clear hx2 hok
    by_cases h253 : (253 : Int) < n2
    · have d1 : decide ((253 : Int) < n2) = true := decide_eq_true h253
      have HV := Lib.hid (show oOk p q r ss = false by rw [HO.out, decide_eq_false (show ¬ (cpsForm ss).length ≤ 253 by rw [← hl2.out]; omega)]; rfl)
      clear HO h253
      go_wp2
      go_ret2
      exact obytesR_no HV.out hb3
    · have d1 : decide ((253 : Int) < n2) = false := decide_eq_false h253
      have hn2 : n2 ≤ 253 := by omega
      have HN2 := Lib.hid hn2
      have HV := Lib.hid (show oOk p q r ss = fb by rw [HO.out, decide_eq_true (show (cpsForm ss).length ≤ 253 by rw [← hl2.out]; omega)]; simp)
      clear HO h253 hn2
      go_wp2_with fail
      refine (hFi.out _ hb2).mono ?_
      rintro e w3 ⟨rfl, hb4⟩
      have hb5 := bl_trans hb3 hb4
      have o3 := o2.step hb4
      have HX3 := Lib.hid (HX2.out.stp hb4)
      clear HX2 e0 e1 e2 e3 o2 hb3 hb4 hFi
      obtain ⟨e0, e1, e2, e3⟩ := own_end o3
      cases fb
      · go_wp2
        go_ret2
        exact obytesR_no HV.out hb5
      · have hqq := hFq.out rfl
        have hq0 := Lib.hid hqq
        have wq : IntKind.u32.wrap q = q := IntWalk.u32_in _ (by omega)
        have hp1 := Lib.hid hp0
        have hr1 := Lib.hid hr0
        clear hFq hqq hp0 hr0 d1 hb2 hc2
        by_cases hbig : 65535 < p
        · have d2 : decide (65535 < p) = true := decide_eq_true hbig
          have hm := Lib.hid (show oNum p = 23456 by unfold oNum; rw [if_pos hbig])
          clear hbig
          rcases Nat.eq_zero_or_pos n with hz | hz
          · have hPe := Lib.hid (show oPar ss = [] by have : ss = [] := List.length_eq_zero_iff.1 (by rw [← HN.out]; exact hz); rw [this]; rfl)
            subst hz
            go_wp2_with fail
            refine (put_yes 2 23456 _ (by omega) (by omega) (by have := hp1.out; omega) (by show 23456 < 65536; have := hp1.out; omega)).mono ?_
            rintro e w4 ⟨rfl, hown, hc4⟩
            have hb6 := bl_trans hb5 hc4
            have o4 := o3.step hc4
            have P4 := Lib.hid (Bytes.of_owned hown (digitsOf_range _ _) hown.lt)
            have HX4 := Lib.hid (HX3.out.stp hc4)
            clear HX3 e0 e1 e2 e3 o3 hb5 hown
            obtain ⟨e0, e1, e2, e3⟩ := own_end o4
            go_wp2_with fail
            refine (put_yes 2 q _ (by omega) (by omega) (by have := hq0.out; omega) (by show q < 65536; have := hq0.out; omega)).mono ?_
            rintro e w5 ⟨rfl, hown, hc5⟩
            have hb7 := bl_trans hb6 hc5
            have o5 := o4.step hc5
            have Q5 := Lib.hid (Bytes.of_owned hown (digitsOf_range _ _) hown.lt)
            have HX5 := Lib.hid (HX4.out.stp hc5)
            have P5 := Lib.hid (P4.out.stp hc5)
            clear HX4 P4 e0 e1 e2 e3 o4 hb6 hown
            obtain ⟨e0, e1, e2, e3⟩ := own_end o5
            go_wp2_with fail
            refine (put_yes 4 r _ (by omega) (by omega) (by have := hr1.out; omega) (by show r < 4294967296; have := hr1.out; omega)).mono ?_
            rintro e w6 ⟨rfl, hown, hc6⟩
            have hb8 := bl_trans hb7 hc6
            have o6 := o5.step hc6
            have R6 := Lib.hid (Bytes.of_owned hown (digitsOf_range _ _) hown.lt)
            have HX6 := Lib.hid (HX5.out.stp hc6)
            have P6 := Lib.hid (P5.out.stp hc6)
            have Q6 := Lib.hid (Q5.out.stp hc6)
            clear HX5 P5 Q5 e0 e1 e2 e3 o5 hb7 hown hc4 hc5 hc6
            obtain ⟨e0, e1, e2, e3⟩ := own_end o6
            go_wp2_with fail
            have h6 := ocat6 (W := w6) (num := 23456) (q := q) (r := r) (c2 := 2) (c3 := 2) (c4 := 4) (c6 := 0) P6.out Q6.out R6.out (Bytes.nil _ _ none) (by omega)
            refine h6.mono ?_
            rintro e w8 ⟨B, d, rfl, hx, hc8⟩
            have hb9 := bl_trans hb8 hc8
            go_wp2
            go_ret2
            exact obytesR_yes HV.out hm.out hPe.out hx hb9
          · have hPe := Lib.hid (show oPar ss = 2 :: (n2 : Int) :: cpsForm ss by unfold oPar; rw [if_neg (by intro he; rw [he] at HN; have := HN.out; simp at this; omega), hl2.out])
            have dz : decide ((0 : Int) < n) = true := decide_eq_true (by omega)
            have dz2 : decide (0 < n) = true := decide_eq_true hz
            have dz3 : ¬ n = 0 := by omega
            go_wp2_with fail
            refine (put_yes 2 23456 _ (by omega) (by omega) (by have := hp1.out; omega) (by show 23456 < 65536; have := hp1.out; omega)).mono ?_
            rintro e w4 ⟨rfl, hown, hc4⟩
            have hb6 := bl_trans hb5 hc4
            have o4 := o3.step hc4
            have P4 := Lib.hid (Bytes.of_owned hown (digitsOf_range _ _) hown.lt)
            have HX4 := Lib.hid (HX3.out.stp hc4)
            clear HX3 e0 e1 e2 e3 o3 hb5 hown
            obtain ⟨e0, e1, e2, e3⟩ := own_end o4
            go_wp2_with fail
            refine (put_yes 2 q _ (by omega) (by omega) (by have := hq0.out; omega) (by show q < 65536; have := hq0.out; omega)).mono ?_
            rintro e w5 ⟨rfl, hown, hc5⟩
            have hb7 := bl_trans hb6 hc5
            have o5 := o4.step hc5
            have Q5 := Lib.hid (Bytes.of_owned hown (digitsOf_range _ _) hown.lt)
            have HX5 := Lib.hid (HX4.out.stp hc5)
            have P5 := Lib.hid (P4.out.stp hc5)
            clear HX4 P4 e0 e1 e2 e3 o4 hb6 hown
            obtain ⟨e0, e1, e2, e3⟩ := own_end o5
            go_wp2_with fail
            refine (put_yes 4 r _ (by omega) (by omega) (by have := hr1.out; omega) (by show r < 4294967296; have := hr1.out; omega)).mono ?_
            rintro e w6 ⟨rfl, hown, hc6⟩
            have hb8 := bl_trans hb7 hc6
            have o6 := o5.step hc6
            have R6 := Lib.hid (Bytes.of_owned hown (digitsOf_range _ _) hown.lt)
            have HX6 := Lib.hid (HX5.out.stp hc6)
            have P6 := Lib.hid (P5.out.stp hc6)
            have Q6 := Lib.hid (Q5.out.stp hc6)
            clear HX5 P5 Q5 e0 e1 e2 e3 o5 hb7 hown hc4 hc5 hc6
            obtain ⟨e0, e1, e2, e3⟩ := own_end o6
            have wn : IntKind.u8.wrap n2 = n2 := IntWalk.u8_in _ (by have := HN2.out; omega)
            have wn2 : IntKind.u8.wrap (n2 + 2) = n2 + 2 := IntWalk.u8_in _ (by have := HN2.out; omega)
            have wn3 : IntKind.u8.wrap ((n2 + 2 : Nat) : Int) = ((n2 + 2 : Nat) : Int) := IntWalk.u8_in _ (by have := HN2.out; omega)
            go_wp2_with fail
            refine (ocat2 (W := w6) HX6.out HN2.out).mono ?_
            rintro e w7 ⟨B7, d7, rfl, hx7, hc7⟩
            have hb9 := bl_trans hb8 hc7
            have P7 := Lib.hid (P6.out.stp hc7)
            have Q7 := Lib.hid (Q6.out.stp hc7)
            have R7 := Lib.hid (R6.out.stp hc7)
            have HX7 := Lib.hid hx7
            clear P6 Q6 R6 HX6 hx7 e0 e1 e2 e3 o6 hb8 hc7
            go_wp2_with fail
            have h6 := ocat6 (W := w7) (num := 23456) (q := q) (r := r) (c2 := 2) (c3 := 2) (c4 := 4) (c6 := d7) P7.out Q7.out R7.out HX7.out (by have := HN2.out; omega)
            refine h6.mono ?_
            rintro e w8 ⟨B, d, rfl, hx, hc8⟩
            have hb10 := bl_trans hb9 hc8
            go_wp2
            go_ret2
            exact obytesR_yes HV.out hm.out hPe.out hx hb10
        · have d2 : decide (65535 < p) = false := decide_eq_false hbig
          have hm := Lib.hid (show oNum p = p by unfold oNum; rw [if_neg hbig])
          have hp2 : p ≤ 65535 := by omega
          have hp1 := Lib.hid (show 0 ≤ p ∧ p ≤ 65535 from ⟨hp1.out.1, hp2⟩)
          clear hbig hp2
          rcases Nat.eq_zero_or_pos n with hz | hz
          · have hPe := Lib.hid (show oPar ss = [] by have : ss = [] := List.length_eq_zero_iff.1 (by rw [← HN.out]; exact hz); rw [this]; rfl)
            subst hz
            go_wp2_with fail
            refine (put_yes 2 p _ (by omega) (by omega) (by have := hp1.out; omega) (by show p < 65536; have := hp1.out; omega)).mono ?_
            rintro e w4 ⟨rfl, hown, hc4⟩
            have hb6 := bl_trans hb5 hc4
            have o4 := o3.step hc4
            have P4 := Lib.hid (Bytes.of_owned hown (digitsOf_range _ _) hown.lt)
            have HX4 := Lib.hid (HX3.out.stp hc4)
            clear HX3 e0 e1 e2 e3 o3 hb5 hown
            obtain ⟨e0, e1, e2, e3⟩ := own_end o4
            go_wp2_with fail
            refine (put_yes 2 q _ (by omega) (by omega) (by have := hq0.out; omega) (by show q < 65536; have := hq0.out; omega)).mono ?_
            rintro e w5 ⟨rfl, hown, hc5⟩
            have hb7 := bl_trans hb6 hc5
            have o5 := o4.step hc5
            have Q5 := Lib.hid (Bytes.of_owned hown (digitsOf_range _ _) hown.lt)
            have HX5 := Lib.hid (HX4.out.stp hc5)
            have P5 := Lib.hid (P4.out.stp hc5)
            clear HX4 P4 e0 e1 e2 e3 o4 hb6 hown
            obtain ⟨e0, e1, e2, e3⟩ := own_end o5
            go_wp2_with fail
            refine (put_yes 4 r _ (by omega) (by omega) (by have := hr1.out; omega) (by show r < 4294967296; have := hr1.out; omega)).mono ?_
            rintro e w6 ⟨rfl, hown, hc6⟩
            have hb8 := bl_trans hb7 hc6
            have o6 := o5.step hc6
            have R6 := Lib.hid (Bytes.of_owned hown (digitsOf_range _ _) hown.lt)
            have HX6 := Lib.hid (HX5.out.stp hc6)
            have P6 := Lib.hid (P5.out.stp hc6)
            have Q6 := Lib.hid (Q5.out.stp hc6)
            clear HX5 P5 Q5 e0 e1 e2 e3 o5 hb7 hown hc4 hc5 hc6
            obtain ⟨e0, e1, e2, e3⟩ := own_end o6
            go_wp2_with fail
            have h6 := ocat6 (W := w6) (num := p) (q := q) (r := r) (c2 := 2) (c3 := 2) (c4 := 4) (c6 := 0) P6.out Q6.out R6.out (Bytes.nil _ _ none) (by omega)
            refine h6.mono ?_
            rintro e w8 ⟨B, d, rfl, hx, hc8⟩
            have hb9 := bl_trans hb8 hc8
            go_wp2
            go_ret2
            exact obytesR_yes HV.out hm.out hPe.out hx hb9
          · have hPe := Lib.hid (show oPar ss = 2 :: (n2 : Int) :: cpsForm ss by unfold oPar; rw [if_neg (by intro he; rw [he] at HN; have := HN.out; simp at this; omega), hl2.out])
            have dz : decide ((0 : Int) < n) = true := decide_eq_true (by omega)
            have dz2 : decide (0 < n) = true := decide_eq_true hz
            have dz3 : ¬ n = 0 := by omega
            go_wp2_with fail
            refine (put_yes 2 p _ (by omega) (by omega) (by have := hp1.out; omega) (by show p < 65536; have := hp1.out; omega)).mono ?_
            rintro e w4 ⟨rfl, hown, hc4⟩
            have hb6 := bl_trans hb5 hc4
            have o4 := o3.step hc4
            have P4 := Lib.hid (Bytes.of_owned hown (digitsOf_range _ _) hown.lt)
            have HX4 := Lib.hid (HX3.out.stp hc4)
            clear HX3 e0 e1 e2 e3 o3 hb5 hown
            obtain ⟨e0, e1, e2, e3⟩ := own_end o4
            go_wp2_with fail
            refine (put_yes 2 q _ (by omega) (by omega) (by have := hq0.out; omega) (by show q < 65536; have := hq0.out; omega)).mono ?_
            rintro e w5 ⟨rfl, hown, hc5⟩
            have hb7 := bl_trans hb6 hc5
            have o5 := o4.step hc5
            have Q5 := Lib.hid (Bytes.of_owned hown (digitsOf_range _ _) hown.lt)
            have HX5 := Lib.hid (HX4.out.stp hc5)
            have P5 := Lib.hid (P4.out.stp hc5)
            clear HX4 P4 e0 e1 e2 e3 o4 hb6 hown
            obtain ⟨e0, e1, e2, e3⟩ := own_end o5
            go_wp2_with fail
            refine (put_yes 4 r _ (by omega) (by omega) (by have := hr1.out; omega) (by show r < 4294967296; have := hr1.out; omega)).mono ?_
            rintro e w6 ⟨rfl, hown, hc6⟩
            have hb8 := bl_trans hb7 hc6
            have o6 := o5.step hc6
            have R6 := Lib.hid (Bytes.of_owned hown (digitsOf_range _ _) hown.lt)
            have HX6 := Lib.hid (HX5.out.stp hc6)
            have P6 := Lib.hid (P5.out.stp hc6)
            have Q6 := Lib.hid (Q5.out.stp hc6)
            clear HX5 P5 Q5 e0 e1 e2 e3 o5 hb7 hown hc4 hc5 hc6
            obtain ⟨e0, e1, e2, e3⟩ := own_end o6
            have wn : IntKind.u8.wrap n2 = n2 := IntWalk.u8_in _ (by have := HN2.out; omega)
            have wn2 : IntKind.u8.wrap (n2 + 2) = n2 + 2 := IntWalk.u8_in _ (by have := HN2.out; omega)
            have wn3 : IntKind.u8.wrap ((n2 + 2 : Nat) : Int) = ((n2 + 2 : Nat) : Int) := IntWalk.u8_in _ (by have := HN2.out; omega)
            go_wp2_with fail
            refine (ocat2 (W := w6) HX6.out HN2.out).mono ?_
            rintro e w7 ⟨B7, d7, rfl, hx7, hc7⟩
            have hb9 := bl_trans hb8 hc7
            have P7 := Lib.hid (P6.out.stp hc7)
            have Q7 := Lib.hid (Q6.out.stp hc7)
            have R7 := Lib.hid (R6.out.stp hc7)
            have HX7 := Lib.hid hx7
            clear P6 Q6 R6 HX6 hx7 e0 e1 e2 e3 o6 hb8 hc7
            go_wp2_with fail
            have h6 := ocat6 (W := w7) (num := p) (q := q) (r := r) (c2 := 2) (c3 := 2) (c4 := 4) (c6 := d7) P7.out Q7.out R7.out HX7.out (by have := HN2.out; omega)
            refine h6.mono ?_
            rintro e w8 ⟨B, d, rfl, hx, hc8⟩
            have hb10 := bl_trans hb9 hc8
            go_wp2
            go_ret2
            exact obytesR_yes HV.out hm.out hPe.out hx hb10
set_option maxRecDepth 100000 in
/-- open.Valid. -/
theorem ovalid17_any (p q r : Int) (A : Option Addr) (n c : Nat) (ss : List Cp) (w : World) (h : Caps w w.heap.size A n ss) (hn : n ≤ 1000) (hs : ∀ s ∈ ss, s.n ≤ 1000) (hp0 : 0 ≤ p ∧ p < 4294967296) (hr0 : 0 ≤ r ∧ r < 4294967296) :
    Calls Tryd.prog 27 #[.agg #[.int .u32 p, .int .i64 q, .int .u32 r, .slice A n c]] w fun e w' => e = .returned (.bool (oOk p q r ss)) ∧ Below w.heap.size w w' := by
  have hb0 := bl_alloc (bl_refl w) (.cells #[.int .u32 p, .int .i64 q, .int .u32 r, .slice A n c] 47)
  have o0 := Own.new w 47 #[.int .u32 p, .int .i64 q, .int .u32 r, .slice A n c]
  have hB := Lib.hid (obytes_any p q r A n c ss _ (h.step hb0) hn hs hp0 hr0)
  obtain ⟨e0, e1, e2, e3⟩ := own_end o0
  clear h hs hp0 hr0
  go_enter Tryd.func27, Tryd.ntmps27
  go_wp2_with fail
  refine hB.out.mono ?_
  rintro e w2 ⟨A2, n2, c2, rfl, _, hb2⟩
  have hb3 := bl_trans hb0 hb2
  go_wp2
  go_ret
  exact ⟨rfl, hb3⟩
end Go.Proofs.YtniheakafkakhaaDoor
