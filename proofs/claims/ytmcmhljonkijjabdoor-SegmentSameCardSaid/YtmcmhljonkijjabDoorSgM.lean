/- SegmentSame: the walk -/
import Derived.Test.YtmcmhljonkijjabDoorSgL
import Derived.Test.YtmcmhljonkijjabDoorSgR
namespace Go.Proofs.YtmcmhljonkijjabDoor
open Go.RowKit Go.Sort

theorem le_sumS (f : Sg → Nat) : ∀ {ss : List Sg} {s : Sg}, s ∈ ss → f s ≤ (ss.map f).sum
  | x :: ss, s, h => by
    rw [List.map_cons, List.sum_cons]
    rcases List.mem_cons.1 h with rfl | h
    · omega
    · have := le_sumS f h
      omega
theorem few_len {ss : List Sg} (h : fewB ss = true) : ss.length ≤ 50 ∧ ∀ s ∈ ss, s.n ≤ 600 := by
  unfold fewB at h
  have h := of_decide_eq_true h
  refine ⟨h.1, fun s hs => ?_⟩
  have h2 := h.2
  unfold fewTo at h2
  rw [List.take_length] at h2
  have := le_sumS (fun s => min s.n 1000) hs
  omega
theorem good_of {w : World} {B n : Nat} {A : Option Addr} {ss : List Sg} (h : Segs w B A n ss) (hk : ss.all (sgOk 4) = true) : ∀ s ∈ ss, sgGood s := fun s hs => by
  have h1 := sgOk_iff.1 (List.all_eq_true.1 hk s hs)
  have h2 := h.2.1 s hs
  exact ⟨h1.1.1, h1.1.2.1, h2.2.2.2.2.1, h2.2.2.2.1⟩
theorem form_range {K : Nat} {ss : List Sg} (h : ∀ s ∈ ss, (s.k = 1 ∨ s.k = 2) ∧ s.n ≤ 255) : ∀ x ∈ sgsForm K ss, 0 ≤ x ∧ x ≤ 255 := by
  intro x hx
  unfold sgsForm at hx
  obtain ⟨s, hs, hx⟩ := List.mem_flatMap.1 hx
  have hk := h s hs
  unfold sgForm at hx
  rcases List.mem_append.1 hx with hx | hx
  · simp only [List.mem_cons, List.not_mem_nil, or_false] at hx
    rcases hx with rfl | rfl
    · omega
    · omega
  · obtain ⟨y, _, hy⟩ := List.mem_flatMap.1 hx
    exact digitsOf_range _ _ x hy
set_option maxRecDepth 100000 in
set_option maxHeartbeats 1600000 in
theorem segsame_few (A A' : Option Addr) (n n' c c' : Nat) (ss ts : List Sg) (w : World) (ht : Tens w) (hbk : Brk w) (hx : Segs w w.heap.size A n ss) (hy : Segs w w.heap.size A' n' ts) (hm : n ≤ maxLen) (hm' : n' ≤ maxLen) (hf : (fewB ss && fewB ts) = false) :
    Calls Tryd.prog 3 #[.slice A n c, .slice A' n' c'] w fun e w' => e = .returned (.bool true) ∧ Below w.heap.size w w' := by
  have h1 := Lib.hid (few_any A n c ss w hx hm)
  have h2 := Lib.hid (few_any A' n' c' ts w hy hm')
  have hA := Lib.hid (alive06_any w ht hbk)
  clear hx hy
  cases e1 : fewB ss
  · rw [e1] at h1
    clear e1 hf
    go_enter Tryd.func3, Tryd.ntmps3
    go_wp2_with fail
    refine h1.out.mono ?_
    rintro e w' ⟨rfl, rfl⟩
    go_wp2_with fail
    refine hA.out.mono ?_
    rintro e w' ⟨rfl, hb⟩
    go_wp2
    go_ret
    exact ⟨rfl, hb⟩
  · rw [e1] at h1 hf
    rw [Bool.true_and] at hf
    rw [hf] at h2
    clear e1 hf
    go_enter Tryd.func3, Tryd.ntmps3
    go_wp2_with fail
    refine h1.out.mono ?_
    rintro e w' ⟨rfl, rfl⟩
    go_wp2_with fail
    refine h2.out.mono ?_
    rintro e w' ⟨rfl, rfl⟩
    go_wp2_with fail
    refine hA.out.mono ?_
    rintro e w' ⟨rfl, hb⟩
    go_wp2
    go_ret
    exact ⟨rfl, hb⟩
/-- A call that gives one value and only makes memory, from wherever a walk has come to. -/
def Gives (w : World) (f : Nat) (args : Array Value) (v : Value) : Prop := ∀ W, Below w.heap.size w W → Calls Tryd.prog f args W fun e w' => e = .returned v ∧ Below W.heap.size W w'
set_option maxRecDepth 100000 in
set_option maxHeartbeats 3200000 in
theorem segsame_no (D : Bool) (va vb : Bool) (A A' : Option Addr) (n n' c c' : Nat) (w : World) (hv : (va && vb) = false)
    (h1 : Hid (Gives w 11 #[.slice A n c] (.bool true))) (h2 : Hid (Gives w 11 #[.slice A' n' c'] (.bool true)))
    (hR : Hid (Gives w 13 #[.slice A n c, .slice A' n' c'] (.bool D))) (hS : Hid (Gives w 14 #[.slice A n c, .slice A' n' c'] (.bool D))) (hSS : Hid (Gives w 14 #[.slice A n c, .slice A n c] (.bool true)))
    (hB1 : Hid (∀ W, Below w.heap.size w W → Calls Tryd.prog 15 #[.int .i64 4, .slice A n c] W fun e w' => ∃ B m k, e = .returned (.tuple #[.slice B m k, .bool va]) ∧ Below W.heap.size W w'))
    (hB2 : Hid (∀ W, Below w.heap.size w W → Calls Tryd.prog 15 #[.int .i64 4, .slice A' n' c'] W fun e w' => ∃ B m k, e = .returned (.tuple #[.slice B m k, .bool vb]) ∧ Below W.heap.size W w'))
    (hA : Hid (Gives w 12 #[] (.bool true))) :
    Calls Tryd.prog 3 #[.slice A n c, .slice A' n' c'] w fun e w' => e = .returned (.bool true) ∧ Below w.heap.size w w' := by
  unfold Gives at *
  cases D <;> cases va <;> cases vb <;> first | (cases hv; done) | skip
  all_goals
    clear hv
    go_enter Tryd.func3, Tryd.ntmps3
    go_wp2_with fail
    refine (h1.out _ (bl_refl w)).mono ?_
    rintro e w1 ⟨rfl, hb1⟩
    go_wp2_with fail
    refine (h2.out _ hb1).mono ?_
    rintro e w2 ⟨rfl, hb2⟩
    have hb2 := bl_trans hb1 hb2
    go_wp2_with fail
    refine (hR.out _ hb2).mono ?_
    rintro e w3 ⟨rfl, hb3⟩
    have hb3 := bl_trans hb2 hb3
    go_wp2_with fail
    refine (hS.out _ hb3).mono ?_
    rintro e w4 ⟨rfl, hb4⟩
    have hb4 := bl_trans hb3 hb4
    go_wp2_with fail
    refine (hSS.out _ hb4).mono ?_
    rintro e w5 ⟨rfl, hb5⟩
    have hb5 := bl_trans hb4 hb5
    go_wp2_with fail
    refine (hB1.out _ hb5).mono ?_
    rintro e w6 ⟨B1, m1, k1, rfl, hb6⟩
    have hb6 := bl_trans hb5 hb6
    go_wp2_with fail
    refine (hB2.out _ hb6).mono ?_
    rintro e w7 ⟨B2, m2, k2, rfl, hb7⟩
    have hb7 := bl_trans hb6 hb7
    go_wp2_with fail
    refine (hA.out _ hb7).mono ?_
    rintro e w8 ⟨rfl, hb8⟩
    have hb8 := bl_trans hb7 hb8
    go_wp2
    go_ret
    exact ⟨rfl, hb8⟩
set_option maxRecDepth 100000 in
set_option maxHeartbeats 3200000 in
theorem segsame_yes (D : Bool) (A A' : Option Addr) (n n' c c' : Nat) (w : World) (fa fb : List Int) (TA TB : ByteArray)
    (h1 : Hid (Gives w 11 #[.slice A n c] (.bool true))) (h2 : Hid (Gives w 11 #[.slice A' n' c'] (.bool true)))
    (hR : Hid (Gives w 13 #[.slice A n c, .slice A' n' c'] (.bool D))) (hS : Hid (Gives w 14 #[.slice A n c, .slice A' n' c'] (.bool D))) (hSS : Hid (Gives w 14 #[.slice A n c, .slice A n c] (.bool true)))
    (hB1 : Hid (∀ W, Below w.heap.size w W → Calls Tryd.prog 15 #[.int .i64 4, .slice A n c] W fun e w' => ∃ g, e = .returned (.tuple #[.slice (some ⟨g, 0, none⟩) fa.length fa.length, .bool true]) ∧ W.heap.size ≤ g ∧ Own w' g 5 (fa.map (Value.int .u8)).toArray ∧ Below W.heap.size W w'))
    (hB2 : Hid (∀ W, Below w.heap.size w W → Calls Tryd.prog 15 #[.int .i64 4, .slice A' n' c'] W fun e w' => ∃ g, e = .returned (.tuple #[.slice (some ⟨g, 0, none⟩) fb.length fb.length, .bool true]) ∧ W.heap.size ≤ g ∧ Own w' g 5 (fb.map (Value.int .u8)).toArray ∧ Below W.heap.size W w'))
    (hra : Hid (∀ x ∈ fa, 0 ≤ x ∧ x ≤ 255)) (hrb : Hid (∀ x ∈ fb, 0 ≤ x ∧ x ≤ 255)) (hla : fa.length ≤ 1000000000) (hlb : fb.length ≤ 1000000000) (hD : decide (fa = fb) = D)
    (hT1 : Hid (Gives w 17 #[.slice A n c] (.string TA))) (hT2 : Hid (Gives w 17 #[.slice A' n' c'] (.string TB))) (hTt : D = true → TA = TB) (hTf : D = false → TA ≠ TB)
    (hA : Hid (Gives w 12 #[] (.bool true))) :
    Calls Tryd.prog 3 #[.slice A n c, .slice A' n' c'] w fun e w' => e = .returned (.bool true) ∧ Below w.heap.size w w' := by
  unfold Gives at *
  have hE := Lib.hid (fun W A A' B B' h h' => bytesEq_any A A' fa.length fb.length fa.length fb.length fa fb W B B' h h' hla hlb)
  rw [hD] at hE
  clear hD hla hlb
  cases D
  · have hne : ¬ TA.toList = TB.toList := fun h => hTf rfl (by rw [ByteArray.toList_eq, ByteArray.toList_eq] at h; exact ByteArray.ext (Array.ext' h))
    have hne2 : (TA.toList == TB.toList) = false := by simpa using hne
    clear hTt hTf
    go_enter Tryd.func3, Tryd.ntmps3
    go_wp2_with fail
    refine (h1.out _ (bl_refl w)).mono ?_
    rintro e w1 ⟨rfl, hb1⟩
    go_wp2_with fail
    refine (h2.out _ hb1).mono ?_
    rintro e w2 ⟨rfl, hb2⟩
    have hb2 := bl_trans hb1 hb2
    go_wp2_with fail
    refine (hR.out _ hb2).mono ?_
    rintro e w3 ⟨rfl, hb3⟩
    have hb3 := bl_trans hb2 hb3
    go_wp2_with fail
    refine (hS.out _ hb3).mono ?_
    rintro e w4 ⟨rfl, hb4⟩
    have hb4 := bl_trans hb3 hb4
    go_wp2_with fail
    refine (hSS.out _ hb4).mono ?_
    rintro e w5 ⟨rfl, hb5⟩
    have hb5 := bl_trans hb4 hb5
    go_wp2_with fail
    refine (hB1.out _ hb5).mono ?_
    rintro e w6 ⟨g1, rfl, _, o1, hb6⟩
    have hb6 := bl_trans hb5 hb6
    go_wp2_with fail
    refine (hB2.out _ hb6).mono ?_
    rintro e w7 ⟨g2, rfl, _, o2, hb7⟩
    have o1 := o1.step hb7
    have hb7 := bl_trans hb6 hb7
    go_wp2_with fail
    refine (hA.out _ hb7).mono ?_
    rintro e w8 ⟨rfl, hb8⟩
    have o1 := o1.step hb8
    have o2 := o2.step hb8
    have hb8 := bl_trans hb7 hb8
    have hE2 := Lib.hid (hE.out w8 _ _ _ _ (Bytes.of_owned o1 hra.out o1.lt) (Bytes.of_owned o2 hrb.out o2.lt))
    go_wp2_with fail
    refine hE2.out.mono ?_
    rintro e w' ⟨rfl, m, rfl⟩
    have hb9 := bl_drewN hb8 m
    go_wp2_with fail
    refine (hT1.out _ hb9).mono ?_
    rintro e w10 ⟨rfl, hb10⟩
    have hb10 := bl_trans hb9 hb10
    go_wp2_with fail
    refine (hT2.out _ hb10).mono ?_
    rintro e w11 ⟨rfl, hb11⟩
    have hb11 := bl_trans hb10 hb11
    go_wp2
    go_ret
    exact ⟨rfl, hb11⟩
  · obtain rfl := hTt rfl
    clear hTt hTf
    go_enter Tryd.func3, Tryd.ntmps3
    go_wp2_with fail
    refine (h1.out _ (bl_refl w)).mono ?_
    rintro e w1 ⟨rfl, hb1⟩
    go_wp2_with fail
    refine (h2.out _ hb1).mono ?_
    rintro e w2 ⟨rfl, hb2⟩
    have hb2 := bl_trans hb1 hb2
    go_wp2_with fail
    refine (hR.out _ hb2).mono ?_
    rintro e w3 ⟨rfl, hb3⟩
    have hb3 := bl_trans hb2 hb3
    go_wp2_with fail
    refine (hS.out _ hb3).mono ?_
    rintro e w4 ⟨rfl, hb4⟩
    have hb4 := bl_trans hb3 hb4
    go_wp2_with fail
    refine (hSS.out _ hb4).mono ?_
    rintro e w5 ⟨rfl, hb5⟩
    have hb5 := bl_trans hb4 hb5
    go_wp2_with fail
    refine (hB1.out _ hb5).mono ?_
    rintro e w6 ⟨g1, rfl, _, o1, hb6⟩
    have hb6 := bl_trans hb5 hb6
    go_wp2_with fail
    refine (hB2.out _ hb6).mono ?_
    rintro e w7 ⟨g2, rfl, _, o2, hb7⟩
    have o1 := o1.step hb7
    have hb7 := bl_trans hb6 hb7
    go_wp2_with fail
    refine (hA.out _ hb7).mono ?_
    rintro e w8 ⟨rfl, hb8⟩
    have o1 := o1.step hb8
    have o2 := o2.step hb8
    have hb8 := bl_trans hb7 hb8
    have hE2 := Lib.hid (hE.out w8 _ _ _ _ (Bytes.of_owned o1 hra.out o1.lt) (Bytes.of_owned o2 hrb.out o2.lt))
    go_wp2_with fail
    refine hE2.out.mono ?_
    rintro e w' ⟨rfl, m, rfl⟩
    have hb9 := bl_drewN hb8 m
    go_wp2_with fail
    refine (hT1.out _ hb9).mono ?_
    rintro e w10 ⟨rfl, hb10⟩
    have hb10 := bl_trans hb9 hb10
    go_wp2_with fail
    refine (hT2.out _ hb10).mono ?_
    rintro e w11 ⟨rfl, hb11⟩
    have hb11 := bl_trans hb10 hb11
    go_wp2
    go_ret
    exact ⟨rfl, hb11⟩
set_option maxRecDepth 100000 in
theorem segsame_all (A A' : Option Addr) (n n' c c' : Nat) (ss ts : List Sg) (w : World) (ht : Tens w) (hbk : Brk w) (hx : Segs w w.heap.size A n ss) (hy : Segs w w.heap.size A' n' ts) (hm : n ≤ maxLen) (hm' : n' ≤ maxLen) :
    Calls Tryd.prog 3 #[.slice A n c, .slice A' n' c'] w fun e w' => e = .returned (.bool true) ∧ Below w.heap.size w w' := by
  by_cases hf : (fewB ss && fewB ts) = true
  · rw [Bool.and_eq_true] at hf
    obtain ⟨hf1, hf2⟩ := hf
    obtain ⟨l1, b1⟩ := few_len hf1
    obtain ⟨l2, b2⟩ := few_len hf2
    have hn : n ≤ 50 := by rw [hx.1]; exact l1
    have hn' : n' ≤ 50 := by rw [hy.1]; exact l2
    have X : ∀ W, Below w.heap.size w W → Segs W W.heap.size A n ss := fun W hb => (hx.below hb).more hb.size
    have Y : ∀ W, Below w.heap.size w W → Segs W W.heap.size A' n' ts := fun W hb => (hy.below hb).more hb.size
    have b1' : ∀ s ∈ ss, s.n ≤ 1000 := fun s hs => by have := b1 s hs; omega
    have b2' : ∀ s ∈ ts, s.n ≤ 1000 := fun s hs => by have := b2 s hs; omega
    have h1 : Gives w 11 #[.slice A n c] (.bool true) := fun W hb => (few_any A n c ss W (X W hb) hm).mono fun e w' ⟨he, hw⟩ => ⟨by rw [he, hf1], by subst hw; exact bl_refl _⟩
    have h2 : Gives w 11 #[.slice A' n' c'] (.bool true) := fun W hb => (few_any A' n' c' ts W (Y W hb) hm').mono fun e w' ⟨he, hw⟩ => ⟨by rw [he, hf2], by subst hw; exact bl_refl _⟩
    have hR : Gives w 13 #[.slice A n c, .slice A' n' c'] (.bool (decide (ss.map sgK = ts.map sgK))) := fun W hb => (rsameS_any A A' n n' c c' ss ts W _ _ (X W hb) (Y W hb) (by omega) (by omega) b1' b2').mono fun e w' ⟨he, m, hw⟩ => ⟨he, by subst hw; exact bl_drewN (bl_refl _) m⟩
    have hS : Gives w 14 #[.slice A n c, .slice A' n' c'] (.bool (decide (ss.map sgK = ts.map sgK))) := fun W hb => ssame_any A A' n n' c c' ss ts W (X W hb) (Y W hb) (by omega) (by omega) b1' b2'
    have hSS : Gives w 14 #[.slice A n c, .slice A n c] (.bool true) := fun W hb => (ssame_any A A n n c c ss ss W (X W hb) (X W hb) (by omega) (by omega) b1' b1').mono fun e w' ⟨he, hw⟩ => ⟨by rw [he, decide_eq_true rfl], hw⟩
    have hA : Gives w 12 #[] (.bool true) := fun W hb => alive06_any W (ht.below hb) (hbk.below hb)
    by_cases hva : ss.all (sgOk 4) = true
    · by_cases hvb : ts.all (sgOk 4) = true
      · have g1 := good_of hx hva
        have g2 := good_of hy hvb
        have r1 : ∀ s ∈ ss, (s.k = 1 ∨ s.k = 2) ∧ s.n ≤ 255 := fun s hs => by have := sgOk_iff.1 (List.all_eq_true.1 hva s hs); exact ⟨this.1.1, this.1.2.2⟩
        have r2 : ∀ s ∈ ts, (s.k = 1 ∨ s.k = 2) ∧ s.n ≤ 255 := fun s hs => by have := sgOk_iff.1 (List.all_eq_true.1 hvb s hs); exact ⟨this.1.1, this.1.2.2⟩
        have z1 := sgsForm_len (K := 4) (ss := ss) (by omega) (fun s hs => by have := (g1 s hs).2.2.1; have := (r1 s hs).2; omega)
        have z2 := sgsForm_len (K := 4) (ss := ts) (by omega) (fun s hs => by have := (g2 s hs).2.2.1; have := (r2 s hs).2; omega)
        refine segsame_yes (decide (ss.map sgK = ts.map sgK)) A A' n n' c c' w (sgsForm 4 ss) (sgsForm 4 ts) (sgsTxt ss) (sgsTxt ts) (Lib.hid h1) (Lib.hid h2) (Lib.hid hR) (Lib.hid hS) (Lib.hid hSS)
          (Lib.hid fun W hb => sbytes_yes 4 (.inr rfl) A n c ss W (X W hb) (by omega) hva) (Lib.hid fun W hb => sbytes_yes 4 (.inr rfl) A' n' c' ts W (Y W hb) (by omega) hvb)
          (Lib.hid (form_range r1)) (Lib.hid (form_range r2)) (by omega) (by omega) ?_
          (Lib.hid fun W hb => stext_yes A n c ss W (ht.below hb) (hbk.below hb) (X W hb) (by omega) hva) (Lib.hid fun W hb => stext_yes A' n' c' ts W (ht.below hb) (hbk.below hb) (Y W hb) (by omega) hvb) ?_ ?_ (Lib.hid hA)
        · rw [Bool.eq_iff_iff, decide_eq_true_iff, decide_eq_true_iff]
          exact ⟨sgsForm_inj g1 g2, sgsForm_eq (fun s hs => (g1 s hs).2.2.1) (fun s hs => (g2 s hs).2.2.1)⟩
        · exact fun h => sgsTxt_eq (of_decide_eq_true h)
        · exact fun h e => of_decide_eq_false h (sgsTxt_inj g1 g2 e)
      · have hvb : ts.all (sgOk 4) = false := by simpa using hvb
        exact segsame_no _ true false A A' n n' c c' w rfl (Lib.hid h1) (Lib.hid h2) (Lib.hid hR) (Lib.hid hS) (Lib.hid hSS)
          (Lib.hid fun W hb => (sbytes_yes 4 (.inr rfl) A n c ss W (X W hb) (by omega) hva).mono fun e w' ⟨g, he, _, _, hb⟩ => ⟨_, _, _, he, hb⟩)
          (Lib.hid fun W hb => (sbytes_no 4 A' n' c' ts W (Y W hb) (by omega) (by rw [hvb, Bool.and_false])).mono fun e w' ⟨he, hb⟩ => ⟨_, _, _, he, hb⟩) (Lib.hid hA)
    · have hva : ss.all (sgOk 4) = false := by simpa using hva
      have q1 : Hid (∀ W, Below w.heap.size w W → Calls Tryd.prog 15 #[.int .i64 4, .slice A n c] W fun e w' => ∃ B m k, e = .returned (.tuple #[.slice B m k, .bool false]) ∧ Below W.heap.size W w') := Lib.hid fun W hb => (sbytes_no 4 A n c ss W (X W hb) (by omega) (by rw [hva, Bool.and_false])).mono fun e w' ⟨he, hb⟩ => ⟨_, _, _, he, hb⟩
      by_cases hvb : ts.all (sgOk 4) = true
      · exact segsame_no _ false true A A' n n' c c' w rfl (Lib.hid h1) (Lib.hid h2) (Lib.hid hR) (Lib.hid hS) (Lib.hid hSS) q1
          (Lib.hid fun W hb => (sbytes_yes 4 (.inr rfl) A' n' c' ts W (Y W hb) (by omega) hvb).mono fun e w' ⟨g, he, _, _, hb⟩ => ⟨_, _, _, he, hb⟩) (Lib.hid hA)
      · have hvb : ts.all (sgOk 4) = false := by simpa using hvb
        exact segsame_no _ false false A A' n n' c c' w rfl (Lib.hid h1) (Lib.hid h2) (Lib.hid hR) (Lib.hid hS) (Lib.hid hSS) q1
          (Lib.hid fun W hb => (sbytes_no 4 A' n' c' ts W (Y W hb) (by omega) (by rw [hvb, Bool.and_false])).mono fun e w' ⟨he, hb⟩ => ⟨_, _, _, he, hb⟩) (Lib.hid hA)
  · exact segsame_few A A' n n' c c' ss ts w ht hbk hx hy hm hm' (by simpa using hf)
end Go.Proofs.YtmcmhljonkijjabDoor
