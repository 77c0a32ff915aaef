/- PrefixMakes -/
import Derived.Test.YtiehbmhekncbhaaDoorAl2
import Derived.Test.YtiehbmhekncbhaaDoorQmake
import Derived.Test.YtiehbmhekncbhaaDoorPeq
import Derived.Test.YtiehbmhekncbhaaDoorNm
namespace Go.Proofs.YtiehbmhekncbhaaDoor
open Go.RowKit Go.Sort

set_option maxRecDepth 100000 in
theorem pmakes_early (f l : Int) (A : Option Addr) (n c : Nat) (w : World) (hm : n ≤ maxLen) (h : 100 < n) (ht : Tens w) :
    Calls Tryd.prog 4 #[.int .i64 f, .int .i64 l, .slice A n c] w fun e w' => e = .returned (.bool true) ∧ Below w.heap.size w w' := by
  unfold maxLen at hm
  go_enter Tryd.func4, Tryd.ntmps4
  go_wp2_with fail
  refine (alive2_any _ ht).mono ?_
  rintro e w1 ⟨rfl, hb1⟩
  go_wp2
  go_ret
  exact ⟨rfl, hb1⟩
set_option maxRecDepth 100000 in
set_option maxHeartbeats 1600000 in
theorem pmakes_no (f l : Int) (A : Option Addr) (n c : Nat) (w : World) (h : n ≤ 100) (hk : makeOk f l n = false) (ht : Tens w) :
    Calls Tryd.prog 4 #[.int .i64 f, .int .i64 l, .slice A n c] w fun e w' => e = .returned (.bool true) ∧ Below w.heap.size w w' := by
  have hz18 : #[.int .i64 0, .int .i64 0, .int .u8 0, .int .u8 0, .int .u8 0, .int .u8 0, .int .u8 0, .int .u8 0, .int .u8 0, .int .u8 0, .int .u8 0, .int .u8 0, .int .u8 0, .int .u8 0, .int .u8 0, .int .u8 0, .int .u8 0, .int .u8 0] = pfx 0 0 zero16 := pfx_zero.symm
  have HK := Lib.hid hk
  have i18 := Lib.hid (pfx_info (f := 0) (l := 0) zero16_addr.1)
  have hne := fun W => neq_pfx_same (f := 0) (l := 0) zero16_addr W
  clear hk
  go_enter Tryd.func4, Tryd.ntmps4
  go_wp2_with fail
  refine (pmake_no f l A n c w (by omega) HK.out).mono ?_
  rintro e w1 ⟨rfl, hb1⟩
  have o2 := (Own.new w1 28 (pfx 0 0 zero16)).setRow (cs' := pfx 0 0 zero16)
  have hb2 := bl_setRow (cs := pfx 0 0 zero16) (bl_alloc hb1 (.cells (pfx 0 0 zero16) 28)) hb1.size
  go_wp2_with (refine wpList_store_row rfl 28 _ _ rfl w1.heap.size (pfx 0 0 zero16) rfl rfl 28 (pfx 0 0 zero16) (Own.new w1 _ _) i18.out rfl (pfx_one _ _ _) ?_)
  generalize (w1.alloc (.cells (pfx 0 0 zero16) 28)).setRow w1.heap.size (pfx 0 0 zero16) = w2 at *
  refine (rmake_no f l A n c w2 (by omega) HK.out).mono ?_
  rintro e w3 ⟨rfl, hb3⟩
  have o3 := o2.step hb3
  have hb4 := bl_trans hb2 hb3
  have o4 := (Own.new w3 28 (pfx 0 0 zero16)).setRow (cs' := pfx 0 0 zero16)
  have o5 := (o3.alloc (.cells (pfx 0 0 zero16) 28)).keep (setRow_other (w3.alloc (.cells (pfx 0 0 zero16) 28)) w3.heap.size w1.heap.size (pfx 0 0 zero16) (by have := o3.lt; omega))
  have hb5 := bl_setRow (cs := pfx 0 0 zero16) (bl_alloc hb4 (.cells (pfx 0 0 zero16) 28)) hb4.size
  clear o2 hb2 hb1 hb3 o3 hb4
  go_wp2_with (first | (refine wpList_store_row rfl 28 _ _ rfl w3.heap.size (pfx 0 0 zero16) rfl rfl 28 (pfx 0 0 zero16) (Own.new w3 _ _) i18.out rfl (pfx_one _ _ _) ?_) | (refine wpList_load_row rfl 28 _ rfl w1.heap.size rfl 28 (pfx 0 0 zero16) (0, 0) (.struct (Tryd.prog.fieldsOf 28)) o5 (by kernel_rfl) rfl i18.out ?_) | (refine wpList_load_row rfl 28 _ rfl w3.heap.size rfl 28 (pfx 0 0 zero16) (0, 0) (.struct (Tryd.prog.fieldsOf 28)) o4 (by kernel_rfl) rfl i18.out ?_))
  refine (alive2_any _ (ht.below hb5)).mono ?_
  rintro e w6 ⟨rfl, hb6⟩
  go_wp2
  go_ret
  exact ⟨rfl, bl_trans hb5 hb6⟩
theorem nth_pad {xs : List Int} {i : Nat} : nth (padTo xs) i = nth xs i := by
  unfold nth padTo
  by_cases hi : i < xs.length
  · simp [List.getD_eq_getElem?_getD, List.getElem?_append_left hi]
  · have e : xs[i]? = none := by simp; omega
    rw [List.getD_eq_getElem?_getD, List.getD_eq_getElem?_getD, e, List.getElem?_append_right (by omega), List.getElem?_replicate]
    split <;> rfl
theorem mask_again {l : Int} {xs : List Int} {k : Nat} (hx : xs.length ≤ k) (hk : k ≤ 16) : maskL l (padTo ((maskL l (padTo xs)).take k)) = maskL l (padTo xs) := by
  have h1 : (padTo xs).length = 16 := by simp [padTo]; omega
  have h2 : (padTo ((maskL l (padTo xs)).take k)).length = 16 := by simp [padTo, maskL_len]; omega
  apply List.ext_getElem (by rw [maskL_len, maskL_len, h1, h2])
  intro i hi hj
  rw [maskL_len, h2] at hi
  have e1 : ∀ (L : List Int) (h : i < L.length), L[i] = nth L i := fun L h => by simp [nth, h]
  rw [e1, e1, mask_nth l (by rw [h2]; exact hi), mask_nth l (by rw [h1]; exact hi), nth_pad]
  by_cases hik : i < k
  · have e3 : nth ((maskL l (padTo xs)).take k) i = nth (maskL l (padTo xs)) i := by
      unfold nth; rw [List.getD_eq_getElem?_getD, List.getD_eq_getElem?_getD, List.getElem?_take, if_pos hik]
    rw [e3, mask_nth l (by rw [h1]; exact hi), top_top]
  · have e3 : nth ((maskL l (padTo xs)).take k) i = 0 := by
      unfold nth; rw [List.getD_eq_getElem?_getD, List.getElem?_take, if_neg hik]; rfl
    have e4 : nth (padTo xs) i = 0 := by
      rw [nth_pad]; unfold nth; rw [List.getD_eq_getElem?_getD, List.getElem?_eq_none (by omega)]; rfl
    rw [e3, e4]
theorem makeOk_facts {f l : Int} {n : Nat} (h : makeOk f l n = true) : ((f = 1 ∧ n ≤ 4) ∨ (f = 2 ∧ n ≤ 16)) ∧ 0 ≤ l ∧ l ≤ 128 := by
  simp only [makeOk, lenOk, Bool.and_eq_true, decide_eq_true_eq] at h
  unfold widthOf at h
  split at h
  · omega
  · split at h <;> omega
theorem makeOk_mk {f l : Int} {n m : Nat} (h : makeOk f l n = true) (hm : (f = 1 ∧ m ≤ 4) ∨ (f = 2 ∧ m ≤ 16)) : makeOk f l m = true := by
  simp only [makeOk, lenOk, Bool.and_eq_true, decide_eq_true_eq] at h ⊢
  unfold widthOf at h ⊢
  split at h
  · rename_i h1; subst h1; simp; omega
  · split at h
    · rename_i h1; subst h1; simp; omega
    · omega
set_option maxRecDepth 100000 in
set_option maxHeartbeats 1600000 in
theorem pmakes_yes (f l : Int) (k : Nat) (A : Option Addr) (n c : Nat) (xs : List Int) (w : World) (hx : Bytes w w.heap.size A n xs) (hfk : (f = 1 ∧ k = 4) ∨ (f = 2 ∧ k = 16)) (hnk : n ≤ k) (hk : makeOk f l n = true) (ht : Tens w) :
    Calls Tryd.prog 4 #[.int .i64 f, .int .i64 l, .slice A n c] w fun e w' => e = .returned (.bool true) ∧ Below w.heap.size w w' := by
  have hz18 : #[.int .i64 0, .int .i64 0, .int .u8 0, .int .u8 0, .int .u8 0, .int .u8 0, .int .u8 0, .int .u8 0, .int .u8 0, .int .u8 0, .int .u8 0, .int .u8 0, .int .u8 0, .int .u8 0, .int .u8 0, .int .u8 0, .int .u8 0, .int .u8 0] = pfx 0 0 zero16 := pfx_zero.symm
  have HK := Lib.hid hk
  have hn16 : xs.length ≤ 16 := by rw [← hx.1]; omega
  have hA : IsAddr (maskL l (padTo xs)) := maskL_addr l (padTo_addr hn16 hx.2.1)
  have HM := Lib.hid (mask_again (l := l) (xs := xs) (k := k) (by rw [← hx.1]; exact hnk) (by omega))
  have HX := Lib.hid hx
  have HK2 := Lib.hid (makeOk_mk (m := k) hk (by omega))
  have hn100 : ¬ 100 < n := by omega
  clear hk hx
  generalize hM : maskL l (padTo xs) = M at *
  have HE := Lib.hid hM
  clear hM
  have i18 := Lib.hid (pfx_info (f := f) (l := l) hA.1)
  have s18 := Lib.hid ((pfx_size (f := 0) (l := 0) zero16_addr.1).trans (pfx_size (f := f) (l := l) hA.1).symm)
  have hne := fun W => neq_pfx_same (f := f) (l := l) hA W
  have heq := fun W => eql_pfx_same (f := f) (l := l) hA W
  go_enter Tryd.func4, Tryd.ntmps4
  go_wp2_with fail
  refine (pmake_yes f l A n c xs w HX.out HK.out).mono ?_
  rw [HE.out]
  rintro e w1 ⟨rfl, hb1⟩
  have o2 := (Own.new w1 28 (pfx 0 0 zero16)).setRow (cs' := pfx f l M)
  have hb2 := bl_setRow (cs := pfx f l M) (bl_alloc hb1 (.cells (pfx 0 0 zero16) 28)) hb1.size
  have hx2 := (HX.out.below hb2).more hb2.size
  go_wp2_with (refine wpList_store_row rfl 28 _ _ rfl w1.heap.size (pfx f l M) rfl rfl 28 (pfx 0 0 zero16) (Own.new w1 _ _) i18.out s18.out (pfx_one _ _ _) ?_)
  generalize (w1.alloc (.cells (pfx 0 0 zero16) 28)).setRow w1.heap.size (pfx f l M) = w2 at *
  refine (rmake_yes f l A n c xs w2 hx2 HK.out).mono ?_
  rw [HE.out]
  rintro e w3 ⟨rfl, hb3⟩
  have o3 := o2.step hb3
  have hb4 := bl_trans hb2 hb3
  have o4 := (Own.new w3 28 (pfx 0 0 zero16)).setRow (cs' := pfx f l M)
  have o5 := (o3.alloc (.cells (pfx 0 0 zero16) 28)).keep (setRow_other (w3.alloc (.cells (pfx 0 0 zero16) 28)) w3.heap.size w1.heap.size (pfx f l M) (by have := o3.lt; omega))
  have hb5 := bl_setRow (cs := pfx f l M) (bl_alloc hb4 (.cells (pfx 0 0 zero16) 28)) hb4.size
  have hy := addr_bytes hA o4 (k := k) (by omega)
  clear o2 hb2 hb1 hb3 o3 hb4 hx2
  have m1 : min (1 : Int) 2 = 1 := by decide
  rcases hfk with ⟨rfl, rfl⟩ | ⟨rfl, rfl⟩
  · go_wp2_with (first | (refine wpList_store_row rfl 28 _ _ rfl w3.heap.size (pfx 1 l M) rfl rfl 28 (pfx 0 0 zero16) (Own.new w3 _ _) i18.out s18.out (pfx_one _ _ _) ?_) | (refine wpList_load_row rfl 28 _ rfl w1.heap.size rfl 28 (pfx 1 l M) (0, 0) (.struct (Tryd.prog.fieldsOf 28)) o5 (by kernel_rfl) rfl i18.out ?_) | (refine wpList_load_row rfl 28 _ rfl w3.heap.size rfl 28 (pfx 1 l M) (0, 0) (.struct (Tryd.prog.fieldsOf 28)) o4 (by kernel_rfl) rfl i18.out ?_))
    generalize (w3.alloc (.cells (pfx 0 0 zero16) 28)).setRow w3.heap.size (pfx 1 l M) = w5 at *
    refine (pmake_yes _ l _ _ _ _ w5 hy HK2.out).mono ?_
    rw [HM.out]
    rintro e w6 ⟨rfl, hb6⟩
    have o6 := o5.step hb6
    have hb7 := bl_trans hb5 hb6
    have o7 := (Own.new w6 28 (pfx 0 0 zero16)).setRow (cs' := pfx 1 l M)
    have o8 := (o6.alloc (.cells (pfx 0 0 zero16) 28)).keep (setRow_other (w6.alloc (.cells (pfx 0 0 zero16) 28)) w6.heap.size w1.heap.size (pfx 1 l M) (by have := o6.lt; omega))
    have hb8 := bl_setRow (cs := pfx 1 l M) (bl_alloc hb7 (.cells (pfx 0 0 zero16) 28)) hb7.size
    clear o5 hb5 o4 hy o6 hb7 hb6
    go_wp2_with (refine wpList_store_row rfl 28 _ _ rfl w6.heap.size (pfx 1 l M) rfl rfl 28 (pfx 0 0 zero16) (Own.new w6 _ _) i18.out s18.out (pfx_one _ _ _) ?_)
    generalize (w6.alloc (.cells (pfx 0 0 zero16) 28)).setRow w6.heap.size (pfx 1 l M) = w8 at *
    refine (alive2_any _ (ht.below hb8)).mono ?_
    rintro e w9 ⟨rfl, hb9⟩
    have q7 := o7.step hb9
    have q8 := o8.step hb9
    have hb10 := bl_trans hb8 hb9
    go_wp2_with (first | (refine wpList_load_row_on rfl 28 _ rfl w1.heap.size rfl 28 (pfx 1 l M) (.struct (Tryd.prog.fieldsOf 28)) q8 (by kernel_rfl) rfl i18.out ?_) | (refine wpList_load_row_on rfl 28 _ rfl w6.heap.size rfl 28 (pfx 1 l M) (.struct (Tryd.prog.fieldsOf 28)) q7 (by kernel_rfl) rfl i18.out ?_))
    go_ret
    exact ⟨rfl, hb10⟩
  · go_wp2_with (first | (refine wpList_store_row rfl 28 _ _ rfl w3.heap.size (pfx 2 l M) rfl rfl 28 (pfx 0 0 zero16) (Own.new w3 _ _) i18.out s18.out (pfx_one _ _ _) ?_) | (refine wpList_load_row rfl 28 _ rfl w1.heap.size rfl 28 (pfx 2 l M) (0, 0) (.struct (Tryd.prog.fieldsOf 28)) o5 (by kernel_rfl) rfl i18.out ?_) | (refine wpList_load_row rfl 28 _ rfl w3.heap.size rfl 28 (pfx 2 l M) (0, 0) (.struct (Tryd.prog.fieldsOf 28)) o4 (by kernel_rfl) rfl i18.out ?_))
    generalize (w3.alloc (.cells (pfx 0 0 zero16) 28)).setRow w3.heap.size (pfx 2 l M) = w5 at *
    refine (pmake_yes _ l _ _ _ _ w5 hy HK2.out).mono ?_
    rw [HM.out]
    rintro e w6 ⟨rfl, hb6⟩
    have o6 := o5.step hb6
    have hb7 := bl_trans hb5 hb6
    have o7 := (Own.new w6 28 (pfx 0 0 zero16)).setRow (cs' := pfx 2 l M)
    have o8 := (o6.alloc (.cells (pfx 0 0 zero16) 28)).keep (setRow_other (w6.alloc (.cells (pfx 0 0 zero16) 28)) w6.heap.size w1.heap.size (pfx 2 l M) (by have := o6.lt; omega))
    have hb8 := bl_setRow (cs := pfx 2 l M) (bl_alloc hb7 (.cells (pfx 0 0 zero16) 28)) hb7.size
    clear o5 hb5 o4 hy o6 hb7 hb6
    go_wp2_with (refine wpList_store_row rfl 28 _ _ rfl w6.heap.size (pfx 2 l M) rfl rfl 28 (pfx 0 0 zero16) (Own.new w6 _ _) i18.out s18.out (pfx_one _ _ _) ?_)
    generalize (w6.alloc (.cells (pfx 0 0 zero16) 28)).setRow w6.heap.size (pfx 2 l M) = w8 at *
    refine (alive2_any _ (ht.below hb8)).mono ?_
    rintro e w9 ⟨rfl, hb9⟩
    have q7 := o7.step hb9
    have q8 := o8.step hb9
    have hb10 := bl_trans hb8 hb9
    go_wp2_with (first | (refine wpList_load_row_on rfl 28 _ rfl w1.heap.size rfl 28 (pfx 2 l M) (.struct (Tryd.prog.fieldsOf 28)) q8 (by kernel_rfl) rfl i18.out ?_) | (refine wpList_load_row_on rfl 28 _ rfl w6.heap.size rfl 28 (pfx 2 l M) (.struct (Tryd.prog.fieldsOf 28)) q7 (by kernel_rfl) rfl i18.out ?_))
    go_ret
    exact ⟨rfl, hb10⟩
set_option maxRecDepth 100000 in
theorem pmakes_all (f l : Int) (A : Option Addr) (n c : Nat) (xs : List Int) (w : World) (hx : Bytes w w.heap.size A n xs) (hm : n ≤ maxLen) (ht : Tens w) :
    Calls Tryd.prog 4 #[.int .i64 f, .int .i64 l, .slice A n c] w fun e w' => e = .returned (.bool true) ∧ Below w.heap.size w w' := by
  by_cases h : 100 < n
  · exact pmakes_early f l A n c w hm h ht
  · by_cases hk : makeOk f l n = true
    · rcases (makeOk_facts hk).1 with ⟨h1, h2⟩ | ⟨h1, h2⟩
      · exact pmakes_yes f l 4 A n c xs w hx (.inl ⟨h1, rfl⟩) h2 hk ht
      · exact pmakes_yes f l 16 A n c xs w hx (.inr ⟨h1, rfl⟩) h2 hk ht
    · exact pmakes_no f l A n c w (by omega) (by simpa using hk) ht
end Go.Proofs.YtiehbmhekncbhaaDoor
