/- XFrMc: XFrR, XFrS, XFrQ, XFrU in one text -/
import Derived.Test.YtgahjchngmojlabDoorFrMa
import Derived.Deep.Cut
/- peerageref23.one, way by way -/
namespace Go.Proofs.YtgahjchngmojlabDoor
open Go.RowKit

set_option maxRecDepth 100000 in
theorem rf_desc : Tryd.prog.underlying 34 = some (.struct (Tryd.prog.fieldsOf 34)) := by kernel_rfl
set_option maxRecDepth 100000 in
theorem rf_info (a b c d e f g h i j : Value) : (Tryd.prog.info? 34).map (·.size) = some (#[a, b, c, d, e, f, g, h, i, j] : Array Value).size := by kernel_rfl
set_option maxRecDepth 100000 in
theorem rf_infoL (a b c d e f g h i j : Value) : (Tryd.prog.info? 34).map (·.size) = some ((#[a, b, c, d, e, f, g, h, i, j] : Array Value).toList.length) := by kernel_rfl
theorem rf_one (a b c d e f : Bool) (A : Option Addr) (n k : Nat) (l : Int) (cl : Bool) (fr : Int) : (#[Value.bool a, .bool b, .bool c, .bool d, .bool e, .bool f, .slice A n k, .int .i64 l, .bool cl, .int .i64 fr]).all (·.oneCell') = true := by simp [Value.oneCell']
theorem rf_types : (34 : TypeId) ≠ 5 ∧ (51 : TypeId) ≠ 5 := by decide
section
variable {W : World} {g : Nat} {T : TypeId} {a b c d e f k l m n : Value}
theorem rf_kept (h : Own W g T #[a, b, c, d, e, f, k, l, m, n]) (v : Value) : Own (W.setCell ⟨g, 6, none⟩ v) g T #[a, b, c, d, e, f, v, l, m, n] := by
  have := h.set_ 6 v
  simpa using this
theorem rf_len (h : Own W g T #[a, b, c, d, e, f, k, l, m, n]) (v : Value) : Own (W.setCell ⟨g, 7, none⟩ v) g T #[a, b, c, d, e, f, k, v, m, n] := by
  have := h.set_ 7 v
  simpa using this
theorem rf_cl (h : Own W g T #[a, b, c, d, e, f, k, l, m, n]) (v : Value) : Own (W.setCell ⟨g, 8, none⟩ v) g T #[a, b, c, d, e, f, k, l, v, n] := by
  have := h.set_ 8 v
  simpa using this
theorem rf_fr (h : Own W g T #[a, b, c, d, e, f, k, l, m, n]) (v : Value) : Own (W.setCell ⟨g, 9, none⟩ v) g T #[a, b, c, d, e, f, k, l, m, v] := by
  have := h.set_ 9 v
  simpa using this
theorem own_range (h : Own W g T #[a, b, c, d, e, f, k, l, m, n]) : W.rangeAt g 0 (#[a, b, c, d, e, f, k, l, m, n] : Array Value).toList := fun j v hv => by
  rw [Nat.zero_add]
  exact h.cell (by simpa using hv)
theorem rs5 {eb : Nat} {T2 : TypeId} {p q r s t : Value} (h : Own W g T #[a, b, c, d, e, f, k, l, m, n]) (h2 : Own W eb T2 #[p, q, r, s, t]) : W.rangeAt g 0 (#[a, b, c, d, e, f, k, l, m, n] : Array Value).toList ∧ W.cell? ⟨eb, 0, none⟩ = some p ∧ W.cell? ⟨eb, 1, none⟩ = some q ∧ W.cell? ⟨eb, 2, none⟩ = some r ∧ W.cell? ⟨eb, 3, none⟩ = some s ∧ W.cell? ⟨eb, 4, none⟩ = some t := ⟨own_range h, h2.cell rfl, h2.cell rfl, h2.cell rfl, h2.cell rfl, h2.cell rfl⟩
theorem rs6 {eb : Nat} {T2 : TypeId} {p q r s t u : Value} (h : Own W g T #[a, b, c, d, e, f, k, l, m, n]) (h2 : Own W eb T2 #[p, q, r, s, t, u]) : W.rangeAt g 0 (#[a, b, c, d, e, f, k, l, m, n] : Array Value).toList ∧ W.cell? ⟨eb, 0, none⟩ = some p ∧ W.cell? ⟨eb, 1, none⟩ = some q ∧ W.cell? ⟨eb, 2, none⟩ = some r ∧ W.cell? ⟨eb, 3, none⟩ = some s ∧ W.cell? ⟨eb, 4, none⟩ = some t ∧ W.cell? ⟨eb, 5, none⟩ = some u := ⟨own_range h, h2.cell rfl, h2.cell rfl, h2.cell rfl, h2.cell rfl, h2.cell rfl, h2.cell rfl⟩
end
/-- What the reference hands back: nothing yet; a frame; a verdict. -/
def RNo (w : World) (m : Nat) (ks : List Int) (F : Option Addr → Nat → Array Value) (e : Ending) (w' : World) : Prop :=
  ∃ A5 c5, e = .returned (.tuple #[.agg (F A5 c5), .slice none 0 0]) ∧ BT w' w'.heap.size A5 m ks ∧ LB w.heap.size A5 ks ∧ Below w.heap.size w w'
def RYes (w : World) (m : Nat) (ks : List Int) (F : Array Value) (e : Ending) (w' : World) : Prop :=
  ∃ gb A5 c5, e = .returned (.tuple #[.agg F, .slice (some ⟨gb, 0, none⟩) 1 1]) ∧ w.heap.size ≤ gb ∧ Own w' gb 51 #[.slice A5 m c5, .int .i64 0, .int .i64 0, .int .i64 0, .slice none 0 0, .int .i64 0] ∧ BT w' w'.heap.size A5 m ks ∧ LB w.heap.size A5 ks ∧ Below w.heap.size w w'
def RBad (w : World) (r : HR) (F : Array Value) (e : Ending) (w' : World) : Prop :=
  ∃ gb D dm dc, e = .returned (.tuple #[.agg F, .slice (some ⟨gb, 0, none⟩) 1 1]) ∧ w.heap.size ≤ gb ∧ Own w' gb 51 #[.slice none 0 0, .int .i64 r.k1, .int .i64 r.k2, .int .i64 r.k3, .slice D dm dc, .int .i64 r.k5] ∧ BT w' w'.heap.size D dm r.d ∧ LB w.heap.size D r.d ∧ Below w.heap.size w w'
set_option maxRecDepth 100000 in
set_option maxHeartbeats 6400000 in
theorem one_no1 (n c m : Nat) (K : Option Addr) (len : Int) (a0 a1 a2 a3 a4 a5 : Bool) (fr : Int) (kept : List Int) (x : Int) (w : World) (hK : BT w w.heap.size K n kept) (hkr : ∀ y ∈ kept ++ [x], 0 ≤ y ∧ y ≤ 255) (hn : n ≤ 100000) (hm : n + 1 = m) (hx : x = 255) (h16 : m ≤ 16) :
    Calls Tryd.prog 26 #[.agg #[.bool a0, .bool a1, .bool a2, .bool a3, .bool a4, .bool a5, .slice K n c, .int .i64 len, .bool false, .int .i64 fr], .int .u8 x] w fun e w' => RNo w m (kept ++ [x]) (fun A5 c5 => #[.bool a0, .bool a1, .bool a2, .bool a3, .bool a4, .bool a5, .slice A5 m c5, .int .i64 len, .bool false, .int .i64 fr]) e w' := by
  have q1 : (x != 255) = false := by simpa using hx
  clear hx
  have q2 : ((m : Int) == 19) = false := by simp; omega
  have q3 : (m : Int) ≤ 16 := by omega
  have q4 : ¬ (19 : Int) ≤ (m : Int) := by omega
  have hm1 : m ≤ 100001 := by omega
  have HM := Lib.hid hm
  have HN := Lib.hid hK.1.1
  have of0 := ((Own.new w 34 #[.bool a0, .bool a1, .bool a2, .bool a3, .bool a4, .bool a5, .slice K n c, .int .i64 len, .bool false, .int .i64 fr]).alloc (.cells #[.bool false, .bool false, .bool false, .bool false, .bool false, .bool false, .slice none 0 0, .int .i64 0, .bool false, .int .i64 0] 34)).alloc (.cells #[] 5)
  have or0 := Own.new (w.alloc (.cells #[.bool a0, .bool a1, .bool a2, .bool a3, .bool a4, .bool a5, .slice K n c, .int .i64 len, .bool false, .int .i64 fr] 34)) 34 #[.bool false, .bool false, .bool false, .bool false, .bool false, .bool false, .slice none 0 0, .int .i64 0, .bool false, .int .i64 0]
  rw [show (w.alloc (.cells #[.bool a0, .bool a1, .bool a2, .bool a3, .bool a4, .bool a5, .slice K n c, .int .i64 len, .bool false, .int .i64 fr] 34)).heap.size = w.heap.size + 1 by simp] at or0
  have or1 := or0.alloc (.cells #[] 5)
  have b1 := bl_alloc (bl_alloc (bl_alloc (bl_refl w) (.cells #[.bool a0, .bool a1, .bool a2, .bool a3, .bool a4, .bool a5, .slice K n c, .int .i64 len, .bool false, .int .i64 fr] 34)) (.cells #[.bool false, .bool false, .bool false, .bool false, .bool false, .bool false, .slice none 0 0, .int .i64 0, .bool false, .int .i64 0] 34)) (.cells #[] 5)
  have on0 := Own.new ((w.alloc (.cells #[.bool a0, .bool a1, .bool a2, .bool a3, .bool a4, .bool a5, .slice K n c, .int .i64 len, .bool false, .int .i64 fr] 34)).alloc (.cells #[.bool false, .bool false, .bool false, .bool false, .bool false, .bool false, .slice none 0 0, .int .i64 0, .bool false, .int .i64 0] 34)) 5 #[]
  rw [show ((w.alloc (.cells #[.bool a0, .bool a1, .bool a2, .bool a3, .bool a4, .bool a5, .slice K n c, .int .i64 len, .bool false, .int .i64 fr] 34)).alloc (.cells #[.bool false, .bool false, .bool false, .bool false, .bool false, .bool false, .slice none 0 0, .int .i64 0, .bool false, .int .i64 0] 34)).heap.size = w.heap.size + 1 + 1 by simp] at on0
  have hr0 := Own.row (cs := []) (n := 0) (base := w.heap.size + 1 + 1) on0 rfl (Nat.le_refl _) (by unfold maxLen; omega)
  have hs1 := hK.1.2.2.below b1
  have HR0 := Lib.hid hr0
  have HS1 := Lib.hid hs1
  have HOF := Lib.hid of0
  have HOR := Lib.hid or1
  have HB1 := Lib.hid b1
  clear hK of0 or0 or1 b1 on0 hr0 hs1 hm
  go_enter Tryd.func26, Tryd.ntmps26
  go_upto_region 2 with (at_builtin; first | (refine wpList_append_grow _ rfl _ _ rfl sl_bytes (w.heap.size + 1 + 1) _ 0 [] rfl HR0.out w.heap.size K n c (kept.map (Value.int .u8)) rfl (by rw [List.length_map, ← HN.out, Nat.mul_one]) HS1.out (one8 _) (by unfold maxLen; omega) (by omega) (by simp) ?_; intro v3 w3 hrow3 hg3; rw [Nat.zero_add, List.nil_append] at hrow3; have HROW3 := Lib.hid hrow3; have HG3 := Lib.hid hg3; have hz3 := hg3.size; simp at hz3; clear hrow3 hg3) | (refine wpList_append_grow _ rfl _ _ rfl sl_bytes (w.heap.size + 1 + 1) _ n (kept.map (Value.int .u8)) rfl (HROW3.out.alloc _) (w3.heap.size + 1) (some ⟨w3.heap.size, 0, none⟩) 1 1 [.int .u8 x] rfl rfl (Shows.of_owned (Own.new _ _ _) (by simp)) (one1 rfl) (by unfold maxLen; omega) (by omega) (by simp; omega) ?_; intro v5 w5 hrow5 hg5; rw [HM.out] at hrow5; obtain ⟨A5, c5, rfl⟩ := own_form hrow5; have of3 := HOF.out.grown HG3.out (ne_own (by omega)); have of5 := (of3.alloc (.cells #[.int .u8 x] 5)).grown hg5 (fun e => (row_typed HROW3.out e.symm).1.ne of3.typed (Ne.symm rf_types.1) rfl); have or3 := HOR.out.grown HG3.out (ne_own (by omega)); have or5 := (or3.alloc (.cells #[.int .u8 x] 5)).grown hg5 (fun e => (row_typed HROW3.out e.symm).1.ne or3.typed (Ne.symm rf_types.1) rfl); have cq6 := of5.cell (i := 6) rfl; have fq6 := of5.frozen 6; have hq6 := of5.lt))
  have b3 := HB1.out.grown HG3.out HB1.out.size (fun j hj => by have h2 : j = w.heap.size + 1 + 1 := (Option.some.inj hj).symm; omega)
  have b5 := (bl_alloc b3 (.cells #[.int .u8 x] 5)).grown hg5 (bl_alloc b3 (.cells #[.int .u8 x] 5)).size (fun j hj => by have := (row_typed HROW3.out hj).2; omega)
  have of6 := rf_kept of5 (.slice A5 m c5)
  have or6 := or5.far (p := ⟨w.heap.size, 6, none⟩) (show ¬ w.heap.size + 1 = w.heap.size by omega) (.slice A5 m c5)
  have b6 := b5.setCell (p := ⟨w.heap.size, 6, none⟩) (Nat.le_refl _) (.slice A5 m c5)
  have hrow6 := row_rest hrow5 (Rest.setCell w5 ⟨w.heap.size, 6, none⟩ (.slice A5 m c5)) (fun j hj e => (row_typed hrow5 hj).1.ne of5.typed (Ne.symm rf_types.1) e)
  have hrow7 : (w5.setCell ⟨w.heap.size, 6, none⟩ (.slice A5 m c5)).ownsRow (w.heap.size + 1 + 1) 5 1 (.slice A5 m c5) m ((kept ++ [x]).map (Value.int .u8)) := by rw [List.map_append]; exact hrow6
  obtain ⟨hx6, hmc, hd6⟩ := row_bytes hrow7 hkr
  have bt : BT _ _ A5 m (kept ++ [x]) := ⟨hx6, .inr fun a ha => (hd6 a ha).2.2⟩
  have hlb : LB w.heap.size A5 (kept ++ [x]) := .inr fun a ha => by have := (hd6 a ha).1; omega
  clear hrow5 hg5 of3 of5 or3 or5 b3 b5 hrow6 hrow7 hx6 hd6 cq6 fq6 hq6 HR0 HS1 HOF HOR HB1 HROW3 HG3
  generalize w5.setCell ⟨w.heap.size, 6, none⟩ (.slice A5 m c5) = w6 at *
  have hz6 : w.heap.size + 2 ≤ w6.heap.size := by have := or6.lt; omega
  have e0 := of6.cell (i := 6) rfl
  have e1 := of6.cell (i := 7) rfl
  go_wp2_with (first | (refine wpList_load_row rfl 34 _ rfl w.heap.size rfl 34 #[.bool a0, .bool a1, .bool a2, .bool a3, .bool a4, .bool a5, .slice A5 m c5, .int .i64 len, .bool false, .int .i64 fr] (0, 0) (.struct (Tryd.prog.fieldsOf 34)) of6 rf_desc rfl (rf_info _ _ _ _ _ _ _ _ _ _) ?_) | (refine wpList_store_row rfl 34 _ _ rfl (w.heap.size + 1) #[.bool a0, .bool a1, .bool a2, .bool a3, .bool a4, .bool a5, .slice A5 m c5, .int .i64 len, .bool false, .int .i64 fr] rfl rfl 34 #[.bool false, .bool false, .bool false, .bool false, .bool false, .bool false, .slice none 0 0, .int .i64 0, .bool false, .int .i64 0] or6 (rf_info _ _ _ _ _ _ _ _ _ _) rfl (rf_one _ _ _ _ _ _ _ _ _ _ _ _) ?_))
  have hbz := bl_setRow (g := w.heap.size + 1) (cs := #[.bool a0, .bool a1, .bool a2, .bool a3, .bool a4, .bool a5, .slice A5 m c5, .int .i64 len, .bool false, .int .i64 fr]) b6 (by omega)
  have bt2 := (bt.rest (Rest.setRowF _ (w.heap.size + 1) #[.bool a0, .bool a1, .bool a2, .bool a3, .bool a4, .bool a5, .slice A5 m c5, .int .i64 len, .bool false, .int .i64 fr]) (fun i _ ht e => ht.ne or6.typed (Ne.symm rf_types.1) e) (Nat.le_refl _)).more (Rest.setRowF _ (w.heap.size + 1) #[.bool a0, .bool a1, .bool a2, .bool a3, .bool a4, .bool a5, .slice A5 m c5, .int .i64 len, .bool false, .int .i64 fr]).size
  have hfin : RNo w m (kept ++ [x]) (fun A5 c5 => #[.bool a0, .bool a1, .bool a2, .bool a3, .bool a4, .bool a5, .slice A5 m c5, .int .i64 len, .bool false, .int .i64 fr]) _ _ := ⟨A5, c5, rfl, bt2, hlb, hbz⟩
  exact bodyPost_ret (results_cell_tmpF (p := 4) (t := 5) (fn := Tryd.f26) rfl _ _ (w.heap.size + 1) 34 #[.bool a0, .bool a1, .bool a2, .bool a3, .bool a4, .bool a5, .slice A5 m c5, .int .i64 len, .bool false, .int .i64 fr] _ rfl or6.setRow rf_desc rfl (rf_info _ _ _ _ _ _ _ _ _ _)) rfl hfin
set_option maxRecDepth 100000 in
set_option maxHeartbeats 6400000 in
theorem one_no2 (n c m : Nat) (K : Option Addr) (len : Int) (a0 a1 a2 a3 a4 a5 : Bool) (fr : Int) (kept : List Int) (x : Int) (w : World) (hK : BT w w.heap.size K n kept) (hkr : ∀ y ∈ kept ++ [x], 0 ≤ y ∧ y ≤ 255) (hn : n ≤ 100000) (hm : n + 1 = m) (h16 : 16 < m) (h19 : m < 19) :
    Calls Tryd.prog 26 #[.agg #[.bool a0, .bool a1, .bool a2, .bool a3, .bool a4, .bool a5, .slice K n c, .int .i64 len, .bool false, .int .i64 fr], .int .u8 x] w fun e w' => RNo w m (kept ++ [x]) (fun A5 c5 => #[.bool a0, .bool a1, .bool a2, .bool a3, .bool a4, .bool a5, .slice A5 m c5, .int .i64 len, .bool false, .int .i64 fr]) e w' := by
  have q2 : ((m : Int) == 19) = false := by simp; omega
  have q3 : ¬ (m : Int) ≤ 16 := by omega
  have q4 : ¬ (19 : Int) ≤ (m : Int) := by omega
  have hm1 : m ≤ 100001 := by omega
  have HM := Lib.hid hm
  have HN := Lib.hid hK.1.1
  have of0 := ((Own.new w 34 #[.bool a0, .bool a1, .bool a2, .bool a3, .bool a4, .bool a5, .slice K n c, .int .i64 len, .bool false, .int .i64 fr]).alloc (.cells #[.bool false, .bool false, .bool false, .bool false, .bool false, .bool false, .slice none 0 0, .int .i64 0, .bool false, .int .i64 0] 34)).alloc (.cells #[] 5)
  have or0 := Own.new (w.alloc (.cells #[.bool a0, .bool a1, .bool a2, .bool a3, .bool a4, .bool a5, .slice K n c, .int .i64 len, .bool false, .int .i64 fr] 34)) 34 #[.bool false, .bool false, .bool false, .bool false, .bool false, .bool false, .slice none 0 0, .int .i64 0, .bool false, .int .i64 0]
  rw [show (w.alloc (.cells #[.bool a0, .bool a1, .bool a2, .bool a3, .bool a4, .bool a5, .slice K n c, .int .i64 len, .bool false, .int .i64 fr] 34)).heap.size = w.heap.size + 1 by simp] at or0
  have or1 := or0.alloc (.cells #[] 5)
  have b1 := bl_alloc (bl_alloc (bl_alloc (bl_refl w) (.cells #[.bool a0, .bool a1, .bool a2, .bool a3, .bool a4, .bool a5, .slice K n c, .int .i64 len, .bool false, .int .i64 fr] 34)) (.cells #[.bool false, .bool false, .bool false, .bool false, .bool false, .bool false, .slice none 0 0, .int .i64 0, .bool false, .int .i64 0] 34)) (.cells #[] 5)
  have on0 := Own.new ((w.alloc (.cells #[.bool a0, .bool a1, .bool a2, .bool a3, .bool a4, .bool a5, .slice K n c, .int .i64 len, .bool false, .int .i64 fr] 34)).alloc (.cells #[.bool false, .bool false, .bool false, .bool false, .bool false, .bool false, .slice none 0 0, .int .i64 0, .bool false, .int .i64 0] 34)) 5 #[]
  rw [show ((w.alloc (.cells #[.bool a0, .bool a1, .bool a2, .bool a3, .bool a4, .bool a5, .slice K n c, .int .i64 len, .bool false, .int .i64 fr] 34)).alloc (.cells #[.bool false, .bool false, .bool false, .bool false, .bool false, .bool false, .slice none 0 0, .int .i64 0, .bool false, .int .i64 0] 34)).heap.size = w.heap.size + 1 + 1 by simp] at on0
  have hr0 := Own.row (cs := []) (n := 0) (base := w.heap.size + 1 + 1) on0 rfl (Nat.le_refl _) (by unfold maxLen; omega)
  have hs1 := hK.1.2.2.below b1
  have HR0 := Lib.hid hr0
  have HS1 := Lib.hid hs1
  have HOF := Lib.hid of0
  have HOR := Lib.hid or1
  have HB1 := Lib.hid b1
  clear hK of0 or0 or1 b1 on0 hr0 hs1 hm
  go_enter Tryd.func26, Tryd.ntmps26
  go_upto_region 2 with (at_builtin; first | (refine wpList_append_grow _ rfl _ _ rfl sl_bytes (w.heap.size + 1 + 1) _ 0 [] rfl HR0.out w.heap.size K n c (kept.map (Value.int .u8)) rfl (by rw [List.length_map, ← HN.out, Nat.mul_one]) HS1.out (one8 _) (by unfold maxLen; omega) (by omega) (by simp) ?_; intro v3 w3 hrow3 hg3; rw [Nat.zero_add, List.nil_append] at hrow3; have HROW3 := Lib.hid hrow3; have HG3 := Lib.hid hg3; have hz3 := hg3.size; simp at hz3; clear hrow3 hg3) | (refine wpList_append_grow _ rfl _ _ rfl sl_bytes (w.heap.size + 1 + 1) _ n (kept.map (Value.int .u8)) rfl (HROW3.out.alloc _) (w3.heap.size + 1) (some ⟨w3.heap.size, 0, none⟩) 1 1 [.int .u8 x] rfl rfl (Shows.of_owned (Own.new _ _ _) (by simp)) (one1 rfl) (by unfold maxLen; omega) (by omega) (by simp; omega) ?_; intro v5 w5 hrow5 hg5; rw [HM.out] at hrow5; obtain ⟨A5, c5, rfl⟩ := own_form hrow5; have of3 := HOF.out.grown HG3.out (ne_own (by omega)); have of5 := (of3.alloc (.cells #[.int .u8 x] 5)).grown hg5 (fun e => (row_typed HROW3.out e.symm).1.ne of3.typed (Ne.symm rf_types.1) rfl); have or3 := HOR.out.grown HG3.out (ne_own (by omega)); have or5 := (or3.alloc (.cells #[.int .u8 x] 5)).grown hg5 (fun e => (row_typed HROW3.out e.symm).1.ne or3.typed (Ne.symm rf_types.1) rfl); have cq6 := of5.cell (i := 6) rfl; have fq6 := of5.frozen 6; have hq6 := of5.lt))
  have b3 := HB1.out.grown HG3.out HB1.out.size (fun j hj => by have h2 : j = w.heap.size + 1 + 1 := (Option.some.inj hj).symm; omega)
  have b5 := (bl_alloc b3 (.cells #[.int .u8 x] 5)).grown hg5 (bl_alloc b3 (.cells #[.int .u8 x] 5)).size (fun j hj => by have := (row_typed HROW3.out hj).2; omega)
  have of6 := rf_kept of5 (.slice A5 m c5)
  have or6 := or5.far (p := ⟨w.heap.size, 6, none⟩) (show ¬ w.heap.size + 1 = w.heap.size by omega) (.slice A5 m c5)
  have b6 := b5.setCell (p := ⟨w.heap.size, 6, none⟩) (Nat.le_refl _) (.slice A5 m c5)
  have hrow6 := row_rest hrow5 (Rest.setCell w5 ⟨w.heap.size, 6, none⟩ (.slice A5 m c5)) (fun j hj e => (row_typed hrow5 hj).1.ne of5.typed (Ne.symm rf_types.1) e)
  have hrow7 : (w5.setCell ⟨w.heap.size, 6, none⟩ (.slice A5 m c5)).ownsRow (w.heap.size + 1 + 1) 5 1 (.slice A5 m c5) m ((kept ++ [x]).map (Value.int .u8)) := by rw [List.map_append]; exact hrow6
  obtain ⟨hx6, hmc, hd6⟩ := row_bytes hrow7 hkr
  have bt : BT _ _ A5 m (kept ++ [x]) := ⟨hx6, .inr fun a ha => (hd6 a ha).2.2⟩
  have hlb : LB w.heap.size A5 (kept ++ [x]) := .inr fun a ha => by have := (hd6 a ha).1; omega
  clear hrow5 hg5 of3 of5 or3 or5 b3 b5 hrow6 hrow7 hx6 hd6 cq6 fq6 hq6 HR0 HS1 HOF HOR HB1 HROW3 HG3
  generalize w5.setCell ⟨w.heap.size, 6, none⟩ (.slice A5 m c5) = w6 at *
  have hz6 : w.heap.size + 2 ≤ w6.heap.size := by have := or6.lt; omega
  have e0 := of6.cell (i := 6) rfl
  have e1 := of6.cell (i := 7) rfl
  go_wp2_with (first | (refine wpList_load_row rfl 34 _ rfl w.heap.size rfl 34 #[.bool a0, .bool a1, .bool a2, .bool a3, .bool a4, .bool a5, .slice A5 m c5, .int .i64 len, .bool false, .int .i64 fr] (0, 0) (.struct (Tryd.prog.fieldsOf 34)) of6 rf_desc rfl (rf_info _ _ _ _ _ _ _ _ _ _) ?_) | (refine wpList_store_row rfl 34 _ _ rfl (w.heap.size + 1) #[.bool a0, .bool a1, .bool a2, .bool a3, .bool a4, .bool a5, .slice A5 m c5, .int .i64 len, .bool false, .int .i64 fr] rfl rfl 34 #[.bool false, .bool false, .bool false, .bool false, .bool false, .bool false, .slice none 0 0, .int .i64 0, .bool false, .int .i64 0] or6 (rf_info _ _ _ _ _ _ _ _ _ _) rfl (rf_one _ _ _ _ _ _ _ _ _ _ _ _) ?_))
  have hbz := bl_setRow (g := w.heap.size + 1) (cs := #[.bool a0, .bool a1, .bool a2, .bool a3, .bool a4, .bool a5, .slice A5 m c5, .int .i64 len, .bool false, .int .i64 fr]) b6 (by omega)
  have bt2 := (bt.rest (Rest.setRowF _ (w.heap.size + 1) #[.bool a0, .bool a1, .bool a2, .bool a3, .bool a4, .bool a5, .slice A5 m c5, .int .i64 len, .bool false, .int .i64 fr]) (fun i _ ht e => ht.ne or6.typed (Ne.symm rf_types.1) e) (Nat.le_refl _)).more (Rest.setRowF _ (w.heap.size + 1) #[.bool a0, .bool a1, .bool a2, .bool a3, .bool a4, .bool a5, .slice A5 m c5, .int .i64 len, .bool false, .int .i64 fr]).size
  have hfin : RNo w m (kept ++ [x]) (fun A5 c5 => #[.bool a0, .bool a1, .bool a2, .bool a3, .bool a4, .bool a5, .slice A5 m c5, .int .i64 len, .bool false, .int .i64 fr]) _ _ := ⟨A5, c5, rfl, bt2, hlb, hbz⟩
  exact bodyPost_ret (results_cell_tmpF (p := 4) (t := 5) (fn := Tryd.f26) rfl _ _ (w.heap.size + 1) 34 #[.bool a0, .bool a1, .bool a2, .bool a3, .bool a4, .bool a5, .slice A5 m c5, .int .i64 len, .bool false, .int .i64 fr] _ rfl or6.setRow rf_desc rfl (rf_info _ _ _ _ _ _ _ _ _ _)) rfl hfin
set_option maxRecDepth 100000 in
set_option maxHeartbeats 6400000 in
theorem one_no3 (n c m : Nat) (K : Option Addr) (len : Int) (a0 a1 a2 a3 a4 a5 : Bool) (fr : Int) (kept : List Int) (x : Int) (w : World) (hK : BT w w.heap.size K n kept) (hkr : ∀ y ∈ kept ++ [x], 0 ≤ y ∧ y ≤ 255) (hn : n ≤ 100000) (hm : n + 1 = m) (h19 : 19 < m) (hw : ¬ (m : Int) = len) :
    Calls Tryd.prog 26 #[.agg #[.bool a0, .bool a1, .bool a2, .bool a3, .bool a4, .bool a5, .slice K n c, .int .i64 len, .bool false, .int .i64 fr], .int .u8 x] w fun e w' => RNo w m (kept ++ [x]) (fun A5 c5 => #[.bool a0, .bool a1, .bool a2, .bool a3, .bool a4, .bool a5, .slice A5 m c5, .int .i64 len, .bool false, .int .i64 fr]) e w' := by
  have q2 : ((m : Int) == 19) = false := by simp; omega
  have q3 : ¬ (m : Int) ≤ 16 := by omega
  have q4 : (19 : Int) ≤ (m : Int) := by omega
  have q5 : ((m : Int) == len) = false := by simpa using hw
  clear hw
  have hm1 : m ≤ 100001 := by omega
  have HM := Lib.hid hm
  have HN := Lib.hid hK.1.1
  have of0 := ((Own.new w 34 #[.bool a0, .bool a1, .bool a2, .bool a3, .bool a4, .bool a5, .slice K n c, .int .i64 len, .bool false, .int .i64 fr]).alloc (.cells #[.bool false, .bool false, .bool false, .bool false, .bool false, .bool false, .slice none 0 0, .int .i64 0, .bool false, .int .i64 0] 34)).alloc (.cells #[] 5)
  have or0 := Own.new (w.alloc (.cells #[.bool a0, .bool a1, .bool a2, .bool a3, .bool a4, .bool a5, .slice K n c, .int .i64 len, .bool false, .int .i64 fr] 34)) 34 #[.bool false, .bool false, .bool false, .bool false, .bool false, .bool false, .slice none 0 0, .int .i64 0, .bool false, .int .i64 0]
  rw [show (w.alloc (.cells #[.bool a0, .bool a1, .bool a2, .bool a3, .bool a4, .bool a5, .slice K n c, .int .i64 len, .bool false, .int .i64 fr] 34)).heap.size = w.heap.size + 1 by simp] at or0
  have or1 := or0.alloc (.cells #[] 5)
  have b1 := bl_alloc (bl_alloc (bl_alloc (bl_refl w) (.cells #[.bool a0, .bool a1, .bool a2, .bool a3, .bool a4, .bool a5, .slice K n c, .int .i64 len, .bool false, .int .i64 fr] 34)) (.cells #[.bool false, .bool false, .bool false, .bool false, .bool false, .bool false, .slice none 0 0, .int .i64 0, .bool false, .int .i64 0] 34)) (.cells #[] 5)
  have on0 := Own.new ((w.alloc (.cells #[.bool a0, .bool a1, .bool a2, .bool a3, .bool a4, .bool a5, .slice K n c, .int .i64 len, .bool false, .int .i64 fr] 34)).alloc (.cells #[.bool false, .bool false, .bool false, .bool false, .bool false, .bool false, .slice none 0 0, .int .i64 0, .bool false, .int .i64 0] 34)) 5 #[]
  rw [show ((w.alloc (.cells #[.bool a0, .bool a1, .bool a2, .bool a3, .bool a4, .bool a5, .slice K n c, .int .i64 len, .bool false, .int .i64 fr] 34)).alloc (.cells #[.bool false, .bool false, .bool false, .bool false, .bool false, .bool false, .slice none 0 0, .int .i64 0, .bool false, .int .i64 0] 34)).heap.size = w.heap.size + 1 + 1 by simp] at on0
  have hr0 := Own.row (cs := []) (n := 0) (base := w.heap.size + 1 + 1) on0 rfl (Nat.le_refl _) (by unfold maxLen; omega)
  have hs1 := hK.1.2.2.below b1
  have HR0 := Lib.hid hr0
  have HS1 := Lib.hid hs1
  have HOF := Lib.hid of0
  have HOR := Lib.hid or1
  have HB1 := Lib.hid b1
  clear hK of0 or0 or1 b1 on0 hr0 hs1 hm
  go_enter Tryd.func26, Tryd.ntmps26
  go_upto_region 2 with (at_builtin; first | (refine wpList_append_grow _ rfl _ _ rfl sl_bytes (w.heap.size + 1 + 1) _ 0 [] rfl HR0.out w.heap.size K n c (kept.map (Value.int .u8)) rfl (by rw [List.length_map, ← HN.out, Nat.mul_one]) HS1.out (one8 _) (by unfold maxLen; omega) (by omega) (by simp) ?_; intro v3 w3 hrow3 hg3; rw [Nat.zero_add, List.nil_append] at hrow3; have HROW3 := Lib.hid hrow3; have HG3 := Lib.hid hg3; have hz3 := hg3.size; simp at hz3; clear hrow3 hg3) | (refine wpList_append_grow _ rfl _ _ rfl sl_bytes (w.heap.size + 1 + 1) _ n (kept.map (Value.int .u8)) rfl (HROW3.out.alloc _) (w3.heap.size + 1) (some ⟨w3.heap.size, 0, none⟩) 1 1 [.int .u8 x] rfl rfl (Shows.of_owned (Own.new _ _ _) (by simp)) (one1 rfl) (by unfold maxLen; omega) (by omega) (by simp; omega) ?_; intro v5 w5 hrow5 hg5; rw [HM.out] at hrow5; obtain ⟨A5, c5, rfl⟩ := own_form hrow5; have of3 := HOF.out.grown HG3.out (ne_own (by omega)); have of5 := (of3.alloc (.cells #[.int .u8 x] 5)).grown hg5 (fun e => (row_typed HROW3.out e.symm).1.ne of3.typed (Ne.symm rf_types.1) rfl); have or3 := HOR.out.grown HG3.out (ne_own (by omega)); have or5 := (or3.alloc (.cells #[.int .u8 x] 5)).grown hg5 (fun e => (row_typed HROW3.out e.symm).1.ne or3.typed (Ne.symm rf_types.1) rfl); have cq6 := of5.cell (i := 6) rfl; have fq6 := of5.frozen 6; have hq6 := of5.lt))
  have b3 := HB1.out.grown HG3.out HB1.out.size (fun j hj => by have h2 : j = w.heap.size + 1 + 1 := (Option.some.inj hj).symm; omega)
  have b5 := (bl_alloc b3 (.cells #[.int .u8 x] 5)).grown hg5 (bl_alloc b3 (.cells #[.int .u8 x] 5)).size (fun j hj => by have := (row_typed HROW3.out hj).2; omega)
  have of6 := rf_kept of5 (.slice A5 m c5)
  have or6 := or5.far (p := ⟨w.heap.size, 6, none⟩) (show ¬ w.heap.size + 1 = w.heap.size by omega) (.slice A5 m c5)
  have b6 := b5.setCell (p := ⟨w.heap.size, 6, none⟩) (Nat.le_refl _) (.slice A5 m c5)
  have hrow6 := row_rest hrow5 (Rest.setCell w5 ⟨w.heap.size, 6, none⟩ (.slice A5 m c5)) (fun j hj e => (row_typed hrow5 hj).1.ne of5.typed (Ne.symm rf_types.1) e)
  have hrow7 : (w5.setCell ⟨w.heap.size, 6, none⟩ (.slice A5 m c5)).ownsRow (w.heap.size + 1 + 1) 5 1 (.slice A5 m c5) m ((kept ++ [x]).map (Value.int .u8)) := by rw [List.map_append]; exact hrow6
  obtain ⟨hx6, hmc, hd6⟩ := row_bytes hrow7 hkr
  have bt : BT _ _ A5 m (kept ++ [x]) := ⟨hx6, .inr fun a ha => (hd6 a ha).2.2⟩
  have hlb : LB w.heap.size A5 (kept ++ [x]) := .inr fun a ha => by have := (hd6 a ha).1; omega
  clear hrow5 hg5 of3 of5 or3 or5 b3 b5 hrow6 hrow7 hx6 hd6 cq6 fq6 hq6 HR0 HS1 HOF HOR HB1 HROW3 HG3
  generalize w5.setCell ⟨w.heap.size, 6, none⟩ (.slice A5 m c5) = w6 at *
  have hz6 : w.heap.size + 2 ≤ w6.heap.size := by have := or6.lt; omega
  have e0 := of6.cell (i := 6) rfl
  have e1 := of6.cell (i := 7) rfl
  go_wp2_with (first | (refine wpList_load_row rfl 34 _ rfl w.heap.size rfl 34 #[.bool a0, .bool a1, .bool a2, .bool a3, .bool a4, .bool a5, .slice A5 m c5, .int .i64 len, .bool false, .int .i64 fr] (0, 0) (.struct (Tryd.prog.fieldsOf 34)) of6 rf_desc rfl (rf_info _ _ _ _ _ _ _ _ _ _) ?_) | (refine wpList_store_row rfl 34 _ _ rfl (w.heap.size + 1) #[.bool a0, .bool a1, .bool a2, .bool a3, .bool a4, .bool a5, .slice A5 m c5, .int .i64 len, .bool false, .int .i64 fr] rfl rfl 34 #[.bool false, .bool false, .bool false, .bool false, .bool false, .bool false, .slice none 0 0, .int .i64 0, .bool false, .int .i64 0] or6 (rf_info _ _ _ _ _ _ _ _ _ _) rfl (rf_one _ _ _ _ _ _ _ _ _ _ _ _) ?_))
  have hbz := bl_setRow (g := w.heap.size + 1) (cs := #[.bool a0, .bool a1, .bool a2, .bool a3, .bool a4, .bool a5, .slice A5 m c5, .int .i64 len, .bool false, .int .i64 fr]) b6 (by omega)
  have bt2 := (bt.rest (Rest.setRowF _ (w.heap.size + 1) #[.bool a0, .bool a1, .bool a2, .bool a3, .bool a4, .bool a5, .slice A5 m c5, .int .i64 len, .bool false, .int .i64 fr]) (fun i _ ht e => ht.ne or6.typed (Ne.symm rf_types.1) e) (Nat.le_refl _)).more (Rest.setRowF _ (w.heap.size + 1) #[.bool a0, .bool a1, .bool a2, .bool a3, .bool a4, .bool a5, .slice A5 m c5, .int .i64 len, .bool false, .int .i64 fr]).size
  have hfin : RNo w m (kept ++ [x]) (fun A5 c5 => #[.bool a0, .bool a1, .bool a2, .bool a3, .bool a4, .bool a5, .slice A5 m c5, .int .i64 len, .bool false, .int .i64 fr]) _ _ := ⟨A5, c5, rfl, bt2, hlb, hbz⟩
  exact bodyPost_ret (results_cell_tmpF (p := 4) (t := 5) (fn := Tryd.f26) rfl _ _ (w.heap.size + 1) 34 #[.bool a0, .bool a1, .bool a2, .bool a3, .bool a4, .bool a5, .slice A5 m c5, .int .i64 len, .bool false, .int .i64 fr] _ rfl or6.setRow rf_desc rfl (rf_info _ _ _ _ _ _ _ _ _ _)) rfl hfin
set_option maxRecDepth 100000 in
set_option maxHeartbeats 6400000 in
theorem one_yes (n c m : Nat) (K : Option Addr) (len : Int) (a0 a1 a2 a3 a4 a5 : Bool) (fr : Int) (kept : List Int) (x : Int) (w : World) (hK : BT w w.heap.size K n kept) (hkr : ∀ y ∈ kept ++ [x], 0 ≤ y ∧ y ≤ 255) (hn : n ≤ 100000) (hm : n + 1 = m) (h19 : 19 < m) (hw : (m : Int) = len) (hf0 : 0 ≤ fr) (hf1 : fr ≤ 1000000000) :
    Calls Tryd.prog 26 #[.agg #[.bool a0, .bool a1, .bool a2, .bool a3, .bool a4, .bool a5, .slice K n c, .int .i64 len, .bool false, .int .i64 fr], .int .u8 x] w fun e w' => RYes w m (kept ++ [x]) #[.bool a0, .bool a1, .bool a2, .bool a3, .bool a4, .bool a5, .slice none 0 0, .int .i64 len, .bool false, .int .i64 (fr + 1)] e w' := by
  have q2 : ((m : Int) == 19) = false := by simp; omega
  have q3 : ¬ (m : Int) ≤ 16 := by omega
  have q4 : (19 : Int) ≤ (m : Int) := by omega
  have q5 : ((m : Int) == len) = true := by simpa using hw
  clear hw
  have hm1 : m ≤ 100001 := by omega
  have HM := Lib.hid hm
  have HN := Lib.hid hK.1.1
  have of0 := ((Own.new w 34 #[.bool a0, .bool a1, .bool a2, .bool a3, .bool a4, .bool a5, .slice K n c, .int .i64 len, .bool false, .int .i64 fr]).alloc (.cells #[.bool false, .bool false, .bool false, .bool false, .bool false, .bool false, .slice none 0 0, .int .i64 0, .bool false, .int .i64 0] 34)).alloc (.cells #[] 5)
  have or0 := Own.new (w.alloc (.cells #[.bool a0, .bool a1, .bool a2, .bool a3, .bool a4, .bool a5, .slice K n c, .int .i64 len, .bool false, .int .i64 fr] 34)) 34 #[.bool false, .bool false, .bool false, .bool false, .bool false, .bool false, .slice none 0 0, .int .i64 0, .bool false, .int .i64 0]
  rw [show (w.alloc (.cells #[.bool a0, .bool a1, .bool a2, .bool a3, .bool a4, .bool a5, .slice K n c, .int .i64 len, .bool false, .int .i64 fr] 34)).heap.size = w.heap.size + 1 by simp] at or0
  have or1 := or0.alloc (.cells #[] 5)
  have b1 := bl_alloc (bl_alloc (bl_alloc (bl_refl w) (.cells #[.bool a0, .bool a1, .bool a2, .bool a3, .bool a4, .bool a5, .slice K n c, .int .i64 len, .bool false, .int .i64 fr] 34)) (.cells #[.bool false, .bool false, .bool false, .bool false, .bool false, .bool false, .slice none 0 0, .int .i64 0, .bool false, .int .i64 0] 34)) (.cells #[] 5)
  have on0 := Own.new ((w.alloc (.cells #[.bool a0, .bool a1, .bool a2, .bool a3, .bool a4, .bool a5, .slice K n c, .int .i64 len, .bool false, .int .i64 fr] 34)).alloc (.cells #[.bool false, .bool false, .bool false, .bool false, .bool false, .bool false, .slice none 0 0, .int .i64 0, .bool false, .int .i64 0] 34)) 5 #[]
  rw [show ((w.alloc (.cells #[.bool a0, .bool a1, .bool a2, .bool a3, .bool a4, .bool a5, .slice K n c, .int .i64 len, .bool false, .int .i64 fr] 34)).alloc (.cells #[.bool false, .bool false, .bool false, .bool false, .bool false, .bool false, .slice none 0 0, .int .i64 0, .bool false, .int .i64 0] 34)).heap.size = w.heap.size + 1 + 1 by simp] at on0
  have hr0 := Own.row (cs := []) (n := 0) (base := w.heap.size + 1 + 1) on0 rfl (Nat.le_refl _) (by unfold maxLen; omega)
  have hs1 := hK.1.2.2.below b1
  have HR0 := Lib.hid hr0
  have HS1 := Lib.hid hs1
  have HOF := Lib.hid of0
  have HOR := Lib.hid or1
  have HB1 := Lib.hid b1
  clear hK of0 or0 or1 b1 on0 hr0 hs1 hm
  go_enter Tryd.func26, Tryd.ntmps26
  go_upto_region 2 with (at_builtin; first | (refine wpList_append_grow _ rfl _ _ rfl sl_bytes (w.heap.size + 1 + 1) _ 0 [] rfl HR0.out w.heap.size K n c (kept.map (Value.int .u8)) rfl (by rw [List.length_map, ← HN.out, Nat.mul_one]) HS1.out (one8 _) (by unfold maxLen; omega) (by omega) (by simp) ?_; intro v3 w3 hrow3 hg3; rw [Nat.zero_add, List.nil_append] at hrow3; have HROW3 := Lib.hid hrow3; have HG3 := Lib.hid hg3; have hz3 := hg3.size; simp at hz3; clear hrow3 hg3) | (refine wpList_append_grow _ rfl _ _ rfl sl_bytes (w.heap.size + 1 + 1) _ n (kept.map (Value.int .u8)) rfl (HROW3.out.alloc _) (w3.heap.size + 1) (some ⟨w3.heap.size, 0, none⟩) 1 1 [.int .u8 x] rfl rfl (Shows.of_owned (Own.new _ _ _) (by simp)) (one1 rfl) (by unfold maxLen; omega) (by omega) (by simp; omega) ?_; intro v5 w5 hrow5 hg5; rw [HM.out] at hrow5; obtain ⟨A5, c5, rfl⟩ := own_form hrow5; have of3 := HOF.out.grown HG3.out (ne_own (by omega)); have of5 := (of3.alloc (.cells #[.int .u8 x] 5)).grown hg5 (fun e => (row_typed HROW3.out e.symm).1.ne of3.typed (Ne.symm rf_types.1) rfl); have or3 := HOR.out.grown HG3.out (ne_own (by omega)); have or5 := (or3.alloc (.cells #[.int .u8 x] 5)).grown hg5 (fun e => (row_typed HROW3.out e.symm).1.ne or3.typed (Ne.symm rf_types.1) rfl); have cq6 := of5.cell (i := 6) rfl; have fq6 := of5.frozen 6; have hq6 := of5.lt))
  have b3 := HB1.out.grown HG3.out HB1.out.size (fun j hj => by have h2 : j = w.heap.size + 1 + 1 := (Option.some.inj hj).symm; omega)
  have b5 := (bl_alloc b3 (.cells #[.int .u8 x] 5)).grown hg5 (bl_alloc b3 (.cells #[.int .u8 x] 5)).size (fun j hj => by have := (row_typed HROW3.out hj).2; omega)
  have of6 := rf_kept of5 (.slice A5 m c5)
  have or6 := or5.far (p := ⟨w.heap.size, 6, none⟩) (show ¬ w.heap.size + 1 = w.heap.size by omega) (.slice A5 m c5)
  have b6 := b5.setCell (p := ⟨w.heap.size, 6, none⟩) (Nat.le_refl _) (.slice A5 m c5)
  have hrow6 := row_rest hrow5 (Rest.setCell w5 ⟨w.heap.size, 6, none⟩ (.slice A5 m c5)) (fun j hj e => (row_typed hrow5 hj).1.ne of5.typed (Ne.symm rf_types.1) e)
  have hrow7 : (w5.setCell ⟨w.heap.size, 6, none⟩ (.slice A5 m c5)).ownsRow (w.heap.size + 1 + 1) 5 1 (.slice A5 m c5) m ((kept ++ [x]).map (Value.int .u8)) := by rw [List.map_append]; exact hrow6
  obtain ⟨hx6, hmc, hd6⟩ := row_bytes hrow7 hkr
  have bt : BT _ _ A5 m (kept ++ [x]) := ⟨hx6, .inr fun a ha => (hd6 a ha).2.2⟩
  have hlb : LB w.heap.size A5 (kept ++ [x]) := .inr fun a ha => by have := (hd6 a ha).1; omega
  clear hrow5 hg5 of3 of5 or3 or5 b3 b5 hrow6 hrow7 hx6 hd6 cq6 fq6 hq6 HR0 HS1 HOF HOR HB1 HROW3 HG3
  generalize w5.setCell ⟨w.heap.size, 6, none⟩ (.slice A5 m c5) = w6 at *
  have hz6 : w.heap.size + 2 ≤ w6.heap.size := by have := or6.lt; omega
  have e0 := of6.cell (i := 6) rfl
  have e1 := of6.cell (i := 7) rfl
  go_upto_region 12 with fail
  obtain ⟨eb, heb0⟩ : ∃ z, z = w6.heap.size := ⟨_, rfl⟩
  have hbe := bl_alloc (bl_refl w6) (.cells #[.slice A5 m c5, .int .i64 0, .int .i64 0, .int .i64 0, .slice none 0 0, .int .i64 0] 51)
  have oe7 := Own.new w6 51 #[.slice A5 m c5, .int .i64 0, .int .i64 0, .int .i64 0, .slice none 0 0, .int .i64 0]
  have of7 := of6.step hbe
  have or7 := or6.step hbe
  have b7 := bl_trans b6 hbe
  have bt7 := (bt.below hbe (Nat.le_refl _)).more hbe.size
  have heb : ¬ eb = w.heap.size + 1 := by omega
  have heb2 : ¬ eb = w.heap.size := by omega
  rw [← heb0] at oe7 ⊢
  clear heb0
  generalize w6.alloc (.cells #[.slice A5 m c5, .int .i64 0, .int .i64 0, .int .i64 0, .slice none 0 0, .int .i64 0] 51) = w7 at *
  have g6 := of7.cell (i := 6) rfl
  have g9 := of7.cell (i := 9) rfl
  have z6 := of7.frozen 6
  have z9 := of7.frozen 9
  have hwr : IntKind.i64.wrap (fr + 1) = fr + 1 := by rw [IntKind.wrap_i64]; omega
  clear of6 or6 b6 bt hbe e0 e1
  go_upto_region 14 with fail
  have of9 := rf_fr (rf_kept of7 (.slice none 0 0)) (.int .i64 (fr + 1))
  have or9 := (or7.far (p := ⟨w.heap.size, 6, none⟩) (show ¬ w.heap.size + 1 = w.heap.size by omega) (.slice none 0 0)).far (p := ⟨w.heap.size, 9, none⟩) (show ¬ w.heap.size + 1 = w.heap.size by omega) (.int .i64 (fr + 1))
  have oe9 := (oe7.far (p := ⟨w.heap.size, 6, none⟩) heb2 (.slice none 0 0)).far (p := ⟨w.heap.size, 9, none⟩) heb2 (.int .i64 (fr + 1))
  have R9 := (Rest.setCell w7 ⟨w.heap.size, 6, none⟩ (.slice none 0 0)).trans (Rest.setCell _ ⟨w.heap.size, 9, none⟩ (.int .i64 (fr + 1))) (fun i _ h => h)
  have bt9 := (bt7.rest R9 (fun i _ ht e => ht.ne of7.typed (Ne.symm rf_types.1) e) (Nat.le_refl _)).more R9.size
  have b9 := (b7.setCell (p := ⟨w.heap.size, 6, none⟩) (Nat.le_refl _) (.slice none 0 0)).setCell (p := ⟨w.heap.size, 9, none⟩) (Nat.le_refl _) (.int .i64 (fr + 1))
  have hz9 : w.heap.size + 2 ≤ ((w7.setCell ⟨w.heap.size, 6, none⟩ (.slice none 0 0)).setCell ⟨w.heap.size, 9, none⟩ (.int .i64 (fr + 1))).heap.size := by have := or9.lt; omega
  clear of7 or7 oe7 b7 bt7 R9 g6 g9 z6 z9
  generalize (w7.setCell ⟨w.heap.size, 6, none⟩ (.slice none 0 0)).setCell ⟨w.heap.size, 9, none⟩ (.int .i64 (fr + 1)) = w9 at *
  have HS := Lib.hid (fun W (p : Own W w.heap.size 34 #[.bool a0, .bool a1, .bool a2, .bool a3, .bool a4, .bool a5, .slice none 0 0, .int .i64 len, .bool false, .int .i64 (fr + 1)]) (q : Own W eb 51 #[.slice A5 m c5, .int .i64 0, .int .i64 0, .int .i64 0, .slice none 0 0, .int .i64 0]) => rs6 p q)
  refine wp_region_noPanic ?_
  refine wp_region_held_drew (S := (fun W => W.rangeAt w.heap.size 0 #[.bool a0, .bool a1, .bool a2, .bool a3, .bool a4, .bool a5, .slice none 0 0, .int .i64 len, .bool false, .int .i64 (fr + 1)].toList ∧ W.cell? ⟨eb, 0, none⟩ = some (.slice A5 m c5) ∧ W.cell? ⟨eb, 1, none⟩ = some (.int .i64 0) ∧ W.cell? ⟨eb, 2, none⟩ = some (.int .i64 0) ∧ W.cell? ⟨eb, 3, none⟩ = some (.int .i64 0) ∧ W.cell? ⟨eb, 4, none⟩ = some (.slice none 0 0) ∧ W.cell? ⟨eb, 5, none⟩ = some (.int .i64 0))) (by kernel_rfl) (HS.out _ of9.drew oe9.drew) (fun hHeld => ?_)
  refine wpAnyH_take (i := 0) (v := _) rfl (by kernel_rfl) (by kernel_rfl) (by kernel_rfl) (fun _ _ _ h => h) (yieldsIf_load_mid (by rfl) 34 _ rfl w.heap.size 0 rfl #[.bool a0, .bool a1, .bool a2, .bool a3, .bool a4, .bool a5, .slice none 0 0, .int .i64 len, .bool false, .int .i64 (fr + 1)].toList _ (fun W hW => hW.1) rf_desc rfl (rf_infoL _ _ _ _ _ _ _ _ _ _)) (by assumption) ?_
  simp only [Act.put, List.getElem_toArray, List.getElem_cons_zero, List.setIfInBounds_toArray, List.set_cons_zero, List.set_cons_succ]
  refine wpAnyH_take (i := 1) (v := ?_) rfl (by kernel_rfl) (by kernel_rfl) (by kernel_rfl) (fun _ _ _ h => h) (Or.inl ⟨by rfl, ?_⟩) (by assumption) ?_
  rotate_left
  · (intro W hSw; obtain ⟨s0, s1, s2, s3, s4, s5, s6⟩ := hSw; go_simp; try with_reducible rfl)
  simp only [Act.put, List.getElem_toArray, List.getElem_cons_zero, List.getElem_cons_succ, List.setIfInBounds_toArray, List.set_cons_zero, List.set_cons_succ]
  refine wpAnyH_ready (rs := [2, 3]) (by kernel_rfl) (by simp) ?_
  refine AllReadyH.cons rfl (fun K hK => ?_) (AllReadyH.cons rfl (fun K hK => ?_) AllReadyH.nil)
  · go_simp
    have hbA := bl_alloc (bl_refl w9.drew) (.cells #[.slice A5 m c5, .int .i64 0, .int .i64 0, .int .i64 0, .slice none 0 0, .int .i64 0] 51)
    have ofA := of9.drew.step hbA
    have oeA := oe9.drew.step hbA
    have orA := or9.drew.step hbA
    have obA := Own.new w9.drew 51 #[.slice A5 m c5, .int .i64 0, .int .i64 0, .int .i64 0, .slice none 0 0, .int .i64 0]
    refine hK.out _ _ (HS.out _ ofA oeA) (fun hHeld2 => ?_)
    clear hK K hHeld
    have hHeld := hHeld2
    clear hHeld2
    try simp only [Act.put, List.getElem_toArray, List.getElem_cons_zero, List.getElem_cons_succ, List.setIfInBounds_toArray, List.set_cons_zero, List.set_cons_succ]
    refine wpAnyH_ready (rs := [3]) (by kernel_rfl) (by simp) ?_
    refine AllReadyH.cons rfl (fun K hK => ?_) AllReadyH.nil
    refine step_store_rowF rfl _ _ _ rfl (w.heap.size + 1) #[.bool a0, .bool a1, .bool a2, .bool a3, .bool a4, .bool a5, .slice none 0 0, .int .i64 len, .bool false, .int .i64 (fr + 1)] rfl rfl 34 #[.bool false, .bool false, .bool false, .bool false, .bool false, .bool false, .slice none 0 0, .int .i64 0, .bool false, .int .i64 0] orA (rf_info _ _ _ _ _ _ _ _ _ _) rfl (rf_one _ _ _ _ _ _ _ _ _ _ _ _) ?_
    have RA := Rest.setRowF (w9.drew.alloc (.cells #[.slice A5 m c5, .int .i64 0, .int .i64 0, .int .i64 0, .slice none 0 0, .int .i64 0] 51)) (w.heap.size + 1) #[.bool a0, .bool a1, .bool a2, .bool a3, .bool a4, .bool a5, .slice none 0 0, .int .i64 len, .bool false, .int .i64 (fr + 1)]
    have orz := orA.setRow (cs' := #[.bool a0, .bool a1, .bool a2, .bool a3, .bool a4, .bool a5, .slice none 0 0, .int .i64 len, .bool false, .int .i64 (fr + 1)])
    have ofz := RA.own ofA (fun e => by have h : w.heap.size = w.heap.size + 1 := e; omega)
    have oez := RA.own oeA (fun e => by have h : eb = w.heap.size + 1 := e; exact heb h)
    have obz := RA.own obA (fun e => by have h : w9.heap.size = w.heap.size + 1 := e; omega)
    have btz := ((bt9.below (bl_refl w9).drew (Nat.le_refl _)).below hbA (Nat.le_refl _)).more hbA.size
    replace btz := (btz.rest RA (fun i _ ht e => ht.ne orA.typed (Ne.symm rf_types.1) e) (Nat.le_refl _)).more RA.size
    have bz := bl_setRow (g := w.heap.size + 1) (cs := #[.bool a0, .bool a1, .bool a2, .bool a3, .bool a4, .bool a5, .slice none 0 0, .int .i64 len, .bool false, .int .i64 (fr + 1)]) (bl_alloc b9.drew (.cells #[.slice A5 m c5, .int .i64 0, .int .i64 0, .int .i64 0, .slice none 0 0, .int .i64 0] 51)) (by omega)
    refine hK.out _ _ (HS.out _ ofz oez) (fun hHeld2 => ?_)
    clear hK K hHeld
    have hHeld := hHeld2
    clear hHeld2
    try simp only [Act.put, List.getElem_toArray, List.getElem_cons_zero, List.getElem_cons_succ]
    refine wpAnyH_take (i := 4) (v := ?_) rfl (by kernel_rfl) (by kernel_rfl) (by kernel_rfl) (fun _ _ _ h => h) (Or.inl ⟨by rfl, ?_⟩) (by assumption) ?_
    rotate_left
    · (intro W hSw; obtain ⟨s0, s1, s2, s3, s4, s5, s6⟩ := hSw; go_simp; try with_reducible rfl)
    simp only [Act.put, List.getElem_toArray, List.getElem_cons_zero, List.getElem_cons_succ, List.setIfInBounds_toArray, List.set_cons_zero, List.set_cons_succ]
    refine wpAnyH_done (by kernel_rfl) ?_ _
    refine NoPanic.normal ?_
    go_wp2
    have hfin : RYes w m (kept ++ [x]) #[.bool a0, .bool a1, .bool a2, .bool a3, .bool a4, .bool a5, .slice none 0 0, .int .i64 len, .bool false, .int .i64 (fr + 1)] _ _ := ⟨w9.heap.size, A5, c5, rfl, b9.size, obz, btz, hlb, bz⟩
    exact bodyPost_ret (results_cell_tmpF (p := 4) (t := 5) (fn := Tryd.f26) rfl _ _ (w.heap.size + 1) 34 #[.bool a0, .bool a1, .bool a2, .bool a3, .bool a4, .bool a5, .slice none 0 0, .int .i64 len, .bool false, .int .i64 (fr + 1)] _ rfl orz rf_desc rfl (rf_info _ _ _ _ _ _ _ _ _ _)) rfl hfin
  · refine step_store_rowF rfl _ _ _ rfl (w.heap.size + 1) #[.bool a0, .bool a1, .bool a2, .bool a3, .bool a4, .bool a5, .slice none 0 0, .int .i64 len, .bool false, .int .i64 (fr + 1)] rfl rfl 34 #[.bool false, .bool false, .bool false, .bool false, .bool false, .bool false, .slice none 0 0, .int .i64 0, .bool false, .int .i64 0] or9.drew (rf_info _ _ _ _ _ _ _ _ _ _) rfl (rf_one _ _ _ _ _ _ _ _ _ _ _ _) ?_
    have RB := Rest.setRowF w9.drew (w.heap.size + 1) #[.bool a0, .bool a1, .bool a2, .bool a3, .bool a4, .bool a5, .slice none 0 0, .int .i64 len, .bool false, .int .i64 (fr + 1)]
    have orB := or9.drew.setRow (cs' := #[.bool a0, .bool a1, .bool a2, .bool a3, .bool a4, .bool a5, .slice none 0 0, .int .i64 len, .bool false, .int .i64 (fr + 1)])
    have ofB := RB.own of9.drew (fun e => by have h : w.heap.size = w.heap.size + 1 := e; omega)
    have oeB := RB.own oe9.drew (fun e => by have h : eb = w.heap.size + 1 := e; exact heb h)
    have btB := ((bt9.below (bl_refl w9).drew (Nat.le_refl _)).rest RB (fun i _ ht e => ht.ne or9.typed (Ne.symm rf_types.1) e) (Nat.le_refl _)).more RB.size
    have bB := bl_setRow (g := w.heap.size + 1) (cs := #[.bool a0, .bool a1, .bool a2, .bool a3, .bool a4, .bool a5, .slice none 0 0, .int .i64 len, .bool false, .int .i64 (fr + 1)]) b9.drew (by omega)
    refine hK.out _ _ (HS.out _ ofB oeB) (fun hHeld2 => ?_)
    clear hK K hHeld
    have hHeld := hHeld2
    clear hHeld2
    try simp only [Act.put, List.getElem_toArray, List.getElem_cons_zero, List.getElem_cons_succ]
    refine wpAnyH_ready (rs := [2]) (by kernel_rfl) (by simp) ?_
    refine AllReadyH.cons rfl (fun K hK => ?_) AllReadyH.nil
    go_simp
    have hbB := bl_alloc (bl_refl (w9.drew.setRow (w.heap.size + 1) #[.bool a0, .bool a1, .bool a2, .bool a3, .bool a4, .bool a5, .slice none 0 0, .int .i64 len, .bool false, .int .i64 (fr + 1)])) (.cells #[.slice A5 m c5, .int .i64 0, .int .i64 0, .int .i64 0, .slice none 0 0, .int .i64 0] 51)
    have orz := orB.step hbB
    have ofz := ofB.step hbB
    have oez := oeB.step hbB
    have obz := Own.new (w9.drew.setRow (w.heap.size + 1) #[.bool a0, .bool a1, .bool a2, .bool a3, .bool a4, .bool a5, .slice none 0 0, .int .i64 len, .bool false, .int .i64 (fr + 1)]) 51 #[.slice A5 m c5, .int .i64 0, .int .i64 0, .int .i64 0, .slice none 0 0, .int .i64 0]
    rw [show (w9.drew.setRow (w.heap.size + 1) #[.bool a0, .bool a1, .bool a2, .bool a3, .bool a4, .bool a5, .slice none 0 0, .int .i64 len, .bool false, .int .i64 (fr + 1)]).heap.size = w9.heap.size by simp] at obz
    have btz := (btB.below hbB (Nat.le_refl _)).more hbB.size
    have bz := bl_alloc bB (.cells #[.slice A5 m c5, .int .i64 0, .int .i64 0, .int .i64 0, .slice none 0 0, .int .i64 0] 51)
    refine hK.out _ _ (HS.out _ ofz oez) (fun hHeld2 => ?_)
    clear hK K hHeld
    have hHeld := hHeld2
    clear hHeld2
    try simp only [Act.put, List.getElem_toArray, List.getElem_cons_zero, List.getElem_cons_succ, List.setIfInBounds_toArray, List.set_cons_zero, List.set_cons_succ]
    refine wpAnyH_take (i := 4) (v := ?_) rfl (by kernel_rfl) (by kernel_rfl) (by kernel_rfl) (fun _ _ _ h => h) (Or.inl ⟨by rfl, ?_⟩) (by assumption) ?_
    rotate_left
    · (intro W hSw; obtain ⟨s0, s1, s2, s3, s4, s5, s6⟩ := hSw; go_simp; try with_reducible rfl)
    simp only [Act.put, List.getElem_toArray, List.getElem_cons_zero, List.getElem_cons_succ, List.setIfInBounds_toArray, List.set_cons_zero, List.set_cons_succ]
    refine wpAnyH_done (by kernel_rfl) ?_ _
    refine NoPanic.normal ?_
    go_wp2
    have hfin : RYes w m (kept ++ [x]) #[.bool a0, .bool a1, .bool a2, .bool a3, .bool a4, .bool a5, .slice none 0 0, .int .i64 len, .bool false, .int .i64 (fr + 1)] _ _ := ⟨w9.heap.size, A5, c5, rfl, b9.size, obz, btz, hlb, bz⟩
    exact bodyPost_ret (results_cell_tmpF (p := 4) (t := 5) (fn := Tryd.f26) rfl _ _ (w.heap.size + 1) 34 #[.bool a0, .bool a1, .bool a2, .bool a3, .bool a4, .bool a5, .slice none 0 0, .int .i64 len, .bool false, .int .i64 (fr + 1)] _ rfl orz rf_desc rfl (rf_info _ _ _ _ _ _ _ _ _ _)) rfl hfin
end Go.Proofs.YtgahjchngmojlabDoor

/- peerageref23.one: the ways that parse a header -/
namespace Go.Proofs.YtgahjchngmojlabDoor
open Go.RowKit

set_option maxRecDepth 100000 in
set_option maxHeartbeats 6400000 in
theorem one_bad1 (n c m : Nat) (K : Option Addr) (len : Int) (a0 a1 a2 a3 a4 a5 : Bool) (fr : Int) (kept : List Int) (x : Int) (w : World) (hK : BT w w.heap.size K n kept) (hkr : ∀ y ∈ kept ++ [x], 0 ≤ y ∧ y ≤ 255) (hn : n ≤ 100000) (hm : n + 1 = m) (hx : x ≠ 255) (h16 : m ≤ 16) (r : HR) (hSP : Hid (∀ w A n c, Bytes w w.heap.size A n (kept ++ [x]) → n ≤ 1000000000 → Calls Tryd.prog 41 #[.agg #[.bool a0, .bool a1, .bool a2, .bool a3, .bool a4, .bool a5], .slice A n c] w fun e w' => ∃ A1 m1 c1, e = .returned (.tuple #[.int .i64 r.N, .int .i64 r.K, .agg #[.int .i64 r.k1, .int .i64 r.k2, .int .i64 r.k3, .slice A1 m1 c1, .int .i64 r.k5]]) ∧ BT w' w'.heap.size A1 m1 r.d ∧ LB w.heap.size A1 r.d ∧ Below w.heap.size w w')) (hk : r.k1 ≠ 0) :
    Calls Tryd.prog 26 #[.agg #[.bool a0, .bool a1, .bool a2, .bool a3, .bool a4, .bool a5, .slice K n c, .int .i64 len, .bool false, .int .i64 fr], .int .u8 x] w fun e w' => RBad w r #[.bool a0, .bool a1, .bool a2, .bool a3, .bool a4, .bool a5, .slice none 0 0, .int .i64 len, .bool true, .int .i64 fr] e w' := by
  have q1 : (x != 255) = true := by simpa using hx
  clear hx
  have q3 : (m : Int) ≤ 16 := by omega
  have p0 : (r.k1 != 0) = true := by simpa using hk
  clear hk
  have hm1 : m ≤ 100001 := by omega
  have HM := Lib.hid hm
  have HN := Lib.hid hK.1.1
  have of0 := ((Own.new w 34 #[.bool a0, .bool a1, .bool a2, .bool a3, .bool a4, .bool a5, .slice K n c, .int .i64 len, .bool false, .int .i64 fr]).alloc (.cells #[.bool false, .bool false, .bool false, .bool false, .bool false, .bool false, .slice none 0 0, .int .i64 0, .bool false, .int .i64 0] 34)).alloc (.cells #[] 5)
  have or0 := Own.new (w.alloc (.cells #[.bool a0, .bool a1, .bool a2, .bool a3, .bool a4, .bool a5, .slice K n c, .int .i64 len, .bool false, .int .i64 fr] 34)) 34 #[.bool false, .bool false, .bool false, .bool false, .bool false, .bool false, .slice none 0 0, .int .i64 0, .bool false, .int .i64 0]
  rw [show (w.alloc (.cells #[.bool a0, .bool a1, .bool a2, .bool a3, .bool a4, .bool a5, .slice K n c, .int .i64 len, .bool false, .int .i64 fr] 34)).heap.size = w.heap.size + 1 by simp] at or0
  have or1 := or0.alloc (.cells #[] 5)
  have b1 := bl_alloc (bl_alloc (bl_alloc (bl_refl w) (.cells #[.bool a0, .bool a1, .bool a2, .bool a3, .bool a4, .bool a5, .slice K n c, .int .i64 len, .bool false, .int .i64 fr] 34)) (.cells #[.bool false, .bool false, .bool false, .bool false, .bool false, .bool false, .slice none 0 0, .int .i64 0, .bool false, .int .i64 0] 34)) (.cells #[] 5)
  have on0 := Own.new ((w.alloc (.cells #[.bool a0, .bool a1, .bool a2, .bool a3, .bool a4, .bool a5, .slice K n c, .int .i64 len, .bool false, .int .i64 fr] 34)).alloc (.cells #[.bool false, .bool false, .bool false, .bool false, .bool false, .bool false, .slice none 0 0, .int .i64 0, .bool false, .int .i64 0] 34)) 5 #[]
  rw [show ((w.alloc (.cells #[.bool a0, .bool a1, .bool a2, .bool a3, .bool a4, .bool a5, .slice K n c, .int .i64 len, .bool false, .int .i64 fr] 34)).alloc (.cells #[.bool false, .bool false, .bool false, .bool false, .bool false, .bool false, .slice none 0 0, .int .i64 0, .bool false, .int .i64 0] 34)).heap.size = w.heap.size + 1 + 1 by simp] at on0
  have hr0 := Own.row (cs := []) (n := 0) (base := w.heap.size + 1 + 1) on0 rfl (Nat.le_refl _) (by unfold maxLen; omega)
  have hs1 := hK.1.2.2.below b1
  have HR0 := Lib.hid hr0
  have HS1 := Lib.hid hs1
  have HOF := Lib.hid of0
  have HOR := Lib.hid or1
  have HB1 := Lib.hid b1
  clear hK of0 or0 or1 b1 on0 hr0 hs1 hm
  go_enter Tryd.func26, Tryd.ntmps26
  go_upto_region 2 with (at_builtin; first | (refine wpList_append_grow _ rfl _ _ rfl sl_bytes (w.heap.size + 1 + 1) _ 0 [] rfl HR0.out w.heap.size K n c (kept.map (Value.int .u8)) rfl (by rw [List.length_map, ← HN.out, Nat.mul_one]) HS1.out (one8 _) (by unfold maxLen; omega) (by omega) (by simp) ?_; intro v3 w3 hrow3 hg3; rw [Nat.zero_add, List.nil_append] at hrow3; have HROW3 := Lib.hid hrow3; have HG3 := Lib.hid hg3; have hz3 := hg3.size; simp at hz3; clear hrow3 hg3) | (refine wpList_append_grow _ rfl _ _ rfl sl_bytes (w.heap.size + 1 + 1) _ n (kept.map (Value.int .u8)) rfl (HROW3.out.alloc _) (w3.heap.size + 1) (some ⟨w3.heap.size, 0, none⟩) 1 1 [.int .u8 x] rfl rfl (Shows.of_owned (Own.new _ _ _) (by simp)) (one1 rfl) (by unfold maxLen; omega) (by omega) (by simp; omega) ?_; intro v5 w5 hrow5 hg5; rw [HM.out] at hrow5; obtain ⟨A5, c5, rfl⟩ := own_form hrow5; have of3 := HOF.out.grown HG3.out (ne_own (by omega)); have of5 := (of3.alloc (.cells #[.int .u8 x] 5)).grown hg5 (fun e => (row_typed HROW3.out e.symm).1.ne of3.typed (Ne.symm rf_types.1) rfl); have or3 := HOR.out.grown HG3.out (ne_own (by omega)); have or5 := (or3.alloc (.cells #[.int .u8 x] 5)).grown hg5 (fun e => (row_typed HROW3.out e.symm).1.ne or3.typed (Ne.symm rf_types.1) rfl); have cq6 := of5.cell (i := 6) rfl; have fq6 := of5.frozen 6; have hq6 := of5.lt))
  have b3 := HB1.out.grown HG3.out HB1.out.size (fun j hj => by have h2 : j = w.heap.size + 1 + 1 := (Option.some.inj hj).symm; omega)
  have b5 := (bl_alloc b3 (.cells #[.int .u8 x] 5)).grown hg5 (bl_alloc b3 (.cells #[.int .u8 x] 5)).size (fun j hj => by have := (row_typed HROW3.out hj).2; omega)
  have of6 := rf_kept of5 (.slice A5 m c5)
  have or6 := or5.far (p := ⟨w.heap.size, 6, none⟩) (show ¬ w.heap.size + 1 = w.heap.size by omega) (.slice A5 m c5)
  have b6 := b5.setCell (p := ⟨w.heap.size, 6, none⟩) (Nat.le_refl _) (.slice A5 m c5)
  have hrow6 := row_rest hrow5 (Rest.setCell w5 ⟨w.heap.size, 6, none⟩ (.slice A5 m c5)) (fun j hj e => (row_typed hrow5 hj).1.ne of5.typed (Ne.symm rf_types.1) e)
  have hrow7 : (w5.setCell ⟨w.heap.size, 6, none⟩ (.slice A5 m c5)).ownsRow (w.heap.size + 1 + 1) 5 1 (.slice A5 m c5) m ((kept ++ [x]).map (Value.int .u8)) := by rw [List.map_append]; exact hrow6
  obtain ⟨hx6, hmc, hd6⟩ := row_bytes hrow7 hkr
  have bt : BT _ _ A5 m (kept ++ [x]) := ⟨hx6, .inr fun a ha => (hd6 a ha).2.2⟩
  have hlb : LB w.heap.size A5 (kept ++ [x]) := .inr fun a ha => by have := (hd6 a ha).1; omega
  clear hrow5 hg5 of3 of5 or3 or5 b3 b5 hrow6 hrow7 hx6 hd6 cq6 fq6 hq6 HR0 HS1 HOF HOR HB1 HROW3 HG3
  generalize w5.setCell ⟨w.heap.size, 6, none⟩ (.slice A5 m c5) = w6 at *
  have hz6 : w.heap.size + 2 ≤ w6.heap.size := by have := or6.lt; omega
  have e0 := of6.cell (i := 0) rfl
  have e1 := of6.cell (i := 1) rfl
  have e2 := of6.cell (i := 2) rfl
  have e3 := of6.cell (i := 3) rfl
  have e4 := of6.cell (i := 4) rfl
  have e5 := of6.cell (i := 5) rfl
  have e6 := of6.cell (i := 6) rfl
  have HC := Lib.hid (hSP.out _ A5 m c5 bt.1 (by omega))
  have HBT := Lib.hid bt
  clear bt
  go_upto_region 5 with (go_at_call 41; refine HC.out.mono ?_; rintro e w7 ⟨D, dm, dc, rfl, hD7, hlD0, hb7⟩)
  have hlD := hlD0.low b6.size
  clear hlD0
  clear HC e0 e1 e2 e3 e4 e5 e6
  have hbv := bl_alloc (bl_refl w7) (.cells #[.int .i64 r.k1, .int .i64 r.k2, .int .i64 r.k3, .slice D dm dc, .int .i64 r.k5] 49)
  have ov8 := Own.new w7 49 #[.int .i64 r.k1, .int .i64 r.k2, .int .i64 r.k3, .slice D dm dc, .int .i64 r.k5]
  have of8 := (of6.step hb7).step hbv
  have or8 := (or6.step hb7).step hbv
  have b8 := bl_trans (bl_trans b6 hb7) hbv
  have hD8 := (hD7.below hbv (Nat.le_refl _)).more hbv.size
  have bt8 := ((HBT.out.below hb7 (Nat.le_refl _)).more hb7.size |>.below hbv (Nat.le_refl _)).more hbv.size
  have hz7 : w.heap.size + 2 ≤ w7.heap.size := by have := hb7.size; omega
  obtain ⟨eb, heb0⟩ : ∃ z, z = w7.heap.size := ⟨_, rfl⟩
  have heb : ¬ eb = w.heap.size + 1 := by omega
  have heb2 : ¬ eb = w.heap.size := by omega
  rw [← heb0] at ov8 ⊢
  clear heb0
  clear of6 or6 b6 hb7 hD7 hbv HBT
  generalize w7.alloc (.cells #[.int .i64 r.k1, .int .i64 r.k2, .int .i64 r.k3, .slice D dm dc, .int .i64 r.k5] 49) = w8 at *
  have v0 := ov8.cell (i := 0) (v := .int .i64 r.k1) rfl
  have g6 := of8.cell (i := 6) rfl
  have g8 := of8.cell (i := 8) rfl
  have z6 := of8.frozen 6
  have z8 := of8.frozen 8
  go_upto_region 8 with fail
  have of9 := rf_cl (rf_kept of8 (.slice none 0 0)) (.bool true)
  have or9 := (or8.far (p := ⟨w.heap.size, 6, none⟩) (show ¬ w.heap.size + 1 = w.heap.size by omega) (.slice none 0 0)).far (p := ⟨w.heap.size, 8, none⟩) (show ¬ w.heap.size + 1 = w.heap.size by omega) (.bool true)
  have oe9 := (ov8.far (p := ⟨w.heap.size, 6, none⟩) heb2 (.slice none 0 0)).far (p := ⟨w.heap.size, 8, none⟩) heb2 (.bool true)
  have R9 := (Rest.setCell w8 ⟨w.heap.size, 6, none⟩ (.slice none 0 0)).trans (Rest.setCell _ ⟨w.heap.size, 8, none⟩ (.bool true)) (fun i _ h => h)
  have bt9 := (hD8.rest R9 (fun i _ ht e => ht.ne of8.typed (Ne.symm rf_types.1) e) (Nat.le_refl _)).more R9.size
  have b9 := (b8.setCell (p := ⟨w.heap.size, 6, none⟩) (Nat.le_refl _) (.slice none 0 0)).setCell (p := ⟨w.heap.size, 8, none⟩) (Nat.le_refl _) (.bool true)
  have hz9 : w.heap.size + 2 ≤ ((w8.setCell ⟨w.heap.size, 6, none⟩ (.slice none 0 0)).setCell ⟨w.heap.size, 8, none⟩ (.bool true)).heap.size := by have := or9.lt; omega
  clear of8 or8 ov8 b8 bt8 hD8 R9 g6 g8 z6 z8 v0
  generalize (w8.setCell ⟨w.heap.size, 6, none⟩ (.slice none 0 0)).setCell ⟨w.heap.size, 8, none⟩ (.bool true) = w9 at *
  have HS := Lib.hid (fun W (p : Own W w.heap.size 34 #[.bool a0, .bool a1, .bool a2, .bool a3, .bool a4, .bool a5, .slice none 0 0, .int .i64 len, .bool true, .int .i64 fr]) (q : Own W eb 49 #[.int .i64 r.k1, .int .i64 r.k2, .int .i64 r.k3, .slice D dm dc, .int .i64 r.k5]) => rs5 p q)
  refine wp_region_noPanic ?_
  refine wp_region_held_drew (S := (fun W => W.rangeAt w.heap.size 0 #[.bool a0, .bool a1, .bool a2, .bool a3, .bool a4, .bool a5, .slice none 0 0, .int .i64 len, .bool true, .int .i64 fr].toList ∧ W.cell? ⟨eb, 0, none⟩ = some (.int .i64 r.k1) ∧ W.cell? ⟨eb, 1, none⟩ = some (.int .i64 r.k2) ∧ W.cell? ⟨eb, 2, none⟩ = some (.int .i64 r.k3) ∧ W.cell? ⟨eb, 3, none⟩ = some (.slice D dm dc) ∧ W.cell? ⟨eb, 4, none⟩ = some (.int .i64 r.k5))) (by kernel_rfl) (HS.out _ of9.drew oe9.drew) (fun hHeld => ?_)
  refine wpAnyH_take (i := 0) (v := _) rfl (by kernel_rfl) (by kernel_rfl) (by kernel_rfl) (fun _ _ _ h => h) (yieldsIf_load_mid (by rfl) 34 _ rfl w.heap.size 0 rfl #[.bool a0, .bool a1, .bool a2, .bool a3, .bool a4, .bool a5, .slice none 0 0, .int .i64 len, .bool true, .int .i64 fr].toList _ (fun W hW => hW.1) rf_desc rfl (rf_infoL _ _ _ _ _ _ _ _ _ _)) (by assumption) ?_
  simp only [Act.put, List.getElem_toArray, List.getElem_cons_zero, List.setIfInBounds_toArray, List.set_cons_zero, List.set_cons_succ]
  refine wpAnyH_take (i := 1) (v := ?_) rfl (by kernel_rfl) (by kernel_rfl) (by kernel_rfl) (fun _ _ _ h => h) (Or.inl ⟨by rfl, ?_⟩) (by assumption) ?_
  rotate_left
  · (intro W hSw; obtain ⟨s0, s1, s2, s3, s4, s5⟩ := hSw; go_simp; try with_reducible rfl)
  simp only [Act.put, List.getElem_toArray, List.getElem_cons_zero, List.getElem_cons_succ, List.setIfInBounds_toArray, List.set_cons_zero, List.set_cons_succ]
  refine wpAnyH_take (i := 2) (v := ?_) rfl (by kernel_rfl) (by kernel_rfl) (by kernel_rfl) (fun _ _ _ h => h) (Or.inl ⟨by rfl, ?_⟩) (by assumption) ?_
  rotate_left
  · (intro W hSw; obtain ⟨s0, s1, s2, s3, s4, s5⟩ := hSw; go_simp; try with_reducible rfl)
  simp only [Act.put, List.getElem_toArray, List.getElem_cons_zero, List.getElem_cons_succ, List.setIfInBounds_toArray, List.set_cons_zero, List.set_cons_succ]
  refine wpAnyH_ready (rs := [3, 4]) (by kernel_rfl) (by simp) ?_
  refine AllReadyH.cons rfl (fun K hK => ?_) (AllReadyH.cons rfl (fun K hK => ?_) AllReadyH.nil)
  · go_simp
    have hbA := bl_alloc (bl_refl w9.drew) (.cells #[.slice none 0 0, .int .i64 r.k1, .int .i64 r.k2, .int .i64 r.k3, .slice D dm dc, .int .i64 r.k5] 51)
    have ofA := of9.drew.step hbA
    have oeA := oe9.drew.step hbA
    have orA := or9.drew.step hbA
    have obA := Own.new w9.drew 51 #[.slice none 0 0, .int .i64 r.k1, .int .i64 r.k2, .int .i64 r.k3, .slice D dm dc, .int .i64 r.k5]
    refine hK.out _ _ (HS.out _ ofA oeA) (fun hHeld2 => ?_)
    clear hK K hHeld
    have hHeld := hHeld2
    clear hHeld2
    try simp only [Act.put, List.getElem_toArray, List.getElem_cons_zero, List.getElem_cons_succ, List.setIfInBounds_toArray, List.set_cons_zero, List.set_cons_succ]
    refine wpAnyH_ready (rs := [4]) (by kernel_rfl) (by simp) ?_
    refine AllReadyH.cons rfl (fun K hK => ?_) AllReadyH.nil
    refine step_store_rowF rfl _ _ _ rfl (w.heap.size + 1) #[.bool a0, .bool a1, .bool a2, .bool a3, .bool a4, .bool a5, .slice none 0 0, .int .i64 len, .bool true, .int .i64 fr] rfl rfl 34 #[.bool false, .bool false, .bool false, .bool false, .bool false, .bool false, .slice none 0 0, .int .i64 0, .bool false, .int .i64 0] orA (rf_info _ _ _ _ _ _ _ _ _ _) rfl (rf_one _ _ _ _ _ _ _ _ _ _ _ _) ?_
    have RA := Rest.setRowF (w9.drew.alloc (.cells #[.slice none 0 0, .int .i64 r.k1, .int .i64 r.k2, .int .i64 r.k3, .slice D dm dc, .int .i64 r.k5] 51)) (w.heap.size + 1) #[.bool a0, .bool a1, .bool a2, .bool a3, .bool a4, .bool a5, .slice none 0 0, .int .i64 len, .bool true, .int .i64 fr]
    have orz := orA.setRow (cs' := #[.bool a0, .bool a1, .bool a2, .bool a3, .bool a4, .bool a5, .slice none 0 0, .int .i64 len, .bool true, .int .i64 fr])
    have ofz := RA.own ofA (fun e => by have h : w.heap.size = w.heap.size + 1 := e; omega)
    have oez := RA.own oeA (fun e => by have h : eb = w.heap.size + 1 := e; exact heb h)
    have obz := RA.own obA (fun e => by have h : w9.heap.size = w.heap.size + 1 := e; omega)
    have btz := ((bt9.below (bl_refl w9).drew (Nat.le_refl _)).below hbA (Nat.le_refl _)).more hbA.size
    replace btz := (btz.rest RA (fun i _ ht e => ht.ne orA.typed (Ne.symm rf_types.1) e) (Nat.le_refl _)).more RA.size
    have bz := bl_setRow (g := w.heap.size + 1) (cs := #[.bool a0, .bool a1, .bool a2, .bool a3, .bool a4, .bool a5, .slice none 0 0, .int .i64 len, .bool true, .int .i64 fr]) (bl_alloc b9.drew (.cells #[.slice none 0 0, .int .i64 r.k1, .int .i64 r.k2, .int .i64 r.k3, .slice D dm dc, .int .i64 r.k5] 51)) (by omega)
    refine hK.out _ _ (HS.out _ ofz oez) (fun hHeld2 => ?_)
    clear hK K hHeld
    have hHeld := hHeld2
    clear hHeld2
    try simp only [Act.put, List.getElem_toArray, List.getElem_cons_zero, List.getElem_cons_succ]
    refine wpAnyH_take (i := 5) (v := ?_) rfl (by kernel_rfl) (by kernel_rfl) (by kernel_rfl) (fun _ _ _ h => h) (Or.inl ⟨by rfl, ?_⟩) (by assumption) ?_
    rotate_left
    · (intro W hSw; obtain ⟨s0, s1, s2, s3, s4, s5⟩ := hSw; go_simp; try with_reducible rfl)
    simp only [Act.put, List.getElem_toArray, List.getElem_cons_zero, List.getElem_cons_succ, List.setIfInBounds_toArray, List.set_cons_zero, List.set_cons_succ]
    refine wpAnyH_done (by kernel_rfl) ?_ _
    refine NoPanic.normal ?_
    go_wp2
    have hfin : RBad w r #[.bool a0, .bool a1, .bool a2, .bool a3, .bool a4, .bool a5, .slice none 0 0, .int .i64 len, .bool true, .int .i64 fr] _ _ := ⟨w9.heap.size, D, dm, dc, rfl, b9.size, obz, btz, hlD, bz⟩
    exact bodyPost_ret (results_cell_tmpF (p := 4) (t := 5) (fn := Tryd.f26) rfl _ _ (w.heap.size + 1) 34 #[.bool a0, .bool a1, .bool a2, .bool a3, .bool a4, .bool a5, .slice none 0 0, .int .i64 len, .bool true, .int .i64 fr] _ rfl orz rf_desc rfl (rf_info _ _ _ _ _ _ _ _ _ _)) rfl hfin
  · refine step_store_rowF rfl _ _ _ rfl (w.heap.size + 1) #[.bool a0, .bool a1, .bool a2, .bool a3, .bool a4, .bool a5, .slice none 0 0, .int .i64 len, .bool true, .int .i64 fr] rfl rfl 34 #[.bool false, .bool false, .bool false, .bool false, .bool false, .bool false, .slice none 0 0, .int .i64 0, .bool false, .int .i64 0] or9.drew (rf_info _ _ _ _ _ _ _ _ _ _) rfl (rf_one _ _ _ _ _ _ _ _ _ _ _ _) ?_
    have RB := Rest.setRowF w9.drew (w.heap.size + 1) #[.bool a0, .bool a1, .bool a2, .bool a3, .bool a4, .bool a5, .slice none 0 0, .int .i64 len, .bool true, .int .i64 fr]
    have orB := or9.drew.setRow (cs' := #[.bool a0, .bool a1, .bool a2, .bool a3, .bool a4, .bool a5, .slice none 0 0, .int .i64 len, .bool true, .int .i64 fr])
    have ofB := RB.own of9.drew (fun e => by have h : w.heap.size = w.heap.size + 1 := e; omega)
    have oeB := RB.own oe9.drew (fun e => by have h : eb = w.heap.size + 1 := e; exact heb h)
    have btB := ((bt9.below (bl_refl w9).drew (Nat.le_refl _)).rest RB (fun i _ ht e => ht.ne or9.typed (Ne.symm rf_types.1) e) (Nat.le_refl _)).more RB.size
    have bB := bl_setRow (g := w.heap.size + 1) (cs := #[.bool a0, .bool a1, .bool a2, .bool a3, .bool a4, .bool a5, .slice none 0 0, .int .i64 len, .bool true, .int .i64 fr]) b9.drew (by omega)
    refine hK.out _ _ (HS.out _ ofB oeB) (fun hHeld2 => ?_)
    clear hK K hHeld
    have hHeld := hHeld2
    clear hHeld2
    try simp only [Act.put, List.getElem_toArray, List.getElem_cons_zero, List.getElem_cons_succ]
    refine wpAnyH_ready (rs := [3]) (by kernel_rfl) (by simp) ?_
    refine AllReadyH.cons rfl (fun K hK => ?_) AllReadyH.nil
    go_simp
    have hbB := bl_alloc (bl_refl (w9.drew.setRow (w.heap.size + 1) #[.bool a0, .bool a1, .bool a2, .bool a3, .bool a4, .bool a5, .slice none 0 0, .int .i64 len, .bool true, .int .i64 fr])) (.cells #[.slice none 0 0, .int .i64 r.k1, .int .i64 r.k2, .int .i64 r.k3, .slice D dm dc, .int .i64 r.k5] 51)
    have orz := orB.step hbB
    have ofz := ofB.step hbB
    have oez := oeB.step hbB
    have obz := Own.new (w9.drew.setRow (w.heap.size + 1) #[.bool a0, .bool a1, .bool a2, .bool a3, .bool a4, .bool a5, .slice none 0 0, .int .i64 len, .bool true, .int .i64 fr]) 51 #[.slice none 0 0, .int .i64 r.k1, .int .i64 r.k2, .int .i64 r.k3, .slice D dm dc, .int .i64 r.k5]
    rw [show (w9.drew.setRow (w.heap.size + 1) #[.bool a0, .bool a1, .bool a2, .bool a3, .bool a4, .bool a5, .slice none 0 0, .int .i64 len, .bool true, .int .i64 fr]).heap.size = w9.heap.size by simp] at obz
    have btz := (btB.below hbB (Nat.le_refl _)).more hbB.size
    have bz := bl_alloc bB (.cells #[.slice none 0 0, .int .i64 r.k1, .int .i64 r.k2, .int .i64 r.k3, .slice D dm dc, .int .i64 r.k5] 51)
    refine hK.out _ _ (HS.out _ ofz oez) (fun hHeld2 => ?_)
    clear hK K hHeld
    have hHeld := hHeld2
    clear hHeld2
    try simp only [Act.put, List.getElem_toArray, List.getElem_cons_zero, List.getElem_cons_succ, List.setIfInBounds_toArray, List.set_cons_zero, List.set_cons_succ]
    refine wpAnyH_take (i := 5) (v := ?_) rfl (by kernel_rfl) (by kernel_rfl) (by kernel_rfl) (fun _ _ _ h => h) (Or.inl ⟨by rfl, ?_⟩) (by assumption) ?_
    rotate_left
    · (intro W hSw; obtain ⟨s0, s1, s2, s3, s4, s5⟩ := hSw; go_simp; try with_reducible rfl)
    simp only [Act.put, List.getElem_toArray, List.getElem_cons_zero, List.getElem_cons_succ, List.setIfInBounds_toArray, List.set_cons_zero, List.set_cons_succ]
    refine wpAnyH_done (by kernel_rfl) ?_ _
    refine NoPanic.normal ?_
    go_wp2
    have hfin : RBad w r #[.bool a0, .bool a1, .bool a2, .bool a3, .bool a4, .bool a5, .slice none 0 0, .int .i64 len, .bool true, .int .i64 fr] _ _ := ⟨w9.heap.size, D, dm, dc, rfl, b9.size, obz, btz, hlD, bz⟩
    exact bodyPost_ret (results_cell_tmpF (p := 4) (t := 5) (fn := Tryd.f26) rfl _ _ (w.heap.size + 1) 34 #[.bool a0, .bool a1, .bool a2, .bool a3, .bool a4, .bool a5, .slice none 0 0, .int .i64 len, .bool true, .int .i64 fr] _ rfl orz rf_desc rfl (rf_info _ _ _ _ _ _ _ _ _ _)) rfl hfin
set_option maxRecDepth 100000 in
set_option maxHeartbeats 6400000 in
theorem one_bad2 (n c m : Nat) (K : Option Addr) (len : Int) (a0 a1 a2 a3 a4 a5 : Bool) (fr : Int) (kept : List Int) (x : Int) (w : World) (hK : BT w w.heap.size K n kept) (hkr : ∀ y ∈ kept ++ [x], 0 ≤ y ∧ y ≤ 255) (hn : n ≤ 100000) (hm : n + 1 = m) (h19 : m = 19) (r : HR) (hSP : Hid (∀ w A n c, Bytes w w.heap.size A n (kept ++ [x]) → n ≤ 1000000000 → Calls Tryd.prog 41 #[.agg #[.bool a0, .bool a1, .bool a2, .bool a3, .bool a4, .bool a5], .slice A n c] w fun e w' => ∃ A1 m1 c1, e = .returned (.tuple #[.int .i64 r.N, .int .i64 r.K, .agg #[.int .i64 r.k1, .int .i64 r.k2, .int .i64 r.k3, .slice A1 m1 c1, .int .i64 r.k5]]) ∧ BT w' w'.heap.size A1 m1 r.d ∧ LB w.heap.size A1 r.d ∧ Below w.heap.size w w')) (hk : r.k1 ≠ 0) :
    Calls Tryd.prog 26 #[.agg #[.bool a0, .bool a1, .bool a2, .bool a3, .bool a4, .bool a5, .slice K n c, .int .i64 len, .bool false, .int .i64 fr], .int .u8 x] w fun e w' => RBad w r #[.bool a0, .bool a1, .bool a2, .bool a3, .bool a4, .bool a5, .slice none 0 0, .int .i64 len, .bool true, .int .i64 fr] e w' := by
  have q2 : ((m : Int) == 19) = true := by simp; omega
  have q3 : ¬ (m : Int) ≤ 16 := by omega
  have H19 := Lib.hid h19
  clear h19
  have p0 : (r.k1 != 0) = true := by simpa using hk
  clear hk
  have hm1 : m ≤ 100001 := by omega
  have HM := Lib.hid hm
  have HN := Lib.hid hK.1.1
  have of0 := ((Own.new w 34 #[.bool a0, .bool a1, .bool a2, .bool a3, .bool a4, .bool a5, .slice K n c, .int .i64 len, .bool false, .int .i64 fr]).alloc (.cells #[.bool false, .bool false, .bool false, .bool false, .bool false, .bool false, .slice none 0 0, .int .i64 0, .bool false, .int .i64 0] 34)).alloc (.cells #[] 5)
  have or0 := Own.new (w.alloc (.cells #[.bool a0, .bool a1, .bool a2, .bool a3, .bool a4, .bool a5, .slice K n c, .int .i64 len, .bool false, .int .i64 fr] 34)) 34 #[.bool false, .bool false, .bool false, .bool false, .bool false, .bool false, .slice none 0 0, .int .i64 0, .bool false, .int .i64 0]
  rw [show (w.alloc (.cells #[.bool a0, .bool a1, .bool a2, .bool a3, .bool a4, .bool a5, .slice K n c, .int .i64 len, .bool false, .int .i64 fr] 34)).heap.size = w.heap.size + 1 by simp] at or0
  have or1 := or0.alloc (.cells #[] 5)
  have b1 := bl_alloc (bl_alloc (bl_alloc (bl_refl w) (.cells #[.bool a0, .bool a1, .bool a2, .bool a3, .bool a4, .bool a5, .slice K n c, .int .i64 len, .bool false, .int .i64 fr] 34)) (.cells #[.bool false, .bool false, .bool false, .bool false, .bool false, .bool false, .slice none 0 0, .int .i64 0, .bool false, .int .i64 0] 34)) (.cells #[] 5)
  have on0 := Own.new ((w.alloc (.cells #[.bool a0, .bool a1, .bool a2, .bool a3, .bool a4, .bool a5, .slice K n c, .int .i64 len, .bool false, .int .i64 fr] 34)).alloc (.cells #[.bool false, .bool false, .bool false, .bool false, .bool false, .bool false, .slice none 0 0, .int .i64 0, .bool false, .int .i64 0] 34)) 5 #[]
  rw [show ((w.alloc (.cells #[.bool a0, .bool a1, .bool a2, .bool a3, .bool a4, .bool a5, .slice K n c, .int .i64 len, .bool false, .int .i64 fr] 34)).alloc (.cells #[.bool false, .bool false, .bool false, .bool false, .bool false, .bool false, .slice none 0 0, .int .i64 0, .bool false, .int .i64 0] 34)).heap.size = w.heap.size + 1 + 1 by simp] at on0
  have hr0 := Own.row (cs := []) (n := 0) (base := w.heap.size + 1 + 1) on0 rfl (Nat.le_refl _) (by unfold maxLen; omega)
  have hs1 := hK.1.2.2.below b1
  have HR0 := Lib.hid hr0
  have HS1 := Lib.hid hs1
  have HOF := Lib.hid of0
  have HOR := Lib.hid or1
  have HB1 := Lib.hid b1
  clear hK of0 or0 or1 b1 on0 hr0 hs1 hm
  go_enter Tryd.func26, Tryd.ntmps26
  go_upto_region 2 with (at_builtin; first | (refine wpList_append_grow _ rfl _ _ rfl sl_bytes (w.heap.size + 1 + 1) _ 0 [] rfl HR0.out w.heap.size K n c (kept.map (Value.int .u8)) rfl (by rw [List.length_map, ← HN.out, Nat.mul_one]) HS1.out (one8 _) (by unfold maxLen; omega) (by omega) (by simp) ?_; intro v3 w3 hrow3 hg3; rw [Nat.zero_add, List.nil_append] at hrow3; have HROW3 := Lib.hid hrow3; have HG3 := Lib.hid hg3; have hz3 := hg3.size; simp at hz3; clear hrow3 hg3) | (refine wpList_append_grow _ rfl _ _ rfl sl_bytes (w.heap.size + 1 + 1) _ n (kept.map (Value.int .u8)) rfl (HROW3.out.alloc _) (w3.heap.size + 1) (some ⟨w3.heap.size, 0, none⟩) 1 1 [.int .u8 x] rfl rfl (Shows.of_owned (Own.new _ _ _) (by simp)) (one1 rfl) (by unfold maxLen; omega) (by omega) (by simp; omega) ?_; intro v5 w5 hrow5 hg5; rw [HM.out] at hrow5; obtain ⟨A5, c5, rfl⟩ := own_form hrow5; have of3 := HOF.out.grown HG3.out (ne_own (by omega)); have of5 := (of3.alloc (.cells #[.int .u8 x] 5)).grown hg5 (fun e => (row_typed HROW3.out e.symm).1.ne of3.typed (Ne.symm rf_types.1) rfl); have or3 := HOR.out.grown HG3.out (ne_own (by omega)); have or5 := (or3.alloc (.cells #[.int .u8 x] 5)).grown hg5 (fun e => (row_typed HROW3.out e.symm).1.ne or3.typed (Ne.symm rf_types.1) rfl); have cq6 := of5.cell (i := 6) rfl; have fq6 := of5.frozen 6; have hq6 := of5.lt))
  have b3 := HB1.out.grown HG3.out HB1.out.size (fun j hj => by have h2 : j = w.heap.size + 1 + 1 := (Option.some.inj hj).symm; omega)
  have b5 := (bl_alloc b3 (.cells #[.int .u8 x] 5)).grown hg5 (bl_alloc b3 (.cells #[.int .u8 x] 5)).size (fun j hj => by have := (row_typed HROW3.out hj).2; omega)
  have of6 := rf_kept of5 (.slice A5 m c5)
  have or6 := or5.far (p := ⟨w.heap.size, 6, none⟩) (show ¬ w.heap.size + 1 = w.heap.size by omega) (.slice A5 m c5)
  have b6 := b5.setCell (p := ⟨w.heap.size, 6, none⟩) (Nat.le_refl _) (.slice A5 m c5)
  have hrow6 := row_rest hrow5 (Rest.setCell w5 ⟨w.heap.size, 6, none⟩ (.slice A5 m c5)) (fun j hj e => (row_typed hrow5 hj).1.ne of5.typed (Ne.symm rf_types.1) e)
  have hrow7 : (w5.setCell ⟨w.heap.size, 6, none⟩ (.slice A5 m c5)).ownsRow (w.heap.size + 1 + 1) 5 1 (.slice A5 m c5) m ((kept ++ [x]).map (Value.int .u8)) := by rw [List.map_append]; exact hrow6
  obtain ⟨hx6, hmc, hd6⟩ := row_bytes hrow7 hkr
  have bt : BT _ _ A5 m (kept ++ [x]) := ⟨hx6, .inr fun a ha => (hd6 a ha).2.2⟩
  have hlb : LB w.heap.size A5 (kept ++ [x]) := .inr fun a ha => by have := (hd6 a ha).1; omega
  clear hrow5 hg5 of3 of5 or3 or5 b3 b5 hrow6 hrow7 hx6 hd6 cq6 fq6 hq6 HR0 HS1 HOF HOR HB1 HROW3 HG3
  generalize w5.setCell ⟨w.heap.size, 6, none⟩ (.slice A5 m c5) = w6 at *
  have hz6 : w.heap.size + 2 ≤ w6.heap.size := by have := or6.lt; omega
  have e0 := of6.cell (i := 0) rfl
  have e1 := of6.cell (i := 1) rfl
  have e2 := of6.cell (i := 2) rfl
  have e3 := of6.cell (i := 3) rfl
  have e4 := of6.cell (i := 4) rfl
  have e5 := of6.cell (i := 5) rfl
  have e6 := of6.cell (i := 6) rfl
  have HC := Lib.hid (hSP.out _ A5 m c5 bt.1 (by omega))
  have HBT := Lib.hid bt
  clear bt
  go_upto_region 5 with (go_at_call 41; refine HC.out.mono ?_; rintro e w7 ⟨D, dm, dc, rfl, hD7, hlD0, hb7⟩)
  have hlD := hlD0.low b6.size
  clear hlD0
  clear HC e0 e1 e2 e3 e4 e5 e6
  have hbv := bl_alloc (bl_refl w7) (.cells #[.int .i64 r.k1, .int .i64 r.k2, .int .i64 r.k3, .slice D dm dc, .int .i64 r.k5] 49)
  have ov8 := Own.new w7 49 #[.int .i64 r.k1, .int .i64 r.k2, .int .i64 r.k3, .slice D dm dc, .int .i64 r.k5]
  have of8 := (of6.step hb7).step hbv
  have or8 := (or6.step hb7).step hbv
  have b8 := bl_trans (bl_trans b6 hb7) hbv
  have hD8 := (hD7.below hbv (Nat.le_refl _)).more hbv.size
  have bt8 := ((HBT.out.below hb7 (Nat.le_refl _)).more hb7.size |>.below hbv (Nat.le_refl _)).more hbv.size
  have hz7 : w.heap.size + 2 ≤ w7.heap.size := by have := hb7.size; omega
  obtain ⟨eb, heb0⟩ : ∃ z, z = w7.heap.size := ⟨_, rfl⟩
  have heb : ¬ eb = w.heap.size + 1 := by omega
  have heb2 : ¬ eb = w.heap.size := by omega
  rw [← heb0] at ov8 ⊢
  clear heb0
  clear of6 or6 b6 hb7 hD7 hbv HBT
  generalize w7.alloc (.cells #[.int .i64 r.k1, .int .i64 r.k2, .int .i64 r.k3, .slice D dm dc, .int .i64 r.k5] 49) = w8 at *
  have v0 := ov8.cell (i := 0) (v := .int .i64 r.k1) rfl
  have g6 := of8.cell (i := 6) rfl
  have g8 := of8.cell (i := 8) rfl
  have z6 := of8.frozen 6
  have z8 := of8.frozen 8
  go_upto_region 8 with fail
  have of9 := rf_cl (rf_kept of8 (.slice none 0 0)) (.bool true)
  have or9 := (or8.far (p := ⟨w.heap.size, 6, none⟩) (show ¬ w.heap.size + 1 = w.heap.size by omega) (.slice none 0 0)).far (p := ⟨w.heap.size, 8, none⟩) (show ¬ w.heap.size + 1 = w.heap.size by omega) (.bool true)
  have oe9 := (ov8.far (p := ⟨w.heap.size, 6, none⟩) heb2 (.slice none 0 0)).far (p := ⟨w.heap.size, 8, none⟩) heb2 (.bool true)
  have R9 := (Rest.setCell w8 ⟨w.heap.size, 6, none⟩ (.slice none 0 0)).trans (Rest.setCell _ ⟨w.heap.size, 8, none⟩ (.bool true)) (fun i _ h => h)
  have bt9 := (hD8.rest R9 (fun i _ ht e => ht.ne of8.typed (Ne.symm rf_types.1) e) (Nat.le_refl _)).more R9.size
  have b9 := (b8.setCell (p := ⟨w.heap.size, 6, none⟩) (Nat.le_refl _) (.slice none 0 0)).setCell (p := ⟨w.heap.size, 8, none⟩) (Nat.le_refl _) (.bool true)
  have hz9 : w.heap.size + 2 ≤ ((w8.setCell ⟨w.heap.size, 6, none⟩ (.slice none 0 0)).setCell ⟨w.heap.size, 8, none⟩ (.bool true)).heap.size := by have := or9.lt; omega
  clear of8 or8 ov8 b8 bt8 hD8 R9 g6 g8 z6 z8 v0
  generalize (w8.setCell ⟨w.heap.size, 6, none⟩ (.slice none 0 0)).setCell ⟨w.heap.size, 8, none⟩ (.bool true) = w9 at *
  have HS := Lib.hid (fun W (p : Own W w.heap.size 34 #[.bool a0, .bool a1, .bool a2, .bool a3, .bool a4, .bool a5, .slice none 0 0, .int .i64 len, .bool true, .int .i64 fr]) (q : Own W eb 49 #[.int .i64 r.k1, .int .i64 r.k2, .int .i64 r.k3, .slice D dm dc, .int .i64 r.k5]) => rs5 p q)
  refine wp_region_noPanic ?_
  refine wp_region_held_drew (S := (fun W => W.rangeAt w.heap.size 0 #[.bool a0, .bool a1, .bool a2, .bool a3, .bool a4, .bool a5, .slice none 0 0, .int .i64 len, .bool true, .int .i64 fr].toList ∧ W.cell? ⟨eb, 0, none⟩ = some (.int .i64 r.k1) ∧ W.cell? ⟨eb, 1, none⟩ = some (.int .i64 r.k2) ∧ W.cell? ⟨eb, 2, none⟩ = some (.int .i64 r.k3) ∧ W.cell? ⟨eb, 3, none⟩ = some (.slice D dm dc) ∧ W.cell? ⟨eb, 4, none⟩ = some (.int .i64 r.k5))) (by kernel_rfl) (HS.out _ of9.drew oe9.drew) (fun hHeld => ?_)
  refine wpAnyH_take (i := 0) (v := _) rfl (by kernel_rfl) (by kernel_rfl) (by kernel_rfl) (fun _ _ _ h => h) (yieldsIf_load_mid (by rfl) 34 _ rfl w.heap.size 0 rfl #[.bool a0, .bool a1, .bool a2, .bool a3, .bool a4, .bool a5, .slice none 0 0, .int .i64 len, .bool true, .int .i64 fr].toList _ (fun W hW => hW.1) rf_desc rfl (rf_infoL _ _ _ _ _ _ _ _ _ _)) (by assumption) ?_
  simp only [Act.put, List.getElem_toArray, List.getElem_cons_zero, List.setIfInBounds_toArray, List.set_cons_zero, List.set_cons_succ]
  refine wpAnyH_take (i := 1) (v := ?_) rfl (by kernel_rfl) (by kernel_rfl) (by kernel_rfl) (fun _ _ _ h => h) (Or.inl ⟨by rfl, ?_⟩) (by assumption) ?_
  rotate_left
  · (intro W hSw; obtain ⟨s0, s1, s2, s3, s4, s5⟩ := hSw; go_simp; try with_reducible rfl)
  simp only [Act.put, List.getElem_toArray, List.getElem_cons_zero, List.getElem_cons_succ, List.setIfInBounds_toArray, List.set_cons_zero, List.set_cons_succ]
  refine wpAnyH_take (i := 2) (v := ?_) rfl (by kernel_rfl) (by kernel_rfl) (by kernel_rfl) (fun _ _ _ h => h) (Or.inl ⟨by rfl, ?_⟩) (by assumption) ?_
  rotate_left
  · (intro W hSw; obtain ⟨s0, s1, s2, s3, s4, s5⟩ := hSw; go_simp; try with_reducible rfl)
  simp only [Act.put, List.getElem_toArray, List.getElem_cons_zero, List.getElem_cons_succ, List.setIfInBounds_toArray, List.set_cons_zero, List.set_cons_succ]
  refine wpAnyH_ready (rs := [3, 4]) (by kernel_rfl) (by simp) ?_
  refine AllReadyH.cons rfl (fun K hK => ?_) (AllReadyH.cons rfl (fun K hK => ?_) AllReadyH.nil)
  · go_simp
    have hbA := bl_alloc (bl_refl w9.drew) (.cells #[.slice none 0 0, .int .i64 r.k1, .int .i64 r.k2, .int .i64 r.k3, .slice D dm dc, .int .i64 r.k5] 51)
    have ofA := of9.drew.step hbA
    have oeA := oe9.drew.step hbA
    have orA := or9.drew.step hbA
    have obA := Own.new w9.drew 51 #[.slice none 0 0, .int .i64 r.k1, .int .i64 r.k2, .int .i64 r.k3, .slice D dm dc, .int .i64 r.k5]
    refine hK.out _ _ (HS.out _ ofA oeA) (fun hHeld2 => ?_)
    clear hK K hHeld
    have hHeld := hHeld2
    clear hHeld2
    try simp only [Act.put, List.getElem_toArray, List.getElem_cons_zero, List.getElem_cons_succ, List.setIfInBounds_toArray, List.set_cons_zero, List.set_cons_succ]
    refine wpAnyH_ready (rs := [4]) (by kernel_rfl) (by simp) ?_
    refine AllReadyH.cons rfl (fun K hK => ?_) AllReadyH.nil
    refine step_store_rowF rfl _ _ _ rfl (w.heap.size + 1) #[.bool a0, .bool a1, .bool a2, .bool a3, .bool a4, .bool a5, .slice none 0 0, .int .i64 len, .bool true, .int .i64 fr] rfl rfl 34 #[.bool false, .bool false, .bool false, .bool false, .bool false, .bool false, .slice none 0 0, .int .i64 0, .bool false, .int .i64 0] orA (rf_info _ _ _ _ _ _ _ _ _ _) rfl (rf_one _ _ _ _ _ _ _ _ _ _ _ _) ?_
    have RA := Rest.setRowF (w9.drew.alloc (.cells #[.slice none 0 0, .int .i64 r.k1, .int .i64 r.k2, .int .i64 r.k3, .slice D dm dc, .int .i64 r.k5] 51)) (w.heap.size + 1) #[.bool a0, .bool a1, .bool a2, .bool a3, .bool a4, .bool a5, .slice none 0 0, .int .i64 len, .bool true, .int .i64 fr]
    have orz := orA.setRow (cs' := #[.bool a0, .bool a1, .bool a2, .bool a3, .bool a4, .bool a5, .slice none 0 0, .int .i64 len, .bool true, .int .i64 fr])
    have ofz := RA.own ofA (fun e => by have h : w.heap.size = w.heap.size + 1 := e; omega)
    have oez := RA.own oeA (fun e => by have h : eb = w.heap.size + 1 := e; exact heb h)
    have obz := RA.own obA (fun e => by have h : w9.heap.size = w.heap.size + 1 := e; omega)
    have btz := ((bt9.below (bl_refl w9).drew (Nat.le_refl _)).below hbA (Nat.le_refl _)).more hbA.size
    replace btz := (btz.rest RA (fun i _ ht e => ht.ne orA.typed (Ne.symm rf_types.1) e) (Nat.le_refl _)).more RA.size
    have bz := bl_setRow (g := w.heap.size + 1) (cs := #[.bool a0, .bool a1, .bool a2, .bool a3, .bool a4, .bool a5, .slice none 0 0, .int .i64 len, .bool true, .int .i64 fr]) (bl_alloc b9.drew (.cells #[.slice none 0 0, .int .i64 r.k1, .int .i64 r.k2, .int .i64 r.k3, .slice D dm dc, .int .i64 r.k5] 51)) (by omega)
    refine hK.out _ _ (HS.out _ ofz oez) (fun hHeld2 => ?_)
    clear hK K hHeld
    have hHeld := hHeld2
    clear hHeld2
    try simp only [Act.put, List.getElem_toArray, List.getElem_cons_zero, List.getElem_cons_succ]
    refine wpAnyH_take (i := 5) (v := ?_) rfl (by kernel_rfl) (by kernel_rfl) (by kernel_rfl) (fun _ _ _ h => h) (Or.inl ⟨by rfl, ?_⟩) (by assumption) ?_
    rotate_left
    · (intro W hSw; obtain ⟨s0, s1, s2, s3, s4, s5⟩ := hSw; go_simp; try with_reducible rfl)
    simp only [Act.put, List.getElem_toArray, List.getElem_cons_zero, List.getElem_cons_succ, List.setIfInBounds_toArray, List.set_cons_zero, List.set_cons_succ]
    refine wpAnyH_done (by kernel_rfl) ?_ _
    refine NoPanic.normal ?_
    go_wp2
    have hfin : RBad w r #[.bool a0, .bool a1, .bool a2, .bool a3, .bool a4, .bool a5, .slice none 0 0, .int .i64 len, .bool true, .int .i64 fr] _ _ := ⟨w9.heap.size, D, dm, dc, rfl, b9.size, obz, btz, hlD, bz⟩
    exact bodyPost_ret (results_cell_tmpF (p := 4) (t := 5) (fn := Tryd.f26) rfl _ _ (w.heap.size + 1) 34 #[.bool a0, .bool a1, .bool a2, .bool a3, .bool a4, .bool a5, .slice none 0 0, .int .i64 len, .bool true, .int .i64 fr] _ rfl orz rf_desc rfl (rf_info _ _ _ _ _ _ _ _ _ _)) rfl hfin
  · refine step_store_rowF rfl _ _ _ rfl (w.heap.size + 1) #[.bool a0, .bool a1, .bool a2, .bool a3, .bool a4, .bool a5, .slice none 0 0, .int .i64 len, .bool true, .int .i64 fr] rfl rfl 34 #[.bool false, .bool false, .bool false, .bool false, .bool false, .bool false, .slice none 0 0, .int .i64 0, .bool false, .int .i64 0] or9.drew (rf_info _ _ _ _ _ _ _ _ _ _) rfl (rf_one _ _ _ _ _ _ _ _ _ _ _ _) ?_
    have RB := Rest.setRowF w9.drew (w.heap.size + 1) #[.bool a0, .bool a1, .bool a2, .bool a3, .bool a4, .bool a5, .slice none 0 0, .int .i64 len, .bool true, .int .i64 fr]
    have orB := or9.drew.setRow (cs' := #[.bool a0, .bool a1, .bool a2, .bool a3, .bool a4, .bool a5, .slice none 0 0, .int .i64 len, .bool true, .int .i64 fr])
    have ofB := RB.own of9.drew (fun e => by have h : w.heap.size = w.heap.size + 1 := e; omega)
    have oeB := RB.own oe9.drew (fun e => by have h : eb = w.heap.size + 1 := e; exact heb h)
    have btB := ((bt9.below (bl_refl w9).drew (Nat.le_refl _)).rest RB (fun i _ ht e => ht.ne or9.typed (Ne.symm rf_types.1) e) (Nat.le_refl _)).more RB.size
    have bB := bl_setRow (g := w.heap.size + 1) (cs := #[.bool a0, .bool a1, .bool a2, .bool a3, .bool a4, .bool a5, .slice none 0 0, .int .i64 len, .bool true, .int .i64 fr]) b9.drew (by omega)
    refine hK.out _ _ (HS.out _ ofB oeB) (fun hHeld2 => ?_)
    clear hK K hHeld
    have hHeld := hHeld2
    clear hHeld2
    try simp only [Act.put, List.getElem_toArray, List.getElem_cons_zero, List.getElem_cons_succ]
    refine wpAnyH_ready (rs := [3]) (by kernel_rfl) (by simp) ?_
    refine AllReadyH.cons rfl (fun K hK => ?_) AllReadyH.nil
    go_simp
    have hbB := bl_alloc (bl_refl (w9.drew.setRow (w.heap.size + 1) #[.bool a0, .bool a1, .bool a2, .bool a3, .bool a4, .bool a5, .slice none 0 0, .int .i64 len, .bool true, .int .i64 fr])) (.cells #[.slice none 0 0, .int .i64 r.k1, .int .i64 r.k2, .int .i64 r.k3, .slice D dm dc, .int .i64 r.k5] 51)
    have orz := orB.step hbB
    have ofz := ofB.step hbB
    have oez := oeB.step hbB
    have obz := Own.new (w9.drew.setRow (w.heap.size + 1) #[.bool a0, .bool a1, .bool a2, .bool a3, .bool a4, .bool a5, .slice none 0 0, .int .i64 len, .bool true, .int .i64 fr]) 51 #[.slice none 0 0, .int .i64 r.k1, .int .i64 r.k2, .int .i64 r.k3, .slice D dm dc, .int .i64 r.k5]
    rw [show (w9.drew.setRow (w.heap.size + 1) #[.bool a0, .bool a1, .bool a2, .bool a3, .bool a4, .bool a5, .slice none 0 0, .int .i64 len, .bool true, .int .i64 fr]).heap.size = w9.heap.size by simp] at obz
    have btz := (btB.below hbB (Nat.le_refl _)).more hbB.size
    have bz := bl_alloc bB (.cells #[.slice none 0 0, .int .i64 r.k1, .int .i64 r.k2, .int .i64 r.k3, .slice D dm dc, .int .i64 r.k5] 51)
    refine hK.out _ _ (HS.out _ ofz oez) (fun hHeld2 => ?_)
    clear hK K hHeld
    have hHeld := hHeld2
    clear hHeld2
    try simp only [Act.put, List.getElem_toArray, List.getElem_cons_zero, List.getElem_cons_succ, List.setIfInBounds_toArray, List.set_cons_zero, List.set_cons_succ]
    refine wpAnyH_take (i := 5) (v := ?_) rfl (by kernel_rfl) (by kernel_rfl) (by kernel_rfl) (fun _ _ _ h => h) (Or.inl ⟨by rfl, ?_⟩) (by assumption) ?_
    rotate_left
    · (intro W hSw; obtain ⟨s0, s1, s2, s3, s4, s5⟩ := hSw; go_simp; try with_reducible rfl)
    simp only [Act.put, List.getElem_toArray, List.getElem_cons_zero, List.getElem_cons_succ, List.setIfInBounds_toArray, List.set_cons_zero, List.set_cons_succ]
    refine wpAnyH_done (by kernel_rfl) ?_ _
    refine NoPanic.normal ?_
    go_wp2
    have hfin : RBad w r #[.bool a0, .bool a1, .bool a2, .bool a3, .bool a4, .bool a5, .slice none 0 0, .int .i64 len, .bool true, .int .i64 fr] _ _ := ⟨w9.heap.size, D, dm, dc, rfl, b9.size, obz, btz, hlD, bz⟩
    exact bodyPost_ret (results_cell_tmpF (p := 4) (t := 5) (fn := Tryd.f26) rfl _ _ (w.heap.size + 1) 34 #[.bool a0, .bool a1, .bool a2, .bool a3, .bool a4, .bool a5, .slice none 0 0, .int .i64 len, .bool true, .int .i64 fr] _ rfl orz rf_desc rfl (rf_info _ _ _ _ _ _ _ _ _ _)) rfl hfin
set_option maxRecDepth 100000 in
set_option maxHeartbeats 6400000 in
theorem one_go1 (n c m : Nat) (K : Option Addr) (len : Int) (a0 a1 a2 a3 a4 a5 : Bool) (fr : Int) (kept : List Int) (x : Int) (w : World) (hK : BT w w.heap.size K n kept) (hkr : ∀ y ∈ kept ++ [x], 0 ≤ y ∧ y ≤ 255) (hn : n ≤ 100000) (hm : n + 1 = m) (hx : x ≠ 255) (h16 : m ≤ 16) (r : HR) (hSP : Hid (∀ w A n c, Bytes w w.heap.size A n (kept ++ [x]) → n ≤ 1000000000 → Calls Tryd.prog 41 #[.agg #[.bool a0, .bool a1, .bool a2, .bool a3, .bool a4, .bool a5], .slice A n c] w fun e w' => ∃ A1 m1 c1, e = .returned (.tuple #[.int .i64 r.N, .int .i64 r.K, .agg #[.int .i64 r.k1, .int .i64 r.k2, .int .i64 r.k3, .slice A1 m1 c1, .int .i64 r.k5]]) ∧ BT w' w'.heap.size A1 m1 r.d ∧ LB w.heap.size A1 r.d ∧ Below w.heap.size w w')) (hk : r.k1 = 0) :
    Calls Tryd.prog 26 #[.agg #[.bool a0, .bool a1, .bool a2, .bool a3, .bool a4, .bool a5, .slice K n c, .int .i64 len, .bool false, .int .i64 fr], .int .u8 x] w fun e w' => RNo w m (kept ++ [x]) (fun A5 c5 => #[.bool a0, .bool a1, .bool a2, .bool a3, .bool a4, .bool a5, .slice A5 m c5, .int .i64 r.N, .bool false, .int .i64 fr]) e w' := by
  have q1 : (x != 255) = true := by simpa using hx
  clear hx
  have q3 : (m : Int) ≤ 16 := by omega
  have q4 : ¬ (19 : Int) ≤ (m : Int) := by omega
  have p0 : (r.k1 != 0) = false := by simp [hk]
  clear hk
  have hm1 : m ≤ 100001 := by omega
  have HM := Lib.hid hm
  have HN := Lib.hid hK.1.1
  have of0 := ((Own.new w 34 #[.bool a0, .bool a1, .bool a2, .bool a3, .bool a4, .bool a5, .slice K n c, .int .i64 len, .bool false, .int .i64 fr]).alloc (.cells #[.bool false, .bool false, .bool false, .bool false, .bool false, .bool false, .slice none 0 0, .int .i64 0, .bool false, .int .i64 0] 34)).alloc (.cells #[] 5)
  have or0 := Own.new (w.alloc (.cells #[.bool a0, .bool a1, .bool a2, .bool a3, .bool a4, .bool a5, .slice K n c, .int .i64 len, .bool false, .int .i64 fr] 34)) 34 #[.bool false, .bool false, .bool false, .bool false, .bool false, .bool false, .slice none 0 0, .int .i64 0, .bool false, .int .i64 0]
  rw [show (w.alloc (.cells #[.bool a0, .bool a1, .bool a2, .bool a3, .bool a4, .bool a5, .slice K n c, .int .i64 len, .bool false, .int .i64 fr] 34)).heap.size = w.heap.size + 1 by simp] at or0
  have or1 := or0.alloc (.cells #[] 5)
  have b1 := bl_alloc (bl_alloc (bl_alloc (bl_refl w) (.cells #[.bool a0, .bool a1, .bool a2, .bool a3, .bool a4, .bool a5, .slice K n c, .int .i64 len, .bool false, .int .i64 fr] 34)) (.cells #[.bool false, .bool false, .bool false, .bool false, .bool false, .bool false, .slice none 0 0, .int .i64 0, .bool false, .int .i64 0] 34)) (.cells #[] 5)
  have on0 := Own.new ((w.alloc (.cells #[.bool a0, .bool a1, .bool a2, .bool a3, .bool a4, .bool a5, .slice K n c, .int .i64 len, .bool false, .int .i64 fr] 34)).alloc (.cells #[.bool false, .bool false, .bool false, .bool false, .bool false, .bool false, .slice none 0 0, .int .i64 0, .bool false, .int .i64 0] 34)) 5 #[]
  rw [show ((w.alloc (.cells #[.bool a0, .bool a1, .bool a2, .bool a3, .bool a4, .bool a5, .slice K n c, .int .i64 len, .bool false, .int .i64 fr] 34)).alloc (.cells #[.bool false, .bool false, .bool false, .bool false, .bool false, .bool false, .slice none 0 0, .int .i64 0, .bool false, .int .i64 0] 34)).heap.size = w.heap.size + 1 + 1 by simp] at on0
  have hr0 := Own.row (cs := []) (n := 0) (base := w.heap.size + 1 + 1) on0 rfl (Nat.le_refl _) (by unfold maxLen; omega)
  have hs1 := hK.1.2.2.below b1
  have HR0 := Lib.hid hr0
  have HS1 := Lib.hid hs1
  have HOF := Lib.hid of0
  have HOR := Lib.hid or1
  have HB1 := Lib.hid b1
  clear hK of0 or0 or1 b1 on0 hr0 hs1 hm
  go_enter Tryd.func26, Tryd.ntmps26
  go_upto_region 2 with (at_builtin; first | (refine wpList_append_grow _ rfl _ _ rfl sl_bytes (w.heap.size + 1 + 1) _ 0 [] rfl HR0.out w.heap.size K n c (kept.map (Value.int .u8)) rfl (by rw [List.length_map, ← HN.out, Nat.mul_one]) HS1.out (one8 _) (by unfold maxLen; omega) (by omega) (by simp) ?_; intro v3 w3 hrow3 hg3; rw [Nat.zero_add, List.nil_append] at hrow3; have HROW3 := Lib.hid hrow3; have HG3 := Lib.hid hg3; have hz3 := hg3.size; simp at hz3; clear hrow3 hg3) | (refine wpList_append_grow _ rfl _ _ rfl sl_bytes (w.heap.size + 1 + 1) _ n (kept.map (Value.int .u8)) rfl (HROW3.out.alloc _) (w3.heap.size + 1) (some ⟨w3.heap.size, 0, none⟩) 1 1 [.int .u8 x] rfl rfl (Shows.of_owned (Own.new _ _ _) (by simp)) (one1 rfl) (by unfold maxLen; omega) (by omega) (by simp; omega) ?_; intro v5 w5 hrow5 hg5; rw [HM.out] at hrow5; obtain ⟨A5, c5, rfl⟩ := own_form hrow5; have of3 := HOF.out.grown HG3.out (ne_own (by omega)); have of5 := (of3.alloc (.cells #[.int .u8 x] 5)).grown hg5 (fun e => (row_typed HROW3.out e.symm).1.ne of3.typed (Ne.symm rf_types.1) rfl); have or3 := HOR.out.grown HG3.out (ne_own (by omega)); have or5 := (or3.alloc (.cells #[.int .u8 x] 5)).grown hg5 (fun e => (row_typed HROW3.out e.symm).1.ne or3.typed (Ne.symm rf_types.1) rfl); have cq6 := of5.cell (i := 6) rfl; have fq6 := of5.frozen 6; have hq6 := of5.lt))
  have b3 := HB1.out.grown HG3.out HB1.out.size (fun j hj => by have h2 : j = w.heap.size + 1 + 1 := (Option.some.inj hj).symm; omega)
  have b5 := (bl_alloc b3 (.cells #[.int .u8 x] 5)).grown hg5 (bl_alloc b3 (.cells #[.int .u8 x] 5)).size (fun j hj => by have := (row_typed HROW3.out hj).2; omega)
  have of6 := rf_kept of5 (.slice A5 m c5)
  have or6 := or5.far (p := ⟨w.heap.size, 6, none⟩) (show ¬ w.heap.size + 1 = w.heap.size by omega) (.slice A5 m c5)
  have b6 := b5.setCell (p := ⟨w.heap.size, 6, none⟩) (Nat.le_refl _) (.slice A5 m c5)
  have hrow6 := row_rest hrow5 (Rest.setCell w5 ⟨w.heap.size, 6, none⟩ (.slice A5 m c5)) (fun j hj e => (row_typed hrow5 hj).1.ne of5.typed (Ne.symm rf_types.1) e)
  have hrow7 : (w5.setCell ⟨w.heap.size, 6, none⟩ (.slice A5 m c5)).ownsRow (w.heap.size + 1 + 1) 5 1 (.slice A5 m c5) m ((kept ++ [x]).map (Value.int .u8)) := by rw [List.map_append]; exact hrow6
  obtain ⟨hx6, hmc, hd6⟩ := row_bytes hrow7 hkr
  have bt : BT _ _ A5 m (kept ++ [x]) := ⟨hx6, .inr fun a ha => (hd6 a ha).2.2⟩
  have hlb : LB w.heap.size A5 (kept ++ [x]) := .inr fun a ha => by have := (hd6 a ha).1; omega
  clear hrow5 hg5 of3 of5 or3 or5 b3 b5 hrow6 hrow7 hx6 hd6 cq6 fq6 hq6 HR0 HS1 HOF HOR HB1 HROW3 HG3
  generalize w5.setCell ⟨w.heap.size, 6, none⟩ (.slice A5 m c5) = w6 at *
  have hz6 : w.heap.size + 2 ≤ w6.heap.size := by have := or6.lt; omega
  have e0 := of6.cell (i := 0) rfl
  have e1 := of6.cell (i := 1) rfl
  have e2 := of6.cell (i := 2) rfl
  have e3 := of6.cell (i := 3) rfl
  have e4 := of6.cell (i := 4) rfl
  have e5 := of6.cell (i := 5) rfl
  have e6 := of6.cell (i := 6) rfl
  have HC := Lib.hid (hSP.out _ A5 m c5 bt.1 (by omega))
  have HBT := Lib.hid bt
  clear bt
  go_upto_region 5 with (go_at_call 41; refine HC.out.mono ?_; rintro e w7 ⟨D, dm, dc, rfl, hD7, hlD0, hb7⟩)
  have hlD := hlD0.low b6.size
  clear hlD0
  clear HC e0 e1 e2 e3 e4 e5 e6
  have hbv := bl_alloc (bl_refl w7) (.cells #[.int .i64 r.k1, .int .i64 r.k2, .int .i64 r.k3, .slice D dm dc, .int .i64 r.k5] 49)
  have ov8 := Own.new w7 49 #[.int .i64 r.k1, .int .i64 r.k2, .int .i64 r.k3, .slice D dm dc, .int .i64 r.k5]
  have of8 := (of6.step hb7).step hbv
  have or8 := (or6.step hb7).step hbv
  have b8 := bl_trans (bl_trans b6 hb7) hbv
  have hD8 := (hD7.below hbv (Nat.le_refl _)).more hbv.size
  have bt8 := ((HBT.out.below hb7 (Nat.le_refl _)).more hb7.size |>.below hbv (Nat.le_refl _)).more hbv.size
  have hz7 : w.heap.size + 2 ≤ w7.heap.size := by have := hb7.size; omega
  obtain ⟨eb, heb0⟩ : ∃ z, z = w7.heap.size := ⟨_, rfl⟩
  have heb : ¬ eb = w.heap.size + 1 := by omega
  have heb2 : ¬ eb = w.heap.size := by omega
  rw [← heb0] at ov8 ⊢
  clear heb0
  clear of6 or6 b6 hb7 hD7 hbv HBT
  generalize w7.alloc (.cells #[.int .i64 r.k1, .int .i64 r.k2, .int .i64 r.k3, .slice D dm dc, .int .i64 r.k5] 49) = w8 at *
  have v0 := ov8.cell (i := 0) (v := .int .i64 r.k1) rfl
  have g7 := of8.cell (i := 7) rfl
  have z7 := of8.frozen 7
  go_upto_region 10 with fail
  have of6 := rf_len of8 (.int .i64 r.N)
  have or6 := or8.far (p := ⟨w.heap.size, 7, none⟩) (show ¬ w.heap.size + 1 = w.heap.size by omega) (.int .i64 r.N)
  have b6 := b8.setCell (p := ⟨w.heap.size, 7, none⟩) (Nat.le_refl _) (.int .i64 r.N)
  have R6 := Rest.setCell w8 ⟨w.heap.size, 7, none⟩ (.int .i64 r.N)
  have bt := (bt8.rest R6 (fun i _ ht e => ht.ne of8.typed (Ne.symm rf_types.1) e) (Nat.le_refl _)).more R6.size
  clear hz6 heb heb2 of8 or8 b8 bt8 hD8 ov8 v0 R6 g7 z7
  generalize w8.setCell ⟨w.heap.size, 7, none⟩ (.int .i64 r.N) = w6 at *
  have hz6 : w.heap.size + 2 ≤ w6.heap.size := by have := or6.lt; omega
  have e0 := of6.cell (i := 6) rfl
  have e1 := of6.cell (i := 7) rfl
  go_wp2_with (first | (refine wpList_load_row rfl 34 _ rfl w.heap.size rfl 34 #[.bool a0, .bool a1, .bool a2, .bool a3, .bool a4, .bool a5, .slice A5 m c5, .int .i64 r.N, .bool false, .int .i64 fr] (0, 0) (.struct (Tryd.prog.fieldsOf 34)) of6 rf_desc rfl (rf_info _ _ _ _ _ _ _ _ _ _) ?_) | (refine wpList_store_row rfl 34 _ _ rfl (w.heap.size + 1) #[.bool a0, .bool a1, .bool a2, .bool a3, .bool a4, .bool a5, .slice A5 m c5, .int .i64 r.N, .bool false, .int .i64 fr] rfl rfl 34 #[.bool false, .bool false, .bool false, .bool false, .bool false, .bool false, .slice none 0 0, .int .i64 0, .bool false, .int .i64 0] or6 (rf_info _ _ _ _ _ _ _ _ _ _) rfl (rf_one _ _ _ _ _ _ _ _ _ _ _ _) ?_))
  have hbz := bl_setRow (g := w.heap.size + 1) (cs := #[.bool a0, .bool a1, .bool a2, .bool a3, .bool a4, .bool a5, .slice A5 m c5, .int .i64 r.N, .bool false, .int .i64 fr]) b6 (by omega)
  have bt2 := (bt.rest (Rest.setRowF _ (w.heap.size + 1) #[.bool a0, .bool a1, .bool a2, .bool a3, .bool a4, .bool a5, .slice A5 m c5, .int .i64 r.N, .bool false, .int .i64 fr]) (fun i _ ht e => ht.ne or6.typed (Ne.symm rf_types.1) e) (Nat.le_refl _)).more (Rest.setRowF _ (w.heap.size + 1) #[.bool a0, .bool a1, .bool a2, .bool a3, .bool a4, .bool a5, .slice A5 m c5, .int .i64 r.N, .bool false, .int .i64 fr]).size
  have hfin : RNo w m (kept ++ [x]) (fun A5 c5 => #[.bool a0, .bool a1, .bool a2, .bool a3, .bool a4, .bool a5, .slice A5 m c5, .int .i64 r.N, .bool false, .int .i64 fr]) _ _ := ⟨A5, c5, rfl, bt2, hlb, hbz⟩
  exact bodyPost_ret (results_cell_tmpF (p := 4) (t := 5) (fn := Tryd.f26) rfl _ _ (w.heap.size + 1) 34 #[.bool a0, .bool a1, .bool a2, .bool a3, .bool a4, .bool a5, .slice A5 m c5, .int .i64 r.N, .bool false, .int .i64 fr] _ rfl or6.setRow rf_desc rfl (rf_info _ _ _ _ _ _ _ _ _ _)) rfl hfin
set_option maxRecDepth 100000 in
set_option maxHeartbeats 6400000 in
theorem one_go2 (n c m : Nat) (K : Option Addr) (len : Int) (a0 a1 a2 a3 a4 a5 : Bool) (fr : Int) (kept : List Int) (x : Int) (w : World) (hK : BT w w.heap.size K n kept) (hkr : ∀ y ∈ kept ++ [x], 0 ≤ y ∧ y ≤ 255) (hn : n ≤ 100000) (hm : n + 1 = m) (h19 : m = 19) (r : HR) (hSP : Hid (∀ w A n c, Bytes w w.heap.size A n (kept ++ [x]) → n ≤ 1000000000 → Calls Tryd.prog 41 #[.agg #[.bool a0, .bool a1, .bool a2, .bool a3, .bool a4, .bool a5], .slice A n c] w fun e w' => ∃ A1 m1 c1, e = .returned (.tuple #[.int .i64 r.N, .int .i64 r.K, .agg #[.int .i64 r.k1, .int .i64 r.k2, .int .i64 r.k3, .slice A1 m1 c1, .int .i64 r.k5]]) ∧ BT w' w'.heap.size A1 m1 r.d ∧ LB w.heap.size A1 r.d ∧ Below w.heap.size w w')) (hk : r.k1 = 0) (hN : ¬ (m : Int) = r.N) :
    Calls Tryd.prog 26 #[.agg #[.bool a0, .bool a1, .bool a2, .bool a3, .bool a4, .bool a5, .slice K n c, .int .i64 len, .bool false, .int .i64 fr], .int .u8 x] w fun e w' => RNo w m (kept ++ [x]) (fun A5 c5 => #[.bool a0, .bool a1, .bool a2, .bool a3, .bool a4, .bool a5, .slice A5 m c5, .int .i64 r.N, .bool false, .int .i64 fr]) e w' := by
  have q2 : ((m : Int) == 19) = true := by simp; omega
  have q3 : ¬ (m : Int) ≤ 16 := by omega
  have H19 := Lib.hid h19
  have q4 : (19 : Int) ≤ (m : Int) := by omega
  clear h19
  have p0 : (r.k1 != 0) = false := by simp [hk]
  clear hk
  have q5 : ((m : Int) == r.N) = false := by simpa using hN
  clear hN
  have hm1 : m ≤ 100001 := by omega
  have HM := Lib.hid hm
  have HN := Lib.hid hK.1.1
  have of0 := ((Own.new w 34 #[.bool a0, .bool a1, .bool a2, .bool a3, .bool a4, .bool a5, .slice K n c, .int .i64 len, .bool false, .int .i64 fr]).alloc (.cells #[.bool false, .bool false, .bool false, .bool false, .bool false, .bool false, .slice none 0 0, .int .i64 0, .bool false, .int .i64 0] 34)).alloc (.cells #[] 5)
  have or0 := Own.new (w.alloc (.cells #[.bool a0, .bool a1, .bool a2, .bool a3, .bool a4, .bool a5, .slice K n c, .int .i64 len, .bool false, .int .i64 fr] 34)) 34 #[.bool false, .bool false, .bool false, .bool false, .bool false, .bool false, .slice none 0 0, .int .i64 0, .bool false, .int .i64 0]
  rw [show (w.alloc (.cells #[.bool a0, .bool a1, .bool a2, .bool a3, .bool a4, .bool a5, .slice K n c, .int .i64 len, .bool false, .int .i64 fr] 34)).heap.size = w.heap.size + 1 by simp] at or0
  have or1 := or0.alloc (.cells #[] 5)
  have b1 := bl_alloc (bl_alloc (bl_alloc (bl_refl w) (.cells #[.bool a0, .bool a1, .bool a2, .bool a3, .bool a4, .bool a5, .slice K n c, .int .i64 len, .bool false, .int .i64 fr] 34)) (.cells #[.bool false, .bool false, .bool false, .bool false, .bool false, .bool false, .slice none 0 0, .int .i64 0, .bool false, .int .i64 0] 34)) (.cells #[] 5)
  have on0 := Own.new ((w.alloc (.cells #[.bool a0, .bool a1, .bool a2, .bool a3, .bool a4, .bool a5, .slice K n c, .int .i64 len, .bool false, .int .i64 fr] 34)).alloc (.cells #[.bool false, .bool false, .bool false, .bool false, .bool false, .bool false, .slice none 0 0, .int .i64 0, .bool false, .int .i64 0] 34)) 5 #[]
  rw [show ((w.alloc (.cells #[.bool a0, .bool a1, .bool a2, .bool a3, .bool a4, .bool a5, .slice K n c, .int .i64 len, .bool false, .int .i64 fr] 34)).alloc (.cells #[.bool false, .bool false, .bool false, .bool false, .bool false, .bool false, .slice none 0 0, .int .i64 0, .bool false, .int .i64 0] 34)).heap.size = w.heap.size + 1 + 1 by simp] at on0
  have hr0 := Own.row (cs := []) (n := 0) (base := w.heap.size + 1 + 1) on0 rfl (Nat.le_refl _) (by unfold maxLen; omega)
  have hs1 := hK.1.2.2.below b1
  have HR0 := Lib.hid hr0
  have HS1 := Lib.hid hs1
  have HOF := Lib.hid of0
  have HOR := Lib.hid or1
  have HB1 := Lib.hid b1
  clear hK of0 or0 or1 b1 on0 hr0 hs1 hm
  go_enter Tryd.func26, Tryd.ntmps26
  go_upto_region 2 with (at_builtin; first | (refine wpList_append_grow _ rfl _ _ rfl sl_bytes (w.heap.size + 1 + 1) _ 0 [] rfl HR0.out w.heap.size K n c (kept.map (Value.int .u8)) rfl (by rw [List.length_map, ← HN.out, Nat.mul_one]) HS1.out (one8 _) (by unfold maxLen; omega) (by omega) (by simp) ?_; intro v3 w3 hrow3 hg3; rw [Nat.zero_add, List.nil_append] at hrow3; have HROW3 := Lib.hid hrow3; have HG3 := Lib.hid hg3; have hz3 := hg3.size; simp at hz3; clear hrow3 hg3) | (refine wpList_append_grow _ rfl _ _ rfl sl_bytes (w.heap.size + 1 + 1) _ n (kept.map (Value.int .u8)) rfl (HROW3.out.alloc _) (w3.heap.size + 1) (some ⟨w3.heap.size, 0, none⟩) 1 1 [.int .u8 x] rfl rfl (Shows.of_owned (Own.new _ _ _) (by simp)) (one1 rfl) (by unfold maxLen; omega) (by omega) (by simp; omega) ?_; intro v5 w5 hrow5 hg5; rw [HM.out] at hrow5; obtain ⟨A5, c5, rfl⟩ := own_form hrow5; have of3 := HOF.out.grown HG3.out (ne_own (by omega)); have of5 := (of3.alloc (.cells #[.int .u8 x] 5)).grown hg5 (fun e => (row_typed HROW3.out e.symm).1.ne of3.typed (Ne.symm rf_types.1) rfl); have or3 := HOR.out.grown HG3.out (ne_own (by omega)); have or5 := (or3.alloc (.cells #[.int .u8 x] 5)).grown hg5 (fun e => (row_typed HROW3.out e.symm).1.ne or3.typed (Ne.symm rf_types.1) rfl); have cq6 := of5.cell (i := 6) rfl; have fq6 := of5.frozen 6; have hq6 := of5.lt))
  have b3 := HB1.out.grown HG3.out HB1.out.size (fun j hj => by have h2 : j = w.heap.size + 1 + 1 := (Option.some.inj hj).symm; omega)
  have b5 := (bl_alloc b3 (.cells #[.int .u8 x] 5)).grown hg5 (bl_alloc b3 (.cells #[.int .u8 x] 5)).size (fun j hj => by have := (row_typed HROW3.out hj).2; omega)
  have of6 := rf_kept of5 (.slice A5 m c5)
  have or6 := or5.far (p := ⟨w.heap.size, 6, none⟩) (show ¬ w.heap.size + 1 = w.heap.size by omega) (.slice A5 m c5)
  have b6 := b5.setCell (p := ⟨w.heap.size, 6, none⟩) (Nat.le_refl _) (.slice A5 m c5)
  have hrow6 := row_rest hrow5 (Rest.setCell w5 ⟨w.heap.size, 6, none⟩ (.slice A5 m c5)) (fun j hj e => (row_typed hrow5 hj).1.ne of5.typed (Ne.symm rf_types.1) e)
  have hrow7 : (w5.setCell ⟨w.heap.size, 6, none⟩ (.slice A5 m c5)).ownsRow (w.heap.size + 1 + 1) 5 1 (.slice A5 m c5) m ((kept ++ [x]).map (Value.int .u8)) := by rw [List.map_append]; exact hrow6
  obtain ⟨hx6, hmc, hd6⟩ := row_bytes hrow7 hkr
  have bt : BT _ _ A5 m (kept ++ [x]) := ⟨hx6, .inr fun a ha => (hd6 a ha).2.2⟩
  have hlb : LB w.heap.size A5 (kept ++ [x]) := .inr fun a ha => by have := (hd6 a ha).1; omega
  clear hrow5 hg5 of3 of5 or3 or5 b3 b5 hrow6 hrow7 hx6 hd6 cq6 fq6 hq6 HR0 HS1 HOF HOR HB1 HROW3 HG3
  generalize w5.setCell ⟨w.heap.size, 6, none⟩ (.slice A5 m c5) = w6 at *
  have hz6 : w.heap.size + 2 ≤ w6.heap.size := by have := or6.lt; omega
  have e0 := of6.cell (i := 0) rfl
  have e1 := of6.cell (i := 1) rfl
  have e2 := of6.cell (i := 2) rfl
  have e3 := of6.cell (i := 3) rfl
  have e4 := of6.cell (i := 4) rfl
  have e5 := of6.cell (i := 5) rfl
  have e6 := of6.cell (i := 6) rfl
  have HC := Lib.hid (hSP.out _ A5 m c5 bt.1 (by omega))
  have HBT := Lib.hid bt
  clear bt
  go_upto_region 5 with (go_at_call 41; refine HC.out.mono ?_; rintro e w7 ⟨D, dm, dc, rfl, hD7, hlD0, hb7⟩)
  have hlD := hlD0.low b6.size
  clear hlD0
  clear HC e0 e1 e2 e3 e4 e5 e6
  have hbv := bl_alloc (bl_refl w7) (.cells #[.int .i64 r.k1, .int .i64 r.k2, .int .i64 r.k3, .slice D dm dc, .int .i64 r.k5] 49)
  have ov8 := Own.new w7 49 #[.int .i64 r.k1, .int .i64 r.k2, .int .i64 r.k3, .slice D dm dc, .int .i64 r.k5]
  have of8 := (of6.step hb7).step hbv
  have or8 := (or6.step hb7).step hbv
  have b8 := bl_trans (bl_trans b6 hb7) hbv
  have hD8 := (hD7.below hbv (Nat.le_refl _)).more hbv.size
  have bt8 := ((HBT.out.below hb7 (Nat.le_refl _)).more hb7.size |>.below hbv (Nat.le_refl _)).more hbv.size
  have hz7 : w.heap.size + 2 ≤ w7.heap.size := by have := hb7.size; omega
  obtain ⟨eb, heb0⟩ : ∃ z, z = w7.heap.size := ⟨_, rfl⟩
  have heb : ¬ eb = w.heap.size + 1 := by omega
  have heb2 : ¬ eb = w.heap.size := by omega
  rw [← heb0] at ov8 ⊢
  clear heb0
  clear of6 or6 b6 hb7 hD7 hbv HBT
  generalize w7.alloc (.cells #[.int .i64 r.k1, .int .i64 r.k2, .int .i64 r.k3, .slice D dm dc, .int .i64 r.k5] 49) = w8 at *
  have v0 := ov8.cell (i := 0) (v := .int .i64 r.k1) rfl
  have g7 := of8.cell (i := 7) rfl
  have z7 := of8.frozen 7
  go_upto_region 10 with fail
  have of6 := rf_len of8 (.int .i64 r.N)
  have or6 := or8.far (p := ⟨w.heap.size, 7, none⟩) (show ¬ w.heap.size + 1 = w.heap.size by omega) (.int .i64 r.N)
  have b6 := b8.setCell (p := ⟨w.heap.size, 7, none⟩) (Nat.le_refl _) (.int .i64 r.N)
  have R6 := Rest.setCell w8 ⟨w.heap.size, 7, none⟩ (.int .i64 r.N)
  have bt := (bt8.rest R6 (fun i _ ht e => ht.ne of8.typed (Ne.symm rf_types.1) e) (Nat.le_refl _)).more R6.size
  clear hz6 heb heb2 of8 or8 b8 bt8 hD8 ov8 v0 R6 g7 z7
  generalize w8.setCell ⟨w.heap.size, 7, none⟩ (.int .i64 r.N) = w6 at *
  have hz6 : w.heap.size + 2 ≤ w6.heap.size := by have := or6.lt; omega
  have e0 := of6.cell (i := 6) rfl
  have e1 := of6.cell (i := 7) rfl
  go_wp2_with (first | (refine wpList_load_row rfl 34 _ rfl w.heap.size rfl 34 #[.bool a0, .bool a1, .bool a2, .bool a3, .bool a4, .bool a5, .slice A5 m c5, .int .i64 r.N, .bool false, .int .i64 fr] (0, 0) (.struct (Tryd.prog.fieldsOf 34)) of6 rf_desc rfl (rf_info _ _ _ _ _ _ _ _ _ _) ?_) | (refine wpList_store_row rfl 34 _ _ rfl (w.heap.size + 1) #[.bool a0, .bool a1, .bool a2, .bool a3, .bool a4, .bool a5, .slice A5 m c5, .int .i64 r.N, .bool false, .int .i64 fr] rfl rfl 34 #[.bool false, .bool false, .bool false, .bool false, .bool false, .bool false, .slice none 0 0, .int .i64 0, .bool false, .int .i64 0] or6 (rf_info _ _ _ _ _ _ _ _ _ _) rfl (rf_one _ _ _ _ _ _ _ _ _ _ _ _) ?_))
  have hbz := bl_setRow (g := w.heap.size + 1) (cs := #[.bool a0, .bool a1, .bool a2, .bool a3, .bool a4, .bool a5, .slice A5 m c5, .int .i64 r.N, .bool false, .int .i64 fr]) b6 (by omega)
  have bt2 := (bt.rest (Rest.setRowF _ (w.heap.size + 1) #[.bool a0, .bool a1, .bool a2, .bool a3, .bool a4, .bool a5, .slice A5 m c5, .int .i64 r.N, .bool false, .int .i64 fr]) (fun i _ ht e => ht.ne or6.typed (Ne.symm rf_types.1) e) (Nat.le_refl _)).more (Rest.setRowF _ (w.heap.size + 1) #[.bool a0, .bool a1, .bool a2, .bool a3, .bool a4, .bool a5, .slice A5 m c5, .int .i64 r.N, .bool false, .int .i64 fr]).size
  have hfin : RNo w m (kept ++ [x]) (fun A5 c5 => #[.bool a0, .bool a1, .bool a2, .bool a3, .bool a4, .bool a5, .slice A5 m c5, .int .i64 r.N, .bool false, .int .i64 fr]) _ _ := ⟨A5, c5, rfl, bt2, hlb, hbz⟩
  exact bodyPost_ret (results_cell_tmpF (p := 4) (t := 5) (fn := Tryd.f26) rfl _ _ (w.heap.size + 1) 34 #[.bool a0, .bool a1, .bool a2, .bool a3, .bool a4, .bool a5, .slice A5 m c5, .int .i64 r.N, .bool false, .int .i64 fr] _ rfl or6.setRow rf_desc rfl (rf_info _ _ _ _ _ _ _ _ _ _)) rfl hfin
set_option maxRecDepth 100000 in
set_option maxHeartbeats 6400000 in
theorem one_go3 (n c m : Nat) (K : Option Addr) (len : Int) (a0 a1 a2 a3 a4 a5 : Bool) (fr : Int) (kept : List Int) (x : Int) (w : World) (hK : BT w w.heap.size K n kept) (hkr : ∀ y ∈ kept ++ [x], 0 ≤ y ∧ y ≤ 255) (hn : n ≤ 100000) (hm : n + 1 = m) (h19 : m = 19) (r : HR) (hSP : Hid (∀ w A n c, Bytes w w.heap.size A n (kept ++ [x]) → n ≤ 1000000000 → Calls Tryd.prog 41 #[.agg #[.bool a0, .bool a1, .bool a2, .bool a3, .bool a4, .bool a5], .slice A n c] w fun e w' => ∃ A1 m1 c1, e = .returned (.tuple #[.int .i64 r.N, .int .i64 r.K, .agg #[.int .i64 r.k1, .int .i64 r.k2, .int .i64 r.k3, .slice A1 m1 c1, .int .i64 r.k5]]) ∧ BT w' w'.heap.size A1 m1 r.d ∧ LB w.heap.size A1 r.d ∧ Below w.heap.size w w')) (hk : r.k1 = 0) (hN : (m : Int) = r.N) (hf0 : 0 ≤ fr) (hf1 : fr ≤ 1000000000) :
    Calls Tryd.prog 26 #[.agg #[.bool a0, .bool a1, .bool a2, .bool a3, .bool a4, .bool a5, .slice K n c, .int .i64 len, .bool false, .int .i64 fr], .int .u8 x] w fun e w' => RYes w m (kept ++ [x]) #[.bool a0, .bool a1, .bool a2, .bool a3, .bool a4, .bool a5, .slice none 0 0, .int .i64 r.N, .bool false, .int .i64 (fr + 1)] e w' := by
  have q2 : ((m : Int) == 19) = true := by simp; omega
  have q3 : ¬ (m : Int) ≤ 16 := by omega
  have H19 := Lib.hid h19
  have q4 : (19 : Int) ≤ (m : Int) := by omega
  clear h19
  have p0 : (r.k1 != 0) = false := by simp [hk]
  clear hk
  have q5 : ((m : Int) == r.N) = true := by simpa using hN
  clear hN
  have hm1 : m ≤ 100001 := by omega
  have HM := Lib.hid hm
  have HN := Lib.hid hK.1.1
  have of0 := ((Own.new w 34 #[.bool a0, .bool a1, .bool a2, .bool a3, .bool a4, .bool a5, .slice K n c, .int .i64 len, .bool false, .int .i64 fr]).alloc (.cells #[.bool false, .bool false, .bool false, .bool false, .bool false, .bool false, .slice none 0 0, .int .i64 0, .bool false, .int .i64 0] 34)).alloc (.cells #[] 5)
  have or0 := Own.new (w.alloc (.cells #[.bool a0, .bool a1, .bool a2, .bool a3, .bool a4, .bool a5, .slice K n c, .int .i64 len, .bool false, .int .i64 fr] 34)) 34 #[.bool false, .bool false, .bool false, .bool false, .bool false, .bool false, .slice none 0 0, .int .i64 0, .bool false, .int .i64 0]
  rw [show (w.alloc (.cells #[.bool a0, .bool a1, .bool a2, .bool a3, .bool a4, .bool a5, .slice K n c, .int .i64 len, .bool false, .int .i64 fr] 34)).heap.size = w.heap.size + 1 by simp] at or0
  have or1 := or0.alloc (.cells #[] 5)
  have b1 := bl_alloc (bl_alloc (bl_alloc (bl_refl w) (.cells #[.bool a0, .bool a1, .bool a2, .bool a3, .bool a4, .bool a5, .slice K n c, .int .i64 len, .bool false, .int .i64 fr] 34)) (.cells #[.bool false, .bool false, .bool false, .bool false, .bool false, .bool false, .slice none 0 0, .int .i64 0, .bool false, .int .i64 0] 34)) (.cells #[] 5)
  have on0 := Own.new ((w.alloc (.cells #[.bool a0, .bool a1, .bool a2, .bool a3, .bool a4, .bool a5, .slice K n c, .int .i64 len, .bool false, .int .i64 fr] 34)).alloc (.cells #[.bool false, .bool false, .bool false, .bool false, .bool false, .bool false, .slice none 0 0, .int .i64 0, .bool false, .int .i64 0] 34)) 5 #[]
  rw [show ((w.alloc (.cells #[.bool a0, .bool a1, .bool a2, .bool a3, .bool a4, .bool a5, .slice K n c, .int .i64 len, .bool false, .int .i64 fr] 34)).alloc (.cells #[.bool false, .bool false, .bool false, .bool false, .bool false, .bool false, .slice none 0 0, .int .i64 0, .bool false, .int .i64 0] 34)).heap.size = w.heap.size + 1 + 1 by simp] at on0
  have hr0 := Own.row (cs := []) (n := 0) (base := w.heap.size + 1 + 1) on0 rfl (Nat.le_refl _) (by unfold maxLen; omega)
  have hs1 := hK.1.2.2.below b1
  have HR0 := Lib.hid hr0
  have HS1 := Lib.hid hs1
  have HOF := Lib.hid of0
  have HOR := Lib.hid or1
  have HB1 := Lib.hid b1
  clear hK of0 or0 or1 b1 on0 hr0 hs1 hm
  go_enter Tryd.func26, Tryd.ntmps26
  go_upto_region 2 with (at_builtin; first | (refine wpList_append_grow _ rfl _ _ rfl sl_bytes (w.heap.size + 1 + 1) _ 0 [] rfl HR0.out w.heap.size K n c (kept.map (Value.int .u8)) rfl (by rw [List.length_map, ← HN.out, Nat.mul_one]) HS1.out (one8 _) (by unfold maxLen; omega) (by omega) (by simp) ?_; intro v3 w3 hrow3 hg3; rw [Nat.zero_add, List.nil_append] at hrow3; have HROW3 := Lib.hid hrow3; have HG3 := Lib.hid hg3; have hz3 := hg3.size; simp at hz3; clear hrow3 hg3) | (refine wpList_append_grow _ rfl _ _ rfl sl_bytes (w.heap.size + 1 + 1) _ n (kept.map (Value.int .u8)) rfl (HROW3.out.alloc _) (w3.heap.size + 1) (some ⟨w3.heap.size, 0, none⟩) 1 1 [.int .u8 x] rfl rfl (Shows.of_owned (Own.new _ _ _) (by simp)) (one1 rfl) (by unfold maxLen; omega) (by omega) (by simp; omega) ?_; intro v5 w5 hrow5 hg5; rw [HM.out] at hrow5; obtain ⟨A5, c5, rfl⟩ := own_form hrow5; have of3 := HOF.out.grown HG3.out (ne_own (by omega)); have of5 := (of3.alloc (.cells #[.int .u8 x] 5)).grown hg5 (fun e => (row_typed HROW3.out e.symm).1.ne of3.typed (Ne.symm rf_types.1) rfl); have or3 := HOR.out.grown HG3.out (ne_own (by omega)); have or5 := (or3.alloc (.cells #[.int .u8 x] 5)).grown hg5 (fun e => (row_typed HROW3.out e.symm).1.ne or3.typed (Ne.symm rf_types.1) rfl); have cq6 := of5.cell (i := 6) rfl; have fq6 := of5.frozen 6; have hq6 := of5.lt))
  have b3 := HB1.out.grown HG3.out HB1.out.size (fun j hj => by have h2 : j = w.heap.size + 1 + 1 := (Option.some.inj hj).symm; omega)
  have b5 := (bl_alloc b3 (.cells #[.int .u8 x] 5)).grown hg5 (bl_alloc b3 (.cells #[.int .u8 x] 5)).size (fun j hj => by have := (row_typed HROW3.out hj).2; omega)
  have of6 := rf_kept of5 (.slice A5 m c5)
  have or6 := or5.far (p := ⟨w.heap.size, 6, none⟩) (show ¬ w.heap.size + 1 = w.heap.size by omega) (.slice A5 m c5)
  have b6 := b5.setCell (p := ⟨w.heap.size, 6, none⟩) (Nat.le_refl _) (.slice A5 m c5)
  have hrow6 := row_rest hrow5 (Rest.setCell w5 ⟨w.heap.size, 6, none⟩ (.slice A5 m c5)) (fun j hj e => (row_typed hrow5 hj).1.ne of5.typed (Ne.symm rf_types.1) e)
  have hrow7 : (w5.setCell ⟨w.heap.size, 6, none⟩ (.slice A5 m c5)).ownsRow (w.heap.size + 1 + 1) 5 1 (.slice A5 m c5) m ((kept ++ [x]).map (Value.int .u8)) := by rw [List.map_append]; exact hrow6
  obtain ⟨hx6, hmc, hd6⟩ := row_bytes hrow7 hkr
  have bt : BT _ _ A5 m (kept ++ [x]) := ⟨hx6, .inr fun a ha => (hd6 a ha).2.2⟩
  have hlb : LB w.heap.size A5 (kept ++ [x]) := .inr fun a ha => by have := (hd6 a ha).1; omega
  clear hrow5 hg5 of3 of5 or3 or5 b3 b5 hrow6 hrow7 hx6 hd6 cq6 fq6 hq6 HR0 HS1 HOF HOR HB1 HROW3 HG3
  generalize w5.setCell ⟨w.heap.size, 6, none⟩ (.slice A5 m c5) = w6 at *
  have hz6 : w.heap.size + 2 ≤ w6.heap.size := by have := or6.lt; omega
  have e0 := of6.cell (i := 0) rfl
  have e1 := of6.cell (i := 1) rfl
  have e2 := of6.cell (i := 2) rfl
  have e3 := of6.cell (i := 3) rfl
  have e4 := of6.cell (i := 4) rfl
  have e5 := of6.cell (i := 5) rfl
  have e6 := of6.cell (i := 6) rfl
  have HC := Lib.hid (hSP.out _ A5 m c5 bt.1 (by omega))
  have HBT := Lib.hid bt
  clear bt
  go_upto_region 5 with (go_at_call 41; refine HC.out.mono ?_; rintro e w7 ⟨D, dm, dc, rfl, hD7, hlD0, hb7⟩)
  have hlD := hlD0.low b6.size
  clear hlD0
  clear HC e0 e1 e2 e3 e4 e5 e6
  have hbv := bl_alloc (bl_refl w7) (.cells #[.int .i64 r.k1, .int .i64 r.k2, .int .i64 r.k3, .slice D dm dc, .int .i64 r.k5] 49)
  have ov8 := Own.new w7 49 #[.int .i64 r.k1, .int .i64 r.k2, .int .i64 r.k3, .slice D dm dc, .int .i64 r.k5]
  have of8 := (of6.step hb7).step hbv
  have or8 := (or6.step hb7).step hbv
  have b8 := bl_trans (bl_trans b6 hb7) hbv
  have hD8 := (hD7.below hbv (Nat.le_refl _)).more hbv.size
  have bt8 := ((HBT.out.below hb7 (Nat.le_refl _)).more hb7.size |>.below hbv (Nat.le_refl _)).more hbv.size
  have hz7 : w.heap.size + 2 ≤ w7.heap.size := by have := hb7.size; omega
  obtain ⟨eb, heb0⟩ : ∃ z, z = w7.heap.size := ⟨_, rfl⟩
  have heb : ¬ eb = w.heap.size + 1 := by omega
  have heb2 : ¬ eb = w.heap.size := by omega
  rw [← heb0] at ov8 ⊢
  clear heb0
  clear of6 or6 b6 hb7 hD7 hbv HBT
  generalize w7.alloc (.cells #[.int .i64 r.k1, .int .i64 r.k2, .int .i64 r.k3, .slice D dm dc, .int .i64 r.k5] 49) = w8 at *
  have v0 := ov8.cell (i := 0) (v := .int .i64 r.k1) rfl
  have g7 := of8.cell (i := 7) rfl
  have z7 := of8.frozen 7
  go_upto_region 10 with fail
  have of6 := rf_len of8 (.int .i64 r.N)
  have or6 := or8.far (p := ⟨w.heap.size, 7, none⟩) (show ¬ w.heap.size + 1 = w.heap.size by omega) (.int .i64 r.N)
  have b6 := b8.setCell (p := ⟨w.heap.size, 7, none⟩) (Nat.le_refl _) (.int .i64 r.N)
  have R6 := Rest.setCell w8 ⟨w.heap.size, 7, none⟩ (.int .i64 r.N)
  have bt := (bt8.rest R6 (fun i _ ht e => ht.ne of8.typed (Ne.symm rf_types.1) e) (Nat.le_refl _)).more R6.size
  clear hz6 heb heb2 of8 or8 b8 bt8 hD8 ov8 v0 R6 g7 z7
  generalize w8.setCell ⟨w.heap.size, 7, none⟩ (.int .i64 r.N) = w6 at *
  have hz6 : w.heap.size + 2 ≤ w6.heap.size := by have := or6.lt; omega
  have e0 := of6.cell (i := 6) rfl
  have e1 := of6.cell (i := 7) rfl
  go_upto_region 12 with fail
  obtain ⟨eb, heb0⟩ : ∃ z, z = w6.heap.size := ⟨_, rfl⟩
  have hbe := bl_alloc (bl_refl w6) (.cells #[.slice A5 m c5, .int .i64 0, .int .i64 0, .int .i64 0, .slice none 0 0, .int .i64 0] 51)
  have oe7 := Own.new w6 51 #[.slice A5 m c5, .int .i64 0, .int .i64 0, .int .i64 0, .slice none 0 0, .int .i64 0]
  have of7 := of6.step hbe
  have or7 := or6.step hbe
  have b7 := bl_trans b6 hbe
  have bt7 := (bt.below hbe (Nat.le_refl _)).more hbe.size
  have heb : ¬ eb = w.heap.size + 1 := by omega
  have heb2 : ¬ eb = w.heap.size := by omega
  rw [← heb0] at oe7 ⊢
  clear heb0
  generalize w6.alloc (.cells #[.slice A5 m c5, .int .i64 0, .int .i64 0, .int .i64 0, .slice none 0 0, .int .i64 0] 51) = w7 at *
  have g6 := of7.cell (i := 6) rfl
  have g9 := of7.cell (i := 9) rfl
  have z6 := of7.frozen 6
  have z9 := of7.frozen 9
  have hwr : IntKind.i64.wrap (fr + 1) = fr + 1 := by rw [IntKind.wrap_i64]; omega
  clear of6 or6 b6 bt hbe e0 e1
  go_upto_region 14 with fail
  have of9 := rf_fr (rf_kept of7 (.slice none 0 0)) (.int .i64 (fr + 1))
  have or9 := (or7.far (p := ⟨w.heap.size, 6, none⟩) (show ¬ w.heap.size + 1 = w.heap.size by omega) (.slice none 0 0)).far (p := ⟨w.heap.size, 9, none⟩) (show ¬ w.heap.size + 1 = w.heap.size by omega) (.int .i64 (fr + 1))
  have oe9 := (oe7.far (p := ⟨w.heap.size, 6, none⟩) heb2 (.slice none 0 0)).far (p := ⟨w.heap.size, 9, none⟩) heb2 (.int .i64 (fr + 1))
  have R9 := (Rest.setCell w7 ⟨w.heap.size, 6, none⟩ (.slice none 0 0)).trans (Rest.setCell _ ⟨w.heap.size, 9, none⟩ (.int .i64 (fr + 1))) (fun i _ h => h)
  have bt9 := (bt7.rest R9 (fun i _ ht e => ht.ne of7.typed (Ne.symm rf_types.1) e) (Nat.le_refl _)).more R9.size
  have b9 := (b7.setCell (p := ⟨w.heap.size, 6, none⟩) (Nat.le_refl _) (.slice none 0 0)).setCell (p := ⟨w.heap.size, 9, none⟩) (Nat.le_refl _) (.int .i64 (fr + 1))
  have hz9 : w.heap.size + 2 ≤ ((w7.setCell ⟨w.heap.size, 6, none⟩ (.slice none 0 0)).setCell ⟨w.heap.size, 9, none⟩ (.int .i64 (fr + 1))).heap.size := by have := or9.lt; omega
  clear of7 or7 oe7 b7 bt7 R9 g6 g9 z6 z9
  generalize (w7.setCell ⟨w.heap.size, 6, none⟩ (.slice none 0 0)).setCell ⟨w.heap.size, 9, none⟩ (.int .i64 (fr + 1)) = w9 at *
  have HS := Lib.hid (fun W (p : Own W w.heap.size 34 #[.bool a0, .bool a1, .bool a2, .bool a3, .bool a4, .bool a5, .slice none 0 0, .int .i64 r.N, .bool false, .int .i64 (fr + 1)]) (q : Own W eb 51 #[.slice A5 m c5, .int .i64 0, .int .i64 0, .int .i64 0, .slice none 0 0, .int .i64 0]) => rs6 p q)
  refine wp_region_noPanic ?_
  refine wp_region_held_drew (S := (fun W => W.rangeAt w.heap.size 0 #[.bool a0, .bool a1, .bool a2, .bool a3, .bool a4, .bool a5, .slice none 0 0, .int .i64 r.N, .bool false, .int .i64 (fr + 1)].toList ∧ W.cell? ⟨eb, 0, none⟩ = some (.slice A5 m c5) ∧ W.cell? ⟨eb, 1, none⟩ = some (.int .i64 0) ∧ W.cell? ⟨eb, 2, none⟩ = some (.int .i64 0) ∧ W.cell? ⟨eb, 3, none⟩ = some (.int .i64 0) ∧ W.cell? ⟨eb, 4, none⟩ = some (.slice none 0 0) ∧ W.cell? ⟨eb, 5, none⟩ = some (.int .i64 0))) (by kernel_rfl) (HS.out _ of9.drew oe9.drew) (fun hHeld => ?_)
  refine wpAnyH_take (i := 0) (v := _) rfl (by kernel_rfl) (by kernel_rfl) (by kernel_rfl) (fun _ _ _ h => h) (yieldsIf_load_mid (by rfl) 34 _ rfl w.heap.size 0 rfl #[.bool a0, .bool a1, .bool a2, .bool a3, .bool a4, .bool a5, .slice none 0 0, .int .i64 r.N, .bool false, .int .i64 (fr + 1)].toList _ (fun W hW => hW.1) rf_desc rfl (rf_infoL _ _ _ _ _ _ _ _ _ _)) (by assumption) ?_
  simp only [Act.put, List.getElem_toArray, List.getElem_cons_zero, List.setIfInBounds_toArray, List.set_cons_zero, List.set_cons_succ]
  refine wpAnyH_take (i := 1) (v := ?_) rfl (by kernel_rfl) (by kernel_rfl) (by kernel_rfl) (fun _ _ _ h => h) (Or.inl ⟨by rfl, ?_⟩) (by assumption) ?_
  rotate_left
  · (intro W hSw; obtain ⟨s0, s1, s2, s3, s4, s5, s6⟩ := hSw; go_simp; try with_reducible rfl)
  simp only [Act.put, List.getElem_toArray, List.getElem_cons_zero, List.getElem_cons_succ, List.setIfInBounds_toArray, List.set_cons_zero, List.set_cons_succ]
  refine wpAnyH_ready (rs := [2, 3]) (by kernel_rfl) (by simp) ?_
  refine AllReadyH.cons rfl (fun K hK => ?_) (AllReadyH.cons rfl (fun K hK => ?_) AllReadyH.nil)
  · go_simp
    have hbA := bl_alloc (bl_refl w9.drew) (.cells #[.slice A5 m c5, .int .i64 0, .int .i64 0, .int .i64 0, .slice none 0 0, .int .i64 0] 51)
    have ofA := of9.drew.step hbA
    have oeA := oe9.drew.step hbA
    have orA := or9.drew.step hbA
    have obA := Own.new w9.drew 51 #[.slice A5 m c5, .int .i64 0, .int .i64 0, .int .i64 0, .slice none 0 0, .int .i64 0]
    refine hK.out _ _ (HS.out _ ofA oeA) (fun hHeld2 => ?_)
    clear hK K hHeld
    have hHeld := hHeld2
    clear hHeld2
    try simp only [Act.put, List.getElem_toArray, List.getElem_cons_zero, List.getElem_cons_succ, List.setIfInBounds_toArray, List.set_cons_zero, List.set_cons_succ]
    refine wpAnyH_ready (rs := [3]) (by kernel_rfl) (by simp) ?_
    refine AllReadyH.cons rfl (fun K hK => ?_) AllReadyH.nil
    refine step_store_rowF rfl _ _ _ rfl (w.heap.size + 1) #[.bool a0, .bool a1, .bool a2, .bool a3, .bool a4, .bool a5, .slice none 0 0, .int .i64 r.N, .bool false, .int .i64 (fr + 1)] rfl rfl 34 #[.bool false, .bool false, .bool false, .bool false, .bool false, .bool false, .slice none 0 0, .int .i64 0, .bool false, .int .i64 0] orA (rf_info _ _ _ _ _ _ _ _ _ _) rfl (rf_one _ _ _ _ _ _ _ _ _ _ _ _) ?_
    have RA := Rest.setRowF (w9.drew.alloc (.cells #[.slice A5 m c5, .int .i64 0, .int .i64 0, .int .i64 0, .slice none 0 0, .int .i64 0] 51)) (w.heap.size + 1) #[.bool a0, .bool a1, .bool a2, .bool a3, .bool a4, .bool a5, .slice none 0 0, .int .i64 r.N, .bool false, .int .i64 (fr + 1)]
    have orz := orA.setRow (cs' := #[.bool a0, .bool a1, .bool a2, .bool a3, .bool a4, .bool a5, .slice none 0 0, .int .i64 r.N, .bool false, .int .i64 (fr + 1)])
    have ofz := RA.own ofA (fun e => by have h : w.heap.size = w.heap.size + 1 := e; omega)
    have oez := RA.own oeA (fun e => by have h : eb = w.heap.size + 1 := e; exact heb h)
    have obz := RA.own obA (fun e => by have h : w9.heap.size = w.heap.size + 1 := e; omega)
    have btz := ((bt9.below (bl_refl w9).drew (Nat.le_refl _)).below hbA (Nat.le_refl _)).more hbA.size
    replace btz := (btz.rest RA (fun i _ ht e => ht.ne orA.typed (Ne.symm rf_types.1) e) (Nat.le_refl _)).more RA.size
    have bz := bl_setRow (g := w.heap.size + 1) (cs := #[.bool a0, .bool a1, .bool a2, .bool a3, .bool a4, .bool a5, .slice none 0 0, .int .i64 r.N, .bool false, .int .i64 (fr + 1)]) (bl_alloc b9.drew (.cells #[.slice A5 m c5, .int .i64 0, .int .i64 0, .int .i64 0, .slice none 0 0, .int .i64 0] 51)) (by omega)
    refine hK.out _ _ (HS.out _ ofz oez) (fun hHeld2 => ?_)
    clear hK K hHeld
    have hHeld := hHeld2
    clear hHeld2
    try simp only [Act.put, List.getElem_toArray, List.getElem_cons_zero, List.getElem_cons_succ]
    refine wpAnyH_take (i := 4) (v := ?_) rfl (by kernel_rfl) (by kernel_rfl) (by kernel_rfl) (fun _ _ _ h => h) (Or.inl ⟨by rfl, ?_⟩) (by assumption) ?_
    rotate_left
    · (intro W hSw; obtain ⟨s0, s1, s2, s3, s4, s5, s6⟩ := hSw; go_simp; try with_reducible rfl)
    simp only [Act.put, List.getElem_toArray, List.getElem_cons_zero, List.getElem_cons_succ, List.setIfInBounds_toArray, List.set_cons_zero, List.set_cons_succ]
    refine wpAnyH_done (by kernel_rfl) ?_ _
    refine NoPanic.normal ?_
    go_wp2
    have hfin : RYes w m (kept ++ [x]) #[.bool a0, .bool a1, .bool a2, .bool a3, .bool a4, .bool a5, .slice none 0 0, .int .i64 r.N, .bool false, .int .i64 (fr + 1)] _ _ := ⟨w9.heap.size, A5, c5, rfl, b9.size, obz, btz, hlb, bz⟩
    exact bodyPost_ret (results_cell_tmpF (p := 4) (t := 5) (fn := Tryd.f26) rfl _ _ (w.heap.size + 1) 34 #[.bool a0, .bool a1, .bool a2, .bool a3, .bool a4, .bool a5, .slice none 0 0, .int .i64 r.N, .bool false, .int .i64 (fr + 1)] _ rfl orz rf_desc rfl (rf_info _ _ _ _ _ _ _ _ _ _)) rfl hfin
  · refine step_store_rowF rfl _ _ _ rfl (w.heap.size + 1) #[.bool a0, .bool a1, .bool a2, .bool a3, .bool a4, .bool a5, .slice none 0 0, .int .i64 r.N, .bool false, .int .i64 (fr + 1)] rfl rfl 34 #[.bool false, .bool false, .bool false, .bool false, .bool false, .bool false, .slice none 0 0, .int .i64 0, .bool false, .int .i64 0] or9.drew (rf_info _ _ _ _ _ _ _ _ _ _) rfl (rf_one _ _ _ _ _ _ _ _ _ _ _ _) ?_
    have RB := Rest.setRowF w9.drew (w.heap.size + 1) #[.bool a0, .bool a1, .bool a2, .bool a3, .bool a4, .bool a5, .slice none 0 0, .int .i64 r.N, .bool false, .int .i64 (fr + 1)]
    have orB := or9.drew.setRow (cs' := #[.bool a0, .bool a1, .bool a2, .bool a3, .bool a4, .bool a5, .slice none 0 0, .int .i64 r.N, .bool false, .int .i64 (fr + 1)])
    have ofB := RB.own of9.drew (fun e => by have h : w.heap.size = w.heap.size + 1 := e; omega)
    have oeB := RB.own oe9.drew (fun e => by have h : eb = w.heap.size + 1 := e; exact heb h)
    have btB := ((bt9.below (bl_refl w9).drew (Nat.le_refl _)).rest RB (fun i _ ht e => ht.ne or9.typed (Ne.symm rf_types.1) e) (Nat.le_refl _)).more RB.size
    have bB := bl_setRow (g := w.heap.size + 1) (cs := #[.bool a0, .bool a1, .bool a2, .bool a3, .bool a4, .bool a5, .slice none 0 0, .int .i64 r.N, .bool false, .int .i64 (fr + 1)]) b9.drew (by omega)
    refine hK.out _ _ (HS.out _ ofB oeB) (fun hHeld2 => ?_)
    clear hK K hHeld
    have hHeld := hHeld2
    clear hHeld2
    try simp only [Act.put, List.getElem_toArray, List.getElem_cons_zero, List.getElem_cons_succ]
    refine wpAnyH_ready (rs := [2]) (by kernel_rfl) (by simp) ?_
    refine AllReadyH.cons rfl (fun K hK => ?_) AllReadyH.nil
    go_simp
    have hbB := bl_alloc (bl_refl (w9.drew.setRow (w.heap.size + 1) #[.bool a0, .bool a1, .bool a2, .bool a3, .bool a4, .bool a5, .slice none 0 0, .int .i64 r.N, .bool false, .int .i64 (fr + 1)])) (.cells #[.slice A5 m c5, .int .i64 0, .int .i64 0, .int .i64 0, .slice none 0 0, .int .i64 0] 51)
    have orz := orB.step hbB
    have ofz := ofB.step hbB
    have oez := oeB.step hbB
    have obz := Own.new (w9.drew.setRow (w.heap.size + 1) #[.bool a0, .bool a1, .bool a2, .bool a3, .bool a4, .bool a5, .slice none 0 0, .int .i64 r.N, .bool false, .int .i64 (fr + 1)]) 51 #[.slice A5 m c5, .int .i64 0, .int .i64 0, .int .i64 0, .slice none 0 0, .int .i64 0]
    rw [show (w9.drew.setRow (w.heap.size + 1) #[.bool a0, .bool a1, .bool a2, .bool a3, .bool a4, .bool a5, .slice none 0 0, .int .i64 r.N, .bool false, .int .i64 (fr + 1)]).heap.size = w9.heap.size by simp] at obz
    have btz := (btB.below hbB (Nat.le_refl _)).more hbB.size
    have bz := bl_alloc bB (.cells #[.slice A5 m c5, .int .i64 0, .int .i64 0, .int .i64 0, .slice none 0 0, .int .i64 0] 51)
    refine hK.out _ _ (HS.out _ ofz oez) (fun hHeld2 => ?_)
    clear hK K hHeld
    have hHeld := hHeld2
    clear hHeld2
    try simp only [Act.put, List.getElem_toArray, List.getElem_cons_zero, List.getElem_cons_succ, List.setIfInBounds_toArray, List.set_cons_zero, List.set_cons_succ]
    refine wpAnyH_take (i := 4) (v := ?_) rfl (by kernel_rfl) (by kernel_rfl) (by kernel_rfl) (fun _ _ _ h => h) (Or.inl ⟨by rfl, ?_⟩) (by assumption) ?_
    rotate_left
    · (intro W hSw; obtain ⟨s0, s1, s2, s3, s4, s5, s6⟩ := hSw; go_simp; try with_reducible rfl)
    simp only [Act.put, List.getElem_toArray, List.getElem_cons_zero, List.getElem_cons_succ, List.setIfInBounds_toArray, List.set_cons_zero, List.set_cons_succ]
    refine wpAnyH_done (by kernel_rfl) ?_ _
    refine NoPanic.normal ?_
    go_wp2
    have hfin : RYes w m (kept ++ [x]) #[.bool a0, .bool a1, .bool a2, .bool a3, .bool a4, .bool a5, .slice none 0 0, .int .i64 r.N, .bool false, .int .i64 (fr + 1)] _ _ := ⟨w9.heap.size, A5, c5, rfl, b9.size, obz, btz, hlb, bz⟩
    exact bodyPost_ret (results_cell_tmpF (p := 4) (t := 5) (fn := Tryd.f26) rfl _ _ (w.heap.size + 1) 34 #[.bool a0, .bool a1, .bool a2, .bool a3, .bool a4, .bool a5, .slice none 0 0, .int .i64 r.N, .bool false, .int .i64 (fr + 1)] _ rfl orz rf_desc rfl (rf_info _ _ _ _ _ _ _ _ _ _)) rfl hfin
end Go.Proofs.YtgahjchngmojlabDoor

/- peerageref23.one at every state; Feed -/
namespace Go.Proofs.YtgahjchngmojlabDoor
open Go.RowKit

/-- The state of the reference as a value. -/
def rfa (s : FS) (K : Option Addr) (n c : Nat) : Array Value := #[.bool s.o.a0, .bool s.o.a1, .bool s.o.a2, .bool s.o.a3, .bool s.o.a4, .bool s.o.a5, .slice K n c, .int .i64 s.len, .bool s.closed, .int .i64 s.fr]
def Ev.Lo (b : Nat) (e : Ev) : Prop := LB b e.A e.xs ∧ LB b e.D e.ds
def OneR (Z : Option Addr → List Int → Prop) (w w' : World) (s' : FS) (ps : List EvP) (K' : Option Addr) (n' : Nat) (v : Value) (L : List Ev) : Prop :=
  BT w' w'.heap.size K' n' s'.kept ∧ Z K' s'.kept ∧ (∀ x ∈ L, x.Lo w.heap.size) ∧ L.map Ev.p = ps ∧ w'.ownsRow w.heap.size 51 6 v L.length (flatE L) ∧ (∀ x ∈ L, x.Ok w' w'.heap.size) ∧ Below w.heap.size w w'
theorem own_six {w : World} {g base : Nat} {T : TypeId} {E : Ev} (h : Own w g T (evc E)) (hb : base ≤ g) : w.ownsRow base T 6 (.slice (some ⟨g, 0, none⟩) 1 1) 1 (flatE [E]) :=
  ⟨rfl, .inr ⟨g, 1, evc E, rfl, hb, h, Nat.le_refl _, by unfold maxLen; omega, rfl, by simp [flatE, evc]⟩⟩
def OneX (Z : Option Addr → List Int → Prop) (s' : FS) (ps : List EvP) (w : World) (e : Ending) (w' : World) : Prop :=
  ∃ (K' : Option Addr) (n' c' : Nat) (A' : Option Addr) (c2 : Nat) (L : List Ev), e = .returned (.tuple #[.agg (rfa s' K' n' c'), .slice A' L.length c2]) ∧ OneR Z w w' s' ps K' n' (.slice A' L.length c2) L
theorem one_no_in {w w' : World} {m : Nat} {ks : List Int} {len : Int} {o : O6} {fr : Nat} {e : Ending} (h : RNo w m ks (fun A5 c5 => rfa ⟨o, ks, len, false, fr⟩ A5 m c5) e w') : OneX (LB w.heap.size) ⟨o, ks, len, false, fr⟩ [] w e w' := by
  obtain ⟨A5, c5, rfl, hbt, hlb, hb⟩ := h
  exact ⟨A5, m, c5, none, 0, [], rfl, hbt, hlb, (fun _ h => by cases h), rfl, World.ownsRow_nil _ _ _ _, (fun _ h => by cases h), hb⟩
theorem one_yes_in {w w' : World} {m : Nat} {ks : List Int} {len : Int} {o : O6} {fr : Nat} {f : Int} {e : Ending} (hf : f = ((fr + 1 : Nat) : Int)) (hm : m ≤ 65535) (h : RYes w m ks #[.bool o.a0, .bool o.a1, .bool o.a2, .bool o.a3, .bool o.a4, .bool o.a5, .slice none 0 0, .int .i64 len, .bool false, .int .i64 f] e w') : OneX (LB w.heap.size) ⟨o, [], len, false, fr + 1⟩ [(ks, (0, 0, 0, 0, []))] w e w' := by
  subst hf
  obtain ⟨gb, A5, c5, rfl, hg, ob, hbt, hlb, hb⟩ := h
  exact ⟨none, 0, 0, some ⟨gb, 0, none⟩, 1, [⟨A5, m, c5, ks, 0, 0, 0, none, 0, 0, [], 0⟩], rfl, BT.nil _ _ _, .inl rfl, (fun x hx => by
    rw [List.mem_singleton] at hx
    subst hx
    exact ⟨hlb, .inl rfl⟩), rfl, own_six ob hg, (fun x hx => by
    rw [List.mem_singleton] at hx
    subst hx
    exact ⟨hbt, BT.nil _ _ _, hm⟩), hb⟩
theorem one_bad_in {w w' : World} {len : Int} {o : O6} {fr : Nat} {r : HR} {e : Ending} (h : RBad w r #[.bool o.a0, .bool o.a1, .bool o.a2, .bool o.a3, .bool o.a4, .bool o.a5, .slice none 0 0, .int .i64 len, .bool true, .int .i64 fr] e w') : OneX (LB w.heap.size) ⟨o, [], len, true, fr⟩ [([], r.vp)] w e w' := by
  obtain ⟨gb, D, dm, dc, rfl, hg, ob, hbt, hlb, hb⟩ := h
  exact ⟨none, 0, 0, some ⟨gb, 0, none⟩, 1, [⟨none, 0, 0, [], r.k1, r.k2, r.k3, D, dm, dc, r.d, r.k5⟩], rfl, BT.nil _ _ _, .inl rfl, (fun x hx => by
    rw [List.mem_singleton] at hx
    subst hx
    exact ⟨.inl rfl, hlb⟩), rfl, own_six ob hg, (fun x hx => by
    rw [List.mem_singleton] at hx
    subst hx
    exact ⟨BT.nil _ _ _, hbt, by simp⟩), hb⟩
set_option maxRecDepth 100000 in
theorem rone_any (s : FS) (K : Option Addr) (n c : Nat) (x : Int) (w : World) (hK : BT w w.heap.size K n s.kept) (hok : s.Ok) (hc : s.closed = false) (hx : 0 ≤ x ∧ x ≤ 255) (hfr : s.fr ≤ 1000000000) :
    Calls Tryd.prog 26 #[.agg (rfa s K n c), .int .u8 x] w fun e w' => OneX (LB w.heap.size) (s.step x).1 (s.step x).2 w e w' := by
  obtain ⟨o, kept, len, closed, fr⟩ := s
  dsimp only at hc hK hfr
  subst hc
  obtain ⟨a0, a1, a2, a3, a4, a5⟩ := o
  have hl : kept.length < 65535 := hok.len
  have hk2 := rng_snoc hok.rng hx
  have hnk := hK.1.1
  have hml : (kept ++ [x]).length = n + 1 := by simp [hnk]
  show Calls Tryd.prog 26 #[.agg #[.bool a0, .bool a1, .bool a2, .bool a3, .bool a4, .bool a5, .slice K n c, .int .i64 len, .bool false, .int .i64 fr], .int .u8 x] w _
  by_cases hlk : (FS.mk ⟨a0, a1, a2, a3, a4, a5⟩ kept len false fr).looks x
  · have hacc := hdP_acc a1 (kept ++ [x])
    have hsp := Lib.hid (hdP_same ⟨a0, a1, a2, a3, a4, a5⟩ (kept ++ [x]) hk2).2
    have hlk2 : (kept.length + 1 ≤ 16 ∧ x ≠ 255) ∨ kept.length + 1 = 19 := hlk
    rw [← hnk] at hlk2
    by_cases hk : (hdP a1 (kept ++ [x])).k1 = 0
    · have es := FS.step_good hlk hk
      by_cases hN : n + 1 = 19 ∧ ((n + 1 : Nat) : Int) = (hdP a1 (kept ++ [x])).N
      · have et : FS.tail ⟨⟨a0, a1, a2, a3, a4, a5⟩, kept ++ [x], (hdP a1 (kept ++ [x])).N, false, fr⟩ = (⟨⟨a0, a1, a2, a3, a4, a5⟩, [], (hdP a1 (kept ++ [x])).N, false, fr + 1⟩, [(kept ++ [x], (0, 0, 0, 0, []))]) := FS.tail_yes (by rw [hml]; omega) (by rw [hml]; exact hN.2)
        rw [es.trans et]
        exact (one_go3 n c (n + 1) K len a0 a1 a2 a3 a4 a5 fr kept x w hK hk2 (by omega) rfl hN.1 (hdP a1 (kept ++ [x])) hsp hk hN.2 (by omega) (by omega)).mono fun e w' h => one_yes_in (o := ⟨a0, a1, a2, a3, a4, a5⟩) (by omega) (by omega) h
      · have et : FS.tail ⟨⟨a0, a1, a2, a3, a4, a5⟩, kept ++ [x], (hdP a1 (kept ++ [x])).N, false, fr⟩ = (⟨⟨a0, a1, a2, a3, a4, a5⟩, kept ++ [x], (hdP a1 (kept ++ [x])).N, false, fr⟩, []) := FS.tail_no (by
          have h1 := (hacc hk).1
          show (kept ++ [x]).length < 19 ∨ ((kept ++ [x]).length : Int) ≠ (hdP a1 (kept ++ [x])).N
          rw [hml]
          omega)
        rw [es.trans et]
        rcases hlk2 with ⟨h16, hxx⟩ | h19
        · exact (one_go1 n c (n + 1) K len a0 a1 a2 a3 a4 a5 fr kept x w hK hk2 (by omega) rfl hxx h16 (hdP a1 (kept ++ [x])) hsp hk).mono fun e w' h => one_no_in h
        · exact (one_go2 n c (n + 1) K len a0 a1 a2 a3 a4 a5 fr kept x w hK hk2 (by omega) rfl h19 (hdP a1 (kept ++ [x])) hsp hk (fun e => hN ⟨h19, e⟩)).mono fun e w' h => one_no_in h
    · rw [FS.step_bad hlk hk]
      rcases hlk2 with ⟨h16, hxx⟩ | h19
      · exact (one_bad1 n c (n + 1) K len a0 a1 a2 a3 a4 a5 fr kept x w hK hk2 (by omega) rfl hxx h16 (hdP a1 (kept ++ [x])) hsp hk).mono fun e w' h => one_bad_in (o := ⟨a0, a1, a2, a3, a4, a5⟩) h
      · exact (one_bad2 n c (n + 1) K len a0 a1 a2 a3 a4 a5 fr kept x w hK hk2 (by omega) rfl h19 (hdP a1 (kept ++ [x])) hsp hk).mono fun e w' h => one_bad_in (o := ⟨a0, a1, a2, a3, a4, a5⟩) h
  · have es := FS.step_plain hlk
    have hnot : ¬ ((kept.length + 1 ≤ 16 ∧ x ≠ 255) ∨ kept.length + 1 = 19) := hlk
    rw [← hnk] at hnot
    have e19 : n + 1 ≠ 19 := fun e => hnot (.inr e)
    have eno : ∀ (_ : n + 1 < 19 ∨ ((n + 1 : Nat) : Int) ≠ len), FS.step ⟨⟨a0, a1, a2, a3, a4, a5⟩, kept, len, false, fr⟩ x = (⟨⟨a0, a1, a2, a3, a4, a5⟩, kept ++ [x], len, false, fr⟩, []) := fun h => es.trans (FS.tail_no (by
      show (kept ++ [x]).length < 19 ∨ ((kept ++ [x]).length : Int) ≠ len
      rw [hml]; exact h))
    by_cases h16 : n + 1 ≤ 16
    · have hx255 : x = 255 := Decidable.byContradiction fun hne => hnot (.inl ⟨h16, hne⟩)
      rw [eno (.inl (by omega))]
      exact (one_no1 n c (n + 1) K len a0 a1 a2 a3 a4 a5 fr kept x w hK hk2 (by omega) rfl hx255 h16).mono fun e w' h => one_no_in h
    · by_cases h18 : n + 1 < 19
      · rw [eno (.inl h18)]
        exact (one_no2 n c (n + 1) K len a0 a1 a2 a3 a4 a5 fr kept x w hK hk2 (by omega) rfl (by omega) h18).mono fun e w' h => one_no_in h
      · by_cases hN : ((n + 1 : Nat) : Int) = len
        · have es2 : FS.step ⟨⟨a0, a1, a2, a3, a4, a5⟩, kept, len, false, fr⟩ x = (⟨⟨a0, a1, a2, a3, a4, a5⟩, [], len, false, fr + 1⟩, [(kept ++ [x], (0, 0, 0, 0, []))]) := es.trans (FS.tail_yes (by show 19 ≤ (kept ++ [x]).length; omega) (by show ((kept ++ [x]).length : Int) = len; rw [hml]; exact hN))
          rw [es2]
          exact (one_yes n c (n + 1) K len a0 a1 a2 a3 a4 a5 fr kept x w hK hk2 (by omega) rfl (by omega) hN (by omega) (by omega)).mono fun e w' h => one_yes_in (o := ⟨a0, a1, a2, a3, a4, a5⟩) (by omega) (by omega) h
        · rw [eno (.inr hN)]
          exact (one_no3 n c (n + 1) K len a0 a1 a2 a3 a4 a5 fr kept x w hK hk2 (by omega) rfl (by omega) hN).mono fun e w' h => one_no_in h
end Go.Proofs.YtgahjchngmojlabDoor

/- peerageref23.Feed -/
namespace Go.Proofs.YtgahjchngmojlabDoor
open Go.RowKit

set_option maxRecDepth 100000 in
theorem rfa_info (s : FS) (K : Option Addr) (n c : Nat) : (Tryd.prog.info? 34).map (·.size) = some (rfa s K n c).size := rf_info _ _ _ _ _ _ _ _ _ _
set_option maxRecDepth 100000 in
theorem rfa_infoL (s : FS) (K : Option Addr) (n c : Nat) : (Tryd.prog.info? 34).map (·.size) = some (rfa s K n c).toList.length := rf_infoL _ _ _ _ _ _ _ _ _ _
theorem rfa_one (s : FS) (K : Option Addr) (n c : Nat) : (rfa s K n c).all (·.oneCell') = true := rf_one _ _ _ _ _ _ _ _ _ _ _ _
theorem rfa_range {W : World} {g : Nat} {T : TypeId} {s : FS} {K : Option Addr} {n c : Nat} (h : Own W g T (rfa s K n c)) : W.rangeAt g 0 (rfa s K n c).toList := own_range h
/-- What the reference keeps lies in a new block, or where it lay. -/
def ZF (w : World) (s : FS) (K : Option Addr) (K' : Option Addr) (ks : List Int) : Prop := LB w.heap.size K' ks ∨ (K' = K ∧ ks = s.kept)
theorem rf_types2 : (34 : TypeId) ≠ 51 := by decide
def RfI (Z : Option Addr → List Int → Prop) (w wr : World) (p : FS × List EvP) (K1 : Option Addr) (n1 c1 : Nat) (L : List Ev) (ov : Value) : Prop :=
  Own wr w.heap.size 34 (rfa p.1 K1 n1 c1) ∧ Own wr (w.heap.size + 1) 34 #[.bool false, .bool false, .bool false, .bool false, .bool false, .bool false, .slice none 0 0, .int .i64 0, .bool false, .int .i64 0] ∧ BT wr wr.heap.size K1 n1 p.1.kept ∧ Z K1 p.1.kept ∧ (∀ x ∈ L, x.Lo w.heap.size) ∧ L.map Ev.p = p.2 ∧ wr.ownsRow w.heap.size 51 6 ov L.length (flatE L) ∧ (∀ x ∈ L, x.Ok wr wr.heap.size) ∧ Below w.heap.size w wr
set_option maxRecDepth 100000 in
set_option maxHeartbeats 12800000 in
theorem rfeed_any (s : FS) (K : Option Addr) (kn kc : Nat) (A : Option Addr) (n c : Nat) (xs : List Int) (w : World) (hK : BT w w.heap.size K kn s.kept) (hx : Bytes w w.heap.size A n xs) (hok0 : s.Ok) (hn : n ≤ 100000) (hfr : s.fr ≤ 100000) :
    Calls Tryd.prog 11 #[.agg (rfa s K kn kc), .slice A n c] w fun e w' => OneX (ZF w s K) (s.feed xs).1 (s.feed xs).2 w e w' := by
  have HN := Lib.hid hx.1
  have HX := Lib.hid hx
  have HFO := Lib.hid (fun k => FS.feed_ok hok0 (xs.take k) (fun x hx' => hx.2.1 x (List.mem_of_mem_take hx')))
  have HF0 := Lib.hid hfr
  have of0 := (Own.new w 34 (rfa s K kn kc)).alloc (.cells #[.bool false, .bool false, .bool false, .bool false, .bool false, .bool false, .slice none 0 0, .int .i64 0, .bool false, .int .i64 0] 34)
  have or0 := Own.new (w.alloc (.cells (rfa s K kn kc) 34)) 34 #[.bool false, .bool false, .bool false, .bool false, .bool false, .bool false, .slice none 0 0, .int .i64 0, .bool false, .int .i64 0]
  rw [show (w.alloc (.cells (rfa s K kn kc) 34)).heap.size = w.heap.size + 1 by simp] at or0
  have b0 := bl_alloc (bl_alloc (bl_refl w) (.cells (rfa s K kn kc) 34)) (.cells #[.bool false, .bool false, .bool false, .bool false, .bool false, .bool false, .slice none 0 0, .int .i64 0, .bool false, .int .i64 0] 34)
  have hst : RfI (ZF w s K) w _ (s.feed (xs.take 0)) K kn kc [] (.slice none 0 0) := ⟨of0, or0, (hK.below b0 (Nat.le_refl _)).more b0.size, .inr ⟨rfl, rfl⟩, (fun _ h => by cases h), rfl, World.ownsRow_nil _ _ _ _, (fun _ h => by cases h), b0⟩
  have HST := Lib.hid hst
  clear hK hx hfr of0 or0 b0 hst
  go_enter Tryd.func11, Tryd.ntmps11
  go_wp2_with fail
  go_loopw [6, 7, 8, 9] (fun ov i _ _ wr => ∃ (k : Nat) (K1 : Option Addr) (n1 c1 : Nat) (L : List Ev), k ≤ n ∧ i = .int .i64 k ∧ RfI (ZF w s K) w wr (s.feed (xs.take k)) K1 n1 c1 L ov) (fun _ i _ _ _ => n - (intOf i).toNat)
  case atStart => exact ⟨0, K, kn, kc, [], Nat.zero_le _, rfl, HST.out⟩
  case round =>
    obtain ⟨k, K1, n1, c1, L, hk, rfl, hI⟩ := hrel
    clear HST
    have HT := Lib.hid (fun h hc => FS.feed_take (s := s) (xs := xs) (k := k) h hc)
    have HSt := Lib.hid (fun hc => FS.feed_stop (s := s) (xs := xs) (k := k) hc)
    have hfk := HFO.out k
    rw [List.length_take] at hfk
    have HE0 := Lib.hid (show k = n → s.feed (xs.take k) = s.feed xs from fun h => by rw [show k = xs.length by have := HN.out; omega, List.take_length])
    generalize s.feed (xs.take k) = p at *
    obtain ⟨s1, ps⟩ := p
    obtain ⟨of1, or1, hbt, hZ, hLB, hL, hrow, hok, hb⟩ := hI
    dsimp only at of1 hbt hZ hL hfk HT HSt
    have HLB := Lib.hid hLB
    have HZ := Lib.hid hZ
    clear hLB hZ
    have hz : w.heap.size + 2 ≤ wr.heap.size := by have := or1.lt; omega
    have hLn := Lib.hid (show L.length ≤ k by have h2 := congrArg List.length hL; rw [List.length_map] at h2; omega)
    have HFr := Lib.hid (show s1.fr ≤ 1000000000 by have := HF0.out; omega)
    have HOk := Lib.hid hfk.1
    clear hfk
    have d8 := of1.cell (i := 8) (v := .bool s1.closed) rfl
    have hlf := of1.lt
    by_cases hlt : k < n
    · cases hcl : s1.closed with
      | true =>
        rw [hcl] at d8
        have HE := Lib.hid (show (s1, ps) = s.feed xs from HSt.out hcl)
        clear HT HSt HE0
        obtain ⟨A0, c0, rfl⟩ := own_form hrow
        have R9 := Rest.setRowF wr (w.heap.size + 1) (rfa s1 K1 n1 c1)
        have hfin : OneX (ZF w s K) s1 ps w (.returned (.tuple #[.agg (rfa s1 K1 n1 c1), .slice A0 L.length c0])) (wr.setRow (w.heap.size + 1) (rfa s1 K1 n1 c1)) := ⟨K1, n1, c1, A0, c0, L, rfl, (hbt.rest R9 (fun i _ ht e => ht.ne or1.typed (Ne.symm rf_types.1) e) (Nat.le_refl _)).more R9.size, HZ.out, HLB.out, hL, row_rest hrow R9 (fun j hj e => (row_typed hrow hj).1.ne or1.typed (Ne.symm rf_types2) e), (fun y hy => ((hok y hy).rest R9 (fun i _ ht e => ht.ne or1.typed (Ne.symm rf_types.1) e) (Nat.le_refl _)).more R9.size), bl_setRow (g := w.heap.size + 1) (cs := (rfa s1 K1 n1 c1)) hb (by omega)⟩
        have HF := Lib.hid hfin
        clear hfin R9 hrow hok hbt hb hL
        go_wp2_with (first | (refine wpList_load_row rfl 34 _ rfl w.heap.size rfl 34 (rfa s1 K1 n1 c1) (0, 0) (.struct (Tryd.prog.fieldsOf 34)) of1 rf_desc rfl (rfa_info _ _ _ _) ?_) | (refine wpList_store_row rfl 34 _ _ rfl (w.heap.size + 1) (rfa s1 K1 n1 c1) rfl rfl 34 #[.bool false, .bool false, .bool false, .bool false, .bool false, .bool false, .slice none 0 0, .int .i64 0, .bool false, .int .i64 0] or1 (rfa_info _ _ _ _) rfl (rfa_one _ _ _ _) ?_))
        rw [← HE.out]
        exact bodyPost_ret (results_cell_tmpF (p := 4) (t := 5) (fn := Tryd.f11) rfl _ _ (w.heap.size + 1) 34 (rfa s1 K1 n1 c1) _ rfl or1.setRow rf_desc rfl (rfa_info _ _ _ _)) rfl HF.out
      | false =>
        rw [hcl] at d8
        obtain ⟨b, o, rfl, hbw, hcx, h0, h1⟩ := ((HX.out.below hb).more hb.size).at_ hlt
        have HT2 := Lib.hid (HT.out (by have := HN.out; omega) hcl)
        generalize nth xs k = x at *
        have HC := Lib.hid (fun W (h : Below wr.heap.size wr W) => rone_any s1 K1 n1 c1 x W ((hbt.below h (Nat.le_refl _)).more h.size) HOk.out hcl ⟨h0, h1⟩ HFr.out)
        have hki : (k : Int) < (n : Int) := by omega
        have hk0 : (0 : Int) ≤ (k : Int) := by omega
        clear HT HSt HE0 hcl h0 h1
        go_upto_region 5 with fail
        have HS := Lib.hid (fun W (h : Below wr.heap.size wr W) => And.intro (rfa_range (of1.step h)) ((h.cell (p := ⟨b, o + k, none⟩) hbw).trans hcx))
        refine wp_region_noPanic ?_
        refine wp_region_held_drew (S := (fun W => W.rangeAt w.heap.size 0 (rfa s1 K1 n1 c1).toList ∧ W.cell? ⟨b, o + k, none⟩ = some (.int .u8 x))) (by kernel_rfl) (HS.out _ (bl_refl wr).drew) (fun hHeld => ?_)
        refine wpAnyH_take (i := 0) (v := _) rfl (by kernel_rfl) (by kernel_rfl) (by kernel_rfl) (fun _ _ _ h => h) (yieldsIf_load_mid (by rfl) 34 _ rfl w.heap.size 0 rfl (rfa s1 K1 n1 c1).toList _ (fun W hW => hW.1) rf_desc rfl (rfa_infoL _ _ _ _)) (by assumption) ?_
        simp only [Act.put, List.getElem_toArray, List.getElem_cons_zero, List.setIfInBounds_toArray, List.set_cons_zero, List.set_cons_succ]
        refine wpAnyH_take (i := 1) (v := ?_) rfl (by kernel_rfl) (by kernel_rfl) (by kernel_rfl) (fun _ _ _ h => h) (Or.inl ⟨by rfl, ?_⟩) (by assumption) ?_
        rotate_left
        · (intro W hSw; obtain ⟨s0, s1⟩ := hSw; go_simp; try with_reducible rfl)
        simp only [Act.put, List.getElem_toArray, List.getElem_cons_zero, List.getElem_cons_succ, List.setIfInBounds_toArray, List.set_cons_zero, List.set_cons_succ]
        refine wpAnyH_take (i := 2) (v := ?_) rfl (by kernel_rfl) (by kernel_rfl) (by kernel_rfl) (fun _ _ _ h => h) (Or.inl ⟨by rfl, ?_⟩) (by assumption) ?_
        rotate_left
        · (intro W hSw; obtain ⟨s0, s1⟩ := hSw; go_simp; try with_reducible rfl)
        simp only [Act.put, List.getElem_toArray, List.getElem_cons_zero, List.getElem_cons_succ, List.setIfInBounds_toArray, List.set_cons_zero, List.set_cons_succ]
        refine wpAnyH_take (i := 3) (v := ?_) rfl (by kernel_rfl) (by kernel_rfl) (by kernel_rfl) (fun _ _ _ h => h) (Or.inl ⟨by rfl, ?_⟩) (by assumption) ?_
        rotate_left
        · (intro W hSw; obtain ⟨s0, s1⟩ := hSw; go_simp; try with_reducible rfl)
        simp only [Act.put, List.getElem_toArray, List.getElem_cons_zero, List.getElem_cons_succ, List.setIfInBounds_toArray, List.set_cons_zero, List.set_cons_succ]
        refine wpAnyH_take (i := 4) (v := ?_) rfl (by kernel_rfl) (by kernel_rfl) (by kernel_rfl) (fun _ _ _ h => h) (Or.inl ⟨by rfl, ?_⟩) (by assumption) ?_
        rotate_left
        · (intro W hSw; obtain ⟨s0, s1⟩ := hSw; go_simp; try with_reducible rfl)
        simp only [Act.put, List.getElem_toArray, List.getElem_cons_zero, List.getElem_cons_succ, List.setIfInBounds_toArray, List.set_cons_zero, List.set_cons_succ]
        refine wpAnyH_ready (rs := [5, 9]) (by kernel_rfl) (by simp) ?_
        refine AllReadyH.cons rfl (fun K hK => ?_) (AllReadyH.cons rfl (fun K hK => ?_) AllReadyH.nil)
        · go_simp
          have hWs : wr.heap.size ≤ wr.drew.heap.size := Nat.le_refl _
          (go_at_call 26; refine (HC.out _ (bl_refl wr).drew).mono ?_; rintro e w3 ⟨K2, n2, c2, A2, c3, L2, rfl, hbt2, hZ2, hLB2, hL2, hrw2, hok2, hb3⟩)
          have HZ2 := Lib.hid (hZ2.low (show w.heap.size ≤ _ from Nat.le_trans hb.size hWs))
          have HLB2 := Lib.hid (fun (y : Ev) (hy : y ∈ L2) => show y.Lo w.heap.size from ⟨(hLB2 y hy).1.low (Nat.le_trans hb.size hWs), (hLB2 y hy).2.low (Nat.le_trans hb.size hWs)⟩)
          clear hZ2 hLB2 hWs
          have hL2n : L2.length ≤ 1 := by have h2 := congrArg List.length hL2; rw [List.length_map] at h2; have := (FS.step_evs s1 x).1; omega
          have b3 : Below wr.heap.size wr w3 := bl_trans (bl_refl wr).drew hb3
          refine hK.out _ _ (HS.out _ b3) (fun hHeld2 => ?_)
          clear hK K hHeld
          have hHeld := hHeld2
          clear hHeld2
          try simp only [Act.put, List.getElem_toArray, List.getElem_cons_zero, List.getElem_cons_succ, List.setIfInBounds_toArray, List.set_cons_zero, List.set_cons_succ]
          refine wpAnyH_take (i := 6) (v := ?_) rfl (by kernel_rfl) (by kernel_rfl) (by kernel_rfl) (fun _ _ _ h => h) (Or.inl ⟨by rfl, ?_⟩) (by assumption) ?_
          rotate_left
          · (intro W hSw; obtain ⟨s0, s1⟩ := hSw; go_simp; try with_reducible rfl)
          simp only [Act.put, List.getElem_toArray, List.getElem_cons_zero, List.getElem_cons_succ, List.setIfInBounds_toArray, List.set_cons_zero, List.set_cons_succ]
          refine wpAnyH_take (i := 7) (v := ?_) rfl (by kernel_rfl) (by kernel_rfl) (by kernel_rfl) (fun _ _ _ h => h) (Or.inl ⟨by rfl, ?_⟩) (by assumption) ?_
          rotate_left
          · (intro W hSw; obtain ⟨s0, s1⟩ := hSw; go_simp; try with_reducible rfl)
          simp only [Act.put, List.getElem_toArray, List.getElem_cons_zero, List.getElem_cons_succ, List.setIfInBounds_toArray, List.set_cons_zero, List.set_cons_succ]
          refine wpAnyH_take (i := 8) (v := ?_) rfl (by kernel_rfl) (by kernel_rfl) (by kernel_rfl) (fun _ _ _ h => h) (Or.inl ⟨by rfl, ?_⟩) (by assumption) ?_
          rotate_left
          · (intro W hSw; obtain ⟨s0, s1⟩ := hSw; go_simp; try with_reducible rfl)
          simp only [Act.put, List.getElem_toArray, List.getElem_cons_zero, List.getElem_cons_succ, List.setIfInBounds_toArray, List.set_cons_zero, List.set_cons_succ]
          refine wpAnyH_ready (rs := [9]) (by kernel_rfl) (by simp) ?_
          refine AllReadyH.cons rfl (fun K hK => ?_) AllReadyH.nil
          go_simp
          have hbA := bl_alloc (bl_refl w3) (.cells #[.bool false, .bool false, .bool false, .bool false, .bool false, .bool false, .slice none 0 0, .int .i64 0, .bool false, .int .i64 0] 34)
          have oxA := Own.new w3 34 #[.bool false, .bool false, .bool false, .bool false, .bool false, .bool false, .slice none 0 0, .int .i64 0, .bool false, .int .i64 0]
          have RA := Rest.setRowF (w3.alloc (.cells #[.bool false, .bool false, .bool false, .bool false, .bool false, .bool false, .slice none 0 0, .int .i64 0, .bool false, .int .i64 0] 34)) w3.heap.size (rfa (s1.step x).1 K2 n2 c2)
          have bA := bl_alloc b3 (.cells #[.bool false, .bool false, .bool false, .bool false, .bool false, .bool false, .slice none 0 0, .int .i64 0, .bool false, .int .i64 0] 34)
          have bV := bl_setRow (g := w3.heap.size) (cs := rfa (s1.step x).1 K2 n2 c2) bA b3.size
          have oxV := oxA.setRow (cs' := rfa (s1.step x).1 K2 n2 c2)
          have tyA : ∀ i, Typed (w3.alloc (.cells #[.bool false, .bool false, .bool false, .bool false, .bool false, .bool false, .slice none 0 0, .int .i64 0, .bool false, .int .i64 0] 34)) i 5 → ¬ i = w3.heap.size := fun i ht e => ht.ne oxA.typed (Ne.symm rf_types.1) e
          have btV := (((hbt2.below hbA (Nat.le_refl _)).more hbA.size).rest RA (fun i _ ht => tyA i ht) (Nat.le_refl _)).more RA.size
          have okV2 : ∀ y ∈ L2, y.Ok _ _ := fun y hy => ((((hok2 y hy).below hbA (Nat.le_refl _)).more hbA.size).rest RA (fun i _ ht => tyA i ht) (Nat.le_refl _)).more RA.size
          have rwV := row_rest (own_belowG hrw2 hbA) RA (fun j hj e => (row_typed (own_belowG hrw2 hbA) hj).1.ne oxA.typed (Ne.symm rf_types2) e)
          have hs3 := b3.size
          refine hK.out _ _ (HS.out _ bA) (fun hHeld2 => ?_)
          clear hK K hHeld
          have hHeld := hHeld2
          clear hHeld2
          try simp only [Act.put, List.getElem_toArray, List.getElem_cons_zero, List.getElem_cons_succ, List.setIfInBounds_toArray, List.set_cons_zero, List.set_cons_succ]
          refine wpAnyH_ready (rs := [10]) (by kernel_rfl) (by simp) ?_
          refine AllReadyH.cons rfl (fun K hK => ?_) AllReadyH.nil
          refine step_store_rowF rfl _ _ _ rfl _ (rfa (s1.step x).1 K2 n2 c2) rfl rfl 34 #[.bool false, .bool false, .bool false, .bool false, .bool false, .bool false, .slice none 0 0, .int .i64 0, .bool false, .int .i64 0] oxA (rfa_info _ _ _ _) rfl (rfa_one _ _ _ _) ?_
          refine hK.out _ _ (HS.out _ bV) (fun hHeld2 => ?_)
          clear hK K hHeld
          have hHeld := hHeld2
          clear hHeld2
          try simp only [Act.put, List.getElem_toArray, List.getElem_cons_zero, List.getElem_cons_succ]
          clear hbt2 hok2 hrw2 hb3 b3 hbA oxA RA bA tyA
          refine wpAnyH_take (i := 11) (v := ?_) rfl (by kernel_rfl) (by kernel_rfl) (by kernel_rfl) (fun _ _ _ h => h) (Or.inl ⟨by rfl, ?_⟩) (by assumption) ?_
          rotate_left
          · (intro W hSw; obtain ⟨s0, s1⟩ := hSw; go_simp; try with_reducible rfl)
          simp only [Act.put, List.getElem_toArray, List.getElem_cons_zero, List.getElem_cons_succ, List.setIfInBounds_toArray, List.set_cons_zero, List.set_cons_succ]
          refine wpAnyH_done (by kernel_rfl) ?_ _
          refine NoPanic.normal ?_
          clear HC HS hcx hHeld
          generalize (s1.step x).1 = s2 at *
          generalize (s1.step x).2 = p2 at *
          have ofV := of1.step bV
          have orV := or1.step bV
          have hbV := bl_trans hb bV
          have okV : ∀ y ∈ L, y.Ok _ _ := fun y hy => ((hok y hy).below bV (Nat.le_refl _)).more bV.size
          have rowV := own_belowG hrow bV
          have hzV : w.heap.size + 2 ≤ wr.heap.size := hz
          have hlL := hLn.out
          have hl2 := hL2n
          clear of1 or1 hb hok hrow bV hbt
          generalize ((w3.alloc (.cells #[.bool false, .bool false, .bool false, .bool false, .bool false, .bool false, .slice none 0 0, .int .i64 0, .bool false, .int .i64 0] 34)).setRow w3.heap.size (rfa s2 K2 n2 c2)) = V at *
          obtain ⟨xb, hxb⟩ : ∃ z, z = w3.heap.size := ⟨_, rfl⟩
          have hxf : ¬ xb = w.heap.size := by omega
          rw [← hxb] at oxV ⊢
          clear hxb
          have RF2 := Rest.setRowF V w.heap.size (rfa s2 K2 n2 c2)
          have ofW := ofV.setRow (cs' := (rfa s2 K2 n2 c2))
          have orW := RF2.own orV (fun e => by have h : w.heap.size + 1 = w.heap.size := e; omega)
          have hbW := bl_setRow (g := w.heap.size) (cs := (rfa s2 K2 n2 c2)) hbV (Nat.le_refl _)
          have tyf : ∀ i, Typed V i 5 → ¬ i = w.heap.size := fun i ht e => ht.ne ofV.typed (Ne.symm rf_types.1) e
          have btW := (btV.rest RF2 (fun i _ ht => tyf i ht) (Nat.le_refl _)).more RF2.size
          have okW : ∀ y ∈ L, y.Ok _ _ := fun y hy => ((okV y hy).rest RF2 (fun i _ ht => tyf i ht) (Nat.le_refl _)).more RF2.size
          have okW2 : ∀ y ∈ L2, y.Ok _ _ := fun y hy => ((okV2 y hy).rest RF2 (fun i _ ht => tyf i ht) (Nat.le_refl _)).more RF2.size
          have rowW := row_rest rowV RF2 (fun j hj e => (row_typed rowV hj).1.ne ofV.typed (Ne.symm rf_types2) e)
          have rwW := row_rest rwV RF2 (fun j hj e => (row_typed rwV hj).1.ne ofV.typed (Ne.symm rf_types2) e)
          have HRow := Lib.hid rowW
          have HSh := Lib.hid (Shows.of_own rwW)
          have hszW : w.heap.size ≤ (V.setRow w.heap.size (rfa s2 K2 n2 c2)).heap.size := hbW.size
          clear okV okV2 rowV rwV btV tyf rwW hbV RF2 orV
          go_wp2_with (first | (refine wpList_load_row rfl 34 _ rfl xb rfl 34 (rfa s2 K2 n2 c2) (0, 0) (.struct (Tryd.prog.fieldsOf 34)) oxV rf_desc rfl (rfa_info _ _ _ _) ?_) | (refine wpList_store_row rfl 34 _ _ rfl w.heap.size (rfa s2 K2 n2 c2) rfl rfl 34 (rfa s1 K1 n1 c1) ofV (rfa_info _ _ _ _) rfl (rfa_one _ _ _ _) ?_) | (at_builtin; refine wpList_append_grow _ rfl _ _ rfl sl_revs w.heap.size _ L.length (flatE L) rfl HRow.out _ A2 L2.length c3 (flatE L2) rfl flatE_len HSh.out (flatE_one _) (by unfold maxLen; omega) (by omega) hszW ?_; intro v6 w6 hrow6 hg6))
          have R6 : Rest _ w6 (fun i => Value.ownBlock _ = some i) := Rest.of_grown hg6 (fun j hj => hj)
          have ty6 : ∀ i T, T ≠ 51 → Typed (V.setRow w.heap.size (rfa s2 K2 n2 c2)) i T → ¬ (Value.ownBlock _ = some i) := fun i T hT ht e => (row_typed rowW e).1.ne ht (Ne.symm hT) rfl
          have hfin : RfI (ZF w s K) w w6 (s2, ps ++ p2) K2 n2 c2 (L ++ L2) v6 := by
            refine ⟨R6.own ofW (ty6 _ _ rf_types2 ofW.typed), R6.own orW (ty6 _ _ rf_types2 orW.typed), (btW.rest R6 (fun i _ ht => ty6 i _ (Ne.symm rf_types.2) ht) (Nat.le_refl _)).more R6.size, .inl HZ2.out, fun y hy => (List.mem_append.1 hy).elim (HLB.out y) (HLB2.out y), by rw [List.map_append, hL, hL2], by rw [List.length_append, flatE_append]; exact hrow6, fun y hy => ?_, hbW.grown hg6 hbW.size (fun j hj => (row_typed rowW hj).2)⟩
            rcases List.mem_append.1 hy with hy | hy
            · exact ((okW y hy).rest R6 (fun i _ ht => ty6 i _ (Ne.symm rf_types.2) ht) (Nat.le_refl _)).more R6.size
            · exact ((okW2 y hy).rest R6 (fun i _ ht => ty6 i _ (Ne.symm rf_types.2) ht) (Nat.le_refl _)).more R6.size
          have HF := Lib.hid hfin
          clear hfin ty6 R6 hrow6 hg6 rowW okW okW2 btW ofW orW hbW HSh HRow oxV
          go_roundw
          case rel => exact ⟨k + 1, K2, n2, c2, L ++ L2, by omega, by go_num, by rw [HT2.out]; exact HF.out⟩
          case measure => simp [intOf]; omega
        · go_simp
          have b1 := bl_alloc (bl_refl wr).drew (.cells #[.bool false, .bool false, .bool false, .bool false, .bool false, .bool false, .slice none 0 0, .int .i64 0, .bool false, .int .i64 0] 34)
          have ox1 : Own (wr.drew.alloc (.cells #[.bool false, .bool false, .bool false, .bool false, .bool false, .bool false, .slice none 0 0, .int .i64 0, .bool false, .int .i64 0] 34)) wr.heap.size 34 #[.bool false, .bool false, .bool false, .bool false, .bool false, .bool false, .slice none 0 0, .int .i64 0, .bool false, .int .i64 0] := Own.new wr.drew 34 #[.bool false, .bool false, .bool false, .bool false, .bool false, .bool false, .slice none 0 0, .int .i64 0, .bool false, .int .i64 0]
          refine hK.out _ _ (HS.out _ b1) (fun hHeld2 => ?_)
          clear hK K hHeld
          have hHeld := hHeld2
          clear hHeld2
          try simp only [Act.put, List.getElem_toArray, List.getElem_cons_zero, List.getElem_cons_succ, List.setIfInBounds_toArray, List.set_cons_zero, List.set_cons_succ]
          refine wpAnyH_ready (rs := [5]) (by kernel_rfl) (by simp) ?_
          refine AllReadyH.cons rfl (fun K hK => ?_) AllReadyH.nil
          go_simp
          have hWs := b1.size
          (go_at_call 26; refine (HC.out _ b1).mono ?_; rintro e w3 ⟨K2, n2, c2, A2, c3, L2, rfl, hbt2, hZ2, hLB2, hL2, hrw2, hok2, hb3⟩)
          have HZ2 := Lib.hid (hZ2.low (show w.heap.size ≤ _ from Nat.le_trans hb.size hWs))
          have HLB2 := Lib.hid (fun (y : Ev) (hy : y ∈ L2) => show y.Lo w.heap.size from ⟨(hLB2 y hy).1.low (Nat.le_trans hb.size hWs), (hLB2 y hy).2.low (Nat.le_trans hb.size hWs)⟩)
          clear hZ2 hLB2 hWs
          have hL2n : L2.length ≤ 1 := by have h2 := congrArg List.length hL2; rw [List.length_map] at h2; have := (FS.step_evs s1 x).1; omega
          have b3 : Below wr.heap.size wr w3 := bl_trans b1 hb3
          refine hK.out _ _ (HS.out _ b3) (fun hHeld2 => ?_)
          clear hK K hHeld
          have hHeld := hHeld2
          clear hHeld2
          try simp only [Act.put, List.getElem_toArray, List.getElem_cons_zero, List.getElem_cons_succ, List.setIfInBounds_toArray, List.set_cons_zero, List.set_cons_succ]
          refine wpAnyH_take (i := 6) (v := ?_) rfl (by kernel_rfl) (by kernel_rfl) (by kernel_rfl) (fun _ _ _ h => h) (Or.inl ⟨by rfl, ?_⟩) (by assumption) ?_
          rotate_left
          · (intro W hSw; obtain ⟨s0, s1⟩ := hSw; go_simp; try with_reducible rfl)
          simp only [Act.put, List.getElem_toArray, List.getElem_cons_zero, List.getElem_cons_succ, List.setIfInBounds_toArray, List.set_cons_zero, List.set_cons_succ]
          refine wpAnyH_take (i := 7) (v := ?_) rfl (by kernel_rfl) (by kernel_rfl) (by kernel_rfl) (fun _ _ _ h => h) (Or.inl ⟨by rfl, ?_⟩) (by assumption) ?_
          rotate_left
          · (intro W hSw; obtain ⟨s0, s1⟩ := hSw; go_simp; try with_reducible rfl)
          simp only [Act.put, List.getElem_toArray, List.getElem_cons_zero, List.getElem_cons_succ, List.setIfInBounds_toArray, List.set_cons_zero, List.set_cons_succ]
          refine wpAnyH_take (i := 8) (v := ?_) rfl (by kernel_rfl) (by kernel_rfl) (by kernel_rfl) (fun _ _ _ h => h) (Or.inl ⟨by rfl, ?_⟩) (by assumption) ?_
          rotate_left
          · (intro W hSw; obtain ⟨s0, s1⟩ := hSw; go_simp; try with_reducible rfl)
          simp only [Act.put, List.getElem_toArray, List.getElem_cons_zero, List.getElem_cons_succ, List.setIfInBounds_toArray, List.set_cons_zero, List.set_cons_succ]
          have oxA := ox1.step hb3
          have RA := Rest.setRowF w3 wr.heap.size (rfa (s1.step x).1 K2 n2 c2)
          have bV := bl_setRow (g := wr.heap.size) (cs := rfa (s1.step x).1 K2 n2 c2) b3 (Nat.le_refl _)
          have oxV := oxA.setRow (cs' := rfa (s1.step x).1 K2 n2 c2)
          have tyA : ∀ i, Typed w3 i 5 → ¬ i = wr.heap.size := fun i ht e => ht.ne oxA.typed (Ne.symm rf_types.1) e
          have btV := (hbt2.rest RA (fun i _ ht => tyA i ht) (Nat.le_refl _)).more RA.size
          have okV2 : ∀ y ∈ L2, y.Ok _ _ := fun y hy => ((hok2 y hy).rest RA (fun i _ ht => tyA i ht) (Nat.le_refl _)).more RA.size
          have rwV := row_rest hrw2 RA (fun j hj e => (row_typed hrw2 hj).1.ne oxA.typed (Ne.symm rf_types2) e)
          have hs3 := b3.size
          refine wpAnyH_ready (rs := [10]) (by kernel_rfl) (by simp) ?_
          refine AllReadyH.cons rfl (fun K hK => ?_) AllReadyH.nil
          refine step_store_rowF rfl _ _ _ rfl _ (rfa (s1.step x).1 K2 n2 c2) rfl rfl 34 #[.bool false, .bool false, .bool false, .bool false, .bool false, .bool false, .slice none 0 0, .int .i64 0, .bool false, .int .i64 0] oxA (rfa_info _ _ _ _) rfl (rfa_one _ _ _ _) ?_
          refine hK.out _ _ (HS.out _ bV) (fun hHeld2 => ?_)
          clear hK K hHeld
          have hHeld := hHeld2
          clear hHeld2
          try simp only [Act.put, List.getElem_toArray, List.getElem_cons_zero, List.getElem_cons_succ]
          clear hbt2 hok2 hrw2 hb3 b3 b1 ox1 oxA RA tyA
          refine wpAnyH_take (i := 11) (v := ?_) rfl (by kernel_rfl) (by kernel_rfl) (by kernel_rfl) (fun _ _ _ h => h) (Or.inl ⟨by rfl, ?_⟩) (by assumption) ?_
          rotate_left
          · (intro W hSw; obtain ⟨s0, s1⟩ := hSw; go_simp; try with_reducible rfl)
          simp only [Act.put, List.getElem_toArray, List.getElem_cons_zero, List.getElem_cons_succ, List.setIfInBounds_toArray, List.set_cons_zero, List.set_cons_succ]
          refine wpAnyH_done (by kernel_rfl) ?_ _
          refine NoPanic.normal ?_
          clear HC HS hcx hHeld
          generalize (s1.step x).1 = s2 at *
          generalize (s1.step x).2 = p2 at *
          have ofV := of1.step bV
          have orV := or1.step bV
          have hbV := bl_trans hb bV
          have okV : ∀ y ∈ L, y.Ok _ _ := fun y hy => ((hok y hy).below bV (Nat.le_refl _)).more bV.size
          have rowV := own_belowG hrow bV
          have hzV : w.heap.size + 2 ≤ wr.heap.size := hz
          have hlL := hLn.out
          have hl2 := hL2n
          clear of1 or1 hb hok hrow bV hbt
          generalize (w3.setRow wr.heap.size (rfa s2 K2 n2 c2)) = V at *
          obtain ⟨xb, hxb⟩ : ∃ z, z = wr.heap.size := ⟨_, rfl⟩
          have hxf : ¬ xb = w.heap.size := by omega
          rw [← hxb] at oxV ⊢
          clear hxb
          have RF2 := Rest.setRowF V w.heap.size (rfa s2 K2 n2 c2)
          have ofW := ofV.setRow (cs' := (rfa s2 K2 n2 c2))
          have orW := RF2.own orV (fun e => by have h : w.heap.size + 1 = w.heap.size := e; omega)
          have hbW := bl_setRow (g := w.heap.size) (cs := (rfa s2 K2 n2 c2)) hbV (Nat.le_refl _)
          have tyf : ∀ i, Typed V i 5 → ¬ i = w.heap.size := fun i ht e => ht.ne ofV.typed (Ne.symm rf_types.1) e
          have btW := (btV.rest RF2 (fun i _ ht => tyf i ht) (Nat.le_refl _)).more RF2.size
          have okW : ∀ y ∈ L, y.Ok _ _ := fun y hy => ((okV y hy).rest RF2 (fun i _ ht => tyf i ht) (Nat.le_refl _)).more RF2.size
          have okW2 : ∀ y ∈ L2, y.Ok _ _ := fun y hy => ((okV2 y hy).rest RF2 (fun i _ ht => tyf i ht) (Nat.le_refl _)).more RF2.size
          have rowW := row_rest rowV RF2 (fun j hj e => (row_typed rowV hj).1.ne ofV.typed (Ne.symm rf_types2) e)
          have rwW := row_rest rwV RF2 (fun j hj e => (row_typed rwV hj).1.ne ofV.typed (Ne.symm rf_types2) e)
          have HRow := Lib.hid rowW
          have HSh := Lib.hid (Shows.of_own rwW)
          have hszW : w.heap.size ≤ (V.setRow w.heap.size (rfa s2 K2 n2 c2)).heap.size := hbW.size
          clear okV okV2 rowV rwV btV tyf rwW hbV RF2 orV
          go_wp2_with (first | (refine wpList_load_row rfl 34 _ rfl xb rfl 34 (rfa s2 K2 n2 c2) (0, 0) (.struct (Tryd.prog.fieldsOf 34)) oxV rf_desc rfl (rfa_info _ _ _ _) ?_) | (refine wpList_store_row rfl 34 _ _ rfl w.heap.size (rfa s2 K2 n2 c2) rfl rfl 34 (rfa s1 K1 n1 c1) ofV (rfa_info _ _ _ _) rfl (rfa_one _ _ _ _) ?_) | (at_builtin; refine wpList_append_grow _ rfl _ _ rfl sl_revs w.heap.size _ L.length (flatE L) rfl HRow.out _ A2 L2.length c3 (flatE L2) rfl flatE_len HSh.out (flatE_one _) (by unfold maxLen; omega) (by omega) hszW ?_; intro v6 w6 hrow6 hg6))
          have R6 : Rest _ w6 (fun i => Value.ownBlock _ = some i) := Rest.of_grown hg6 (fun j hj => hj)
          have ty6 : ∀ i T, T ≠ 51 → Typed (V.setRow w.heap.size (rfa s2 K2 n2 c2)) i T → ¬ (Value.ownBlock _ = some i) := fun i T hT ht e => (row_typed rowW e).1.ne ht (Ne.symm hT) rfl
          have hfin : RfI (ZF w s K) w w6 (s2, ps ++ p2) K2 n2 c2 (L ++ L2) v6 := by
            refine ⟨R6.own ofW (ty6 _ _ rf_types2 ofW.typed), R6.own orW (ty6 _ _ rf_types2 orW.typed), (btW.rest R6 (fun i _ ht => ty6 i _ (Ne.symm rf_types.2) ht) (Nat.le_refl _)).more R6.size, .inl HZ2.out, fun y hy => (List.mem_append.1 hy).elim (HLB.out y) (HLB2.out y), by rw [List.map_append, hL, hL2], by rw [List.length_append, flatE_append]; exact hrow6, fun y hy => ?_, hbW.grown hg6 hbW.size (fun j hj => (row_typed rowW hj).2)⟩
            rcases List.mem_append.1 hy with hy | hy
            · exact ((okW y hy).rest R6 (fun i _ ht => ty6 i _ (Ne.symm rf_types.2) ht) (Nat.le_refl _)).more R6.size
            · exact ((okW2 y hy).rest R6 (fun i _ ht => ty6 i _ (Ne.symm rf_types.2) ht) (Nat.le_refl _)).more R6.size
          have HF := Lib.hid hfin
          clear hfin ty6 R6 hrow6 hg6 rowW okW okW2 btW ofW orW hbW HSh HRow oxV
          go_roundw
          case rel => exact ⟨k + 1, K2, n2, c2, L ++ L2, by omega, by go_num, by rw [HT2.out]; exact HF.out⟩
          case measure => simp [intOf]; omega
    · have HE := Lib.hid (show (s1, ps) = s.feed xs from HE0.out (by omega))
      clear HT HSt HE0
      obtain ⟨A0, c0, rfl⟩ := own_form hrow
      have R9 := Rest.setRowF wr (w.heap.size + 1) (rfa s1 K1 n1 c1)
      have hfin : OneX (ZF w s K) s1 ps w (.returned (.tuple #[.agg (rfa s1 K1 n1 c1), .slice A0 L.length c0])) (wr.setRow (w.heap.size + 1) (rfa s1 K1 n1 c1)) := ⟨K1, n1, c1, A0, c0, L, rfl, (hbt.rest R9 (fun i _ ht e => ht.ne or1.typed (Ne.symm rf_types.1) e) (Nat.le_refl _)).more R9.size, HZ.out, HLB.out, hL, row_rest hrow R9 (fun j hj e => (row_typed hrow hj).1.ne or1.typed (Ne.symm rf_types2) e), (fun y hy => ((hok y hy).rest R9 (fun i _ ht e => ht.ne or1.typed (Ne.symm rf_types.1) e) (Nat.le_refl _)).more R9.size), bl_setRow (g := w.heap.size + 1) (cs := (rfa s1 K1 n1 c1)) hb (by omega)⟩
      have HF := Lib.hid hfin
      clear hfin R9 hrow hok hbt hb hL
      go_wp2_with (first | (refine wpList_load_row rfl 34 _ rfl w.heap.size rfl 34 (rfa s1 K1 n1 c1) (0, 0) (.struct (Tryd.prog.fieldsOf 34)) of1 rf_desc rfl (rfa_info _ _ _ _) ?_) | (refine wpList_store_row rfl 34 _ _ rfl (w.heap.size + 1) (rfa s1 K1 n1 c1) rfl rfl 34 #[.bool false, .bool false, .bool false, .bool false, .bool false, .bool false, .slice none 0 0, .int .i64 0, .bool false, .int .i64 0] or1 (rfa_info _ _ _ _) rfl (rfa_one _ _ _ _) ?_))
      rw [← HE.out]
      exact bodyPost_ret (results_cell_tmpF (p := 4) (t := 5) (fn := Tryd.f11) rfl _ _ (w.heap.size + 1) 34 (rfa s1 K1 n1 c1) _ rfl or1.setRow rf_desc rfl (rfa_info _ _ _ _)) rfl HF.out
end Go.Proofs.YtgahjchngmojlabDoor
