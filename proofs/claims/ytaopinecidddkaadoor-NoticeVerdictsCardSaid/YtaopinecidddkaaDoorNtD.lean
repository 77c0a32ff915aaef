/- The table of names; notice.Name and its reference -/
import Derived.Test.YtaopinecidddkaaDoorNtA
import Derived.Deep.MidRow
namespace Go.Proofs.YtaopinecidddkaaDoor
open Go.RowKit Go.Sort

def b0 : ByteArray := ⟨#[]⟩
/-- The names of the errors: a row a code. -/
def NT : List (List ByteArray) := [
  [b0, b0, b0, b0, b0, b0, b0, b0, b0, b0, b0, b0],
  [⟨#[104, 101, 97, 100, 101, 114]⟩, ⟨#[109, 97, 114, 107, 101, 114]⟩, ⟨#[108, 101, 110, 103, 116, 104]⟩, ⟨#[116, 121, 112, 101]⟩, b0, b0, b0, b0, b0, b0, b0, b0],
  [⟨#[111, 112, 101, 110]⟩, ⟨#[118, 101, 114, 115, 105, 111, 110]⟩, ⟨#[112, 101, 101, 114]⟩, ⟨#[105, 100, 101, 110, 116, 105, 102, 105, 101, 114]⟩, ⟨#[112, 97, 114, 97, 109, 101, 116, 101, 114]⟩, b0, ⟨#[104, 111, 108, 100]⟩, b0, b0, b0, b0, b0],
  [⟨#[117, 112, 100, 97, 116, 101]⟩, ⟨#[97, 116, 116, 114, 105, 98, 117, 116, 101, 115]⟩, ⟨#[117, 110, 114, 101, 99, 111, 103, 110, 105, 122, 101, 100]⟩, ⟨#[109, 105, 115, 115, 105, 110, 103]⟩, ⟨#[102, 108, 97, 103, 115]⟩, ⟨#[115, 105, 122, 101]⟩, ⟨#[111, 114, 105, 103, 105, 110]⟩, b0, ⟨#[110, 101, 120, 116, 104, 111, 112]⟩, ⟨#[111, 112, 116, 105, 111, 110, 97, 108]⟩, ⟨#[110, 101, 116, 119, 111, 114, 107]⟩, ⟨#[112, 97, 116, 104]⟩],
  [⟨#[116, 105, 109, 101, 114]⟩, b0, b0, b0, b0, b0, b0, b0, b0, b0, b0, b0],
  [⟨#[115, 116, 97, 116, 101]⟩, b0, b0, b0, b0, b0, b0, b0, b0, b0, b0, b0],
  [⟨#[99, 101, 97, 115, 101]⟩, b0, b0, b0, b0, b0, b0, b0, b0, b0, b0, b0]]
/-- What the walks ask of the table. -/
def NNames (w : World) : Prop := (∀ c, c < 7 → w.rangeAt 3 (c * 12) ((NT.getD c []).map Value.string)) ∧ 3 < w.heap.size
theorem NNames.below {w w' : World} (h : NNames w) (hb : Below w.heap.size w w') : NNames w' :=
  ⟨fun c hc j u hu => (hb.cell (by exact h.2)).trans (h.1 c hc j u hu), Nat.lt_of_lt_of_le h.2 hb.size⟩
theorem NNames.alloc {w : World} (h : NNames w) (o : Obj) : NNames (w.alloc o) := h.below (bl_alloc (bl_refl w) o)
def nameR (c : Nat) : List ByteArray := NT.getD c []
def nameAt (c k : Nat) : ByteArray := (nameR c).getD k b0
theorem nameR_len {c : Nat} (h : c < 7) : (nameR c).length = 12 := by
  have : ∀ c : Fin 7, (nameR c.val).length = 12 := by decide +kernel
  exact this ⟨c, h⟩
theorem nameAt_some {c k : Nat} (h : c < 7) (hk : k < 12) : (nameR c)[k]? = some (nameAt c k) := by
  unfold nameAt
  rw [List.getD_eq_getElem?_getD, List.getElem?_eq_getElem (by rw [nameR_len h]; exact hk)]; rfl
theorem NNames.cell {w : World} (h : NNames w) {c k : Nat} (hc : c < 7) (hk : k < 12) : w.cell? ⟨3, c * 12 + k, none⟩ = some (.string (nameAt c k)) :=
  h.1 c hc k _ (by rw [List.getElem?_map]; show Option.map _ ((nameR c)[k]?) = _; rw [nameAt_some hc hk]; rfl)
/-- What stands behind a name's head. -/
def nameTail (c : Nat) (s : Int) : ByteArray := if 1 ≤ s ∧ s < 12 ∧ nameAt c s.toNat ≠ b0 then ⟨#[47]⟩ ++ nameAt c s.toNat else b0
def ntName (c s : Int) : ByteArray := if 1 ≤ c ∧ c < 7 then nameAt c.toNat 0 ++ nameTail c.toNat s else ⟨#[101, 114, 114, 111, 114]⟩
theorem nameAt_head {c : Nat} (h0 : 1 ≤ c) (h : c < 7) : nameAt c 0 ≠ b0 := by
  have : ∀ c : Fin 7, 1 ≤ c.val → nameAt c.val 0 ≠ b0 := by decide +kernel
  exact this ⟨c, h⟩ h0
theorem str_ne {x : ByteArray} (h : x ≠ b0) : x.toList ≠ [] := fun e => h (by
  rw [ByteArray.toList_eq] at e
  obtain ⟨d⟩ := x
  have : d = #[] := by simpa using e
  rw [this]; rfl)
theorem str_ne2 {x : ByteArray} (h : x ≠ b0) : x.toList.isEmpty = false := by
  cases e : x.toList with
  | nil => exact absurd e (str_ne h)
  | cons a l => rfl
theorem nameAt_zero : nameAt 0 0 = b0 := rfl
theorem nameAt_size {c k : Nat} (h : c < 7) (hk : k < 12) : (nameAt c k).size ≤ 12 := by
  have : ∀ (c : Fin 7) (k : Fin 12), (nameAt c.val k.val).size ≤ 12 := by decide +kernel
  exact this ⟨c, h⟩ ⟨k, hk⟩
set_option maxRecDepth 100000 in
theorem nt12_desc : Tryd.prog.underlying 152 = some (.array 12 9) := by kernel_rfl
set_option maxRecDepth 100000 in
theorem nt12_info {R : List Value} (h : R.length = 12) : (Tryd.prog.info? 152).map (·.size) = some R.length := by rw [h]; kernel_rfl
set_option maxRecDepth 100000 in
theorem nt12_info2 {R : Array Value} (h : R.size = 12) : (Tryd.prog.info? 152).map (·.size) = some R.size := by rw [h]; kernel_rfl
theorem nt12_one (R : List ByteArray) : (R.map Value.string).toArray.all (·.oneCell') = true := by
  rw [Array.all_eq_true_iff_forall_mem]
  intro v hv
  simp at hv
  obtain ⟨x, _, rfl⟩ := hv
  rfl
set_option maxRecDepth 100000 in
set_option maxHeartbeats 1600000 in
theorem name_error (c s : Int) (w : World) (ht : NNames w) (hc : c < 1 ∨ 7 ≤ c) :
    Calls Tryd.prog 84 #[.int .i64 c, .int .i64 s] w fun e w' => e = .returned (.string ⟨#[101, 114, 114, 111, 114]⟩) ∧ w = w' := by
  rcases (show c < 0 ∨ c = 0 ∨ 7 ≤ c by omega) with h | h | h
  · have d0 : decide (c < 0) = true := by simpa using h
    go_enter Tryd.func84, Tryd.ntmps84
    go_wp2
    go_ret
    exact ⟨rfl, rfl⟩
  · subst h
    have e0 := ht.cell (c := 0) (k := 0) (by omega) (by omega)
    rw [nameAt_zero] at e0
    unfold b0 at e0
    clear ht hc
    go_enter Tryd.func84, Tryd.ntmps84
    go_wp2
    go_ret
    exact ⟨rfl, rfl⟩
  · have d0 : decide (c < 0) = false := by simp; omega
    have d1 : decide (7 ≤ c) = true := by simpa using h
    go_enter Tryd.func84, Tryd.ntmps84
    go_wp2
    go_ret
    exact ⟨rfl, rfl⟩
def Z12 : Array Value := #[.string ⟨#[]⟩, .string ⟨#[]⟩, .string ⟨#[]⟩, .string ⟨#[]⟩, .string ⟨#[]⟩, .string ⟨#[]⟩, .string ⟨#[]⟩, .string ⟨#[]⟩, .string ⟨#[]⟩, .string ⟨#[]⟩, .string ⟨#[]⟩, .string ⟨#[]⟩]
set_option maxRecDepth 100000 in
set_option maxHeartbeats 1600000 in
theorem name_row (c : Nat) (s : Int) (w : World) (ht : NNames w) (h1 : 1 ≤ c) (h7 : c < 7) :
    Calls Tryd.prog 84 #[.int .i64 c, .int .i64 s] w fun e w' => e = .returned (.string (nameAt c 0 ++ nameTail c s)) ∧ Below w.heap.size w w' := by
  have e0 := ht.cell (c := c) (k := 0) h7 (by omega)
  rw [Nat.add_zero] at e0
  have hne := str_ne (nameAt_head h1 h7)
  have hne2 := str_ne2 (nameAt_head h1 h7)
  have d0 : decide ((c : Int) < 0) = false := by simp
  have d1 : decide (7 ≤ (c : Int)) = false := by simp; omega
  have hR := Lib.hid (show w.rangeAt 3 (c * 12) ((nameR c).map Value.string) from ht.1 c h7)
  have hL := Lib.hid (nameR_len h7)
  have hA : ∀ k, k < 12 → (nameR c)[k]? = some (nameAt c k) := fun k hk => nameAt_some h7 hk
  have hHd := Lib.hid (hA 0 (by omega))
  have hz0 := nameAt_size (k := 0) h7 (by omega)
  generalize hr0 : nameAt c 0 = r0 at *
  have o5 := Own.new w 152 Z12
  have hb0 := bl_alloc (bl_refl w) (.cells Z12 152)
  unfold Z12 at o5 hb0
  have hold := Lib.hid (show Z12.size = ((nameR c).map Value.string).toArray.size by simp [Z12, hL.out])
  by_cases hs : 1 ≤ s ∧ s < 12
  · obtain ⟨k, rfl⟩ := Int.eq_ofNat_of_zero_le (show 0 ≤ s by omega)
    have hk1 : 1 ≤ k := by omega
    have hk2 : k < 12 := by omega
    have hK := Lib.hid (hA k hk2)
    have HT := Lib.hid (show nameTail c (k : Int) = if nameAt c k ≠ b0 then ⟨#[47]⟩ ++ nameAt c k else b0 by
      unfold nameTail
      rw [Int.toNat_natCast]
      by_cases hz : nameAt c k ≠ b0
      · rw [if_pos ⟨hs.1, hs.2, hz⟩, if_pos hz]
      · rw [if_neg (fun h => hz h.2.2), if_neg hz])
    have hsz := nameAt_size h7 hk2
    have hs1 : (1 : Int) ≤ (k : Int) := by omega
    have hs2 : (k : Int) < 12 := by omega
    clear hA hs
    generalize nameAt c k = x at *
    have n1 : ¬ 9223372036854775807 < 1 + x.size := by omega
    have n2 : ¬ 9223372036854775807 < r0.size + (1 + x.size) := by omega
    have n3 : ¬ 9223372036854775807 < r0.size := by omega
    by_cases hx : x = b0
    · subst hx
      have HT2 := Lib.hid (show nameTail c (k : Int) = b0 by rw [HT.out]; simp)
      unfold b0 at *
      go_enter Tryd.func84, Tryd.ntmps84
      go_wp2_with (first
        | (refine wpList_load_mid rfl 152 _ rfl 3 (c * 12) rfl ((nameR c).map Value.string) _ hR.out nt12_desc rfl (nt12_info (by rw [List.length_map, hL.out])) ?_)
        | (refine wpList_store_row rfl 152 _ _ rfl w.heap.size ((nameR c).map Value.string).toArray rfl rfl 152 Z12 o5 (nt12_info2 (by simp [hL.out])) hold.out (nt12_one _) ?_; have o6 := o5.setRow (cs' := ((nameR c).map Value.string).toArray); have hb6 := bl_setRow (cs := ((nameR c).map Value.string).toArray) hb0 (Nat.le_refl _); have c0 := o6.cell (i := 0) (v := .string r0) (by simp [hHd.out]); have c1 := o6.cell (i := k) (v := .string ⟨#[]⟩) (by simp [hK.out]); generalize (w.alloc (.cells #[.string ⟨#[]⟩, .string ⟨#[]⟩, .string ⟨#[]⟩, .string ⟨#[]⟩, .string ⟨#[]⟩, .string ⟨#[]⟩, .string ⟨#[]⟩, .string ⟨#[]⟩, .string ⟨#[]⟩, .string ⟨#[]⟩, .string ⟨#[]⟩, .string ⟨#[]⟩] 152)).setRow w.heap.size ((nameR c).map Value.string).toArray = V at *))
      go_wp2
      go_ret
      refine ⟨?_, hb6⟩
      rw [HT2.out]
      rfl
    · have hx1 := str_ne hx
      have hx2 := str_ne2 hx
      have HT2 := Lib.hid (show nameTail c (k : Int) = ⟨#[47]⟩ ++ x by rw [HT.out, if_pos hx])
      clear HT hx
      go_enter Tryd.func84, Tryd.ntmps84
      go_wp2_with (first
        | (refine wpList_load_mid rfl 152 _ rfl 3 (c * 12) rfl ((nameR c).map Value.string) _ hR.out nt12_desc rfl (nt12_info (by rw [List.length_map, hL.out])) ?_)
        | (refine wpList_store_row rfl 152 _ _ rfl w.heap.size ((nameR c).map Value.string).toArray rfl rfl 152 Z12 o5 (nt12_info2 (by simp [hL.out])) hold.out (nt12_one _) ?_; have o6 := o5.setRow (cs' := ((nameR c).map Value.string).toArray); have hb6 := bl_setRow (cs := ((nameR c).map Value.string).toArray) hb0 (Nat.le_refl _); have c0 := o6.cell (i := 0) (v := .string r0) (by simp [hHd.out]); have c1 := o6.cell (i := k) (v := .string x) (by simp [hK.out]); generalize (w.alloc (.cells #[.string ⟨#[]⟩, .string ⟨#[]⟩, .string ⟨#[]⟩, .string ⟨#[]⟩, .string ⟨#[]⟩, .string ⟨#[]⟩, .string ⟨#[]⟩, .string ⟨#[]⟩, .string ⟨#[]⟩, .string ⟨#[]⟩, .string ⟨#[]⟩, .string ⟨#[]⟩] 152)).setRow w.heap.size ((nameR c).map Value.string).toArray = V at *))
      go_wp2
      go_ret
      refine ⟨?_, hb6⟩
      rw [HT2.out]
      rfl
  · have HT := Lib.hid (show nameTail c s = b0 by unfold nameTail; rw [if_neg (fun h => hs ⟨h.1, h.2.1⟩)])
    have n3 : ¬ 9223372036854775807 < r0.size := by omega
    have hd : (decide (1 ≤ s) && decide (s < 12)) = false := by simp; omega
    by_cases h1s : 1 ≤ s
    · have d4 : decide (1 ≤ s) = true := by simpa using h1s
      have d5 : decide (s < 12) = false := by simp; omega
      clear hs hd h1s
      go_enter Tryd.func84, Tryd.ntmps84
      go_wp2_with (first
        | (refine wpList_load_mid rfl 152 _ rfl 3 (c * 12) rfl ((nameR c).map Value.string) _ hR.out nt12_desc rfl (nt12_info (by rw [List.length_map, hL.out])) ?_)
        | (refine wpList_store_row rfl 152 _ _ rfl w.heap.size ((nameR c).map Value.string).toArray rfl rfl 152 Z12 o5 (nt12_info2 (by simp [hL.out])) hold.out (nt12_one _) ?_; have o6 := o5.setRow (cs' := ((nameR c).map Value.string).toArray); have hb6 := bl_setRow (cs := ((nameR c).map Value.string).toArray) hb0 (Nat.le_refl _); have c0 := o6.cell (i := 0) (v := .string r0) (by simp [hHd.out]);  generalize (w.alloc (.cells #[.string ⟨#[]⟩, .string ⟨#[]⟩, .string ⟨#[]⟩, .string ⟨#[]⟩, .string ⟨#[]⟩, .string ⟨#[]⟩, .string ⟨#[]⟩, .string ⟨#[]⟩, .string ⟨#[]⟩, .string ⟨#[]⟩, .string ⟨#[]⟩, .string ⟨#[]⟩] 152)).setRow w.heap.size ((nameR c).map Value.string).toArray = V at *))
      go_wp2
      go_ret
      refine ⟨?_, hb6⟩
      rw [HT.out]
      rfl
    · have d4 : decide (1 ≤ s) = false := by simpa using h1s
      clear hs hd h1s
      go_enter Tryd.func84, Tryd.ntmps84
      go_wp2_with (first
        | (refine wpList_load_mid rfl 152 _ rfl 3 (c * 12) rfl ((nameR c).map Value.string) _ hR.out nt12_desc rfl (nt12_info (by rw [List.length_map, hL.out])) ?_)
        | (refine wpList_store_row rfl 152 _ _ rfl w.heap.size ((nameR c).map Value.string).toArray rfl rfl 152 Z12 o5 (nt12_info2 (by simp [hL.out])) hold.out (nt12_one _) ?_; have o6 := o5.setRow (cs' := ((nameR c).map Value.string).toArray); have hb6 := bl_setRow (cs := ((nameR c).map Value.string).toArray) hb0 (Nat.le_refl _); have c0 := o6.cell (i := 0) (v := .string r0) (by simp [hHd.out]);  generalize (w.alloc (.cells #[.string ⟨#[]⟩, .string ⟨#[]⟩, .string ⟨#[]⟩, .string ⟨#[]⟩, .string ⟨#[]⟩, .string ⟨#[]⟩, .string ⟨#[]⟩, .string ⟨#[]⟩, .string ⟨#[]⟩, .string ⟨#[]⟩, .string ⟨#[]⟩, .string ⟨#[]⟩] 152)).setRow w.heap.size ((nameR c).map Value.string).toArray = V at *))
      go_wp2
      go_ret
      refine ⟨?_, hb6⟩
      rw [HT.out]
      rfl
set_option maxRecDepth 100000 in
theorem ntname_any (c s : Int) (w : World) (ht : NNames w) :
    Calls Tryd.prog 84 #[.int .i64 c, .int .i64 s] w fun e w' => e = .returned (.string (ntName c s)) ∧ Below w.heap.size w w' := by
  unfold ntName
  by_cases h : 1 ≤ c ∧ c < 7
  · rw [if_pos h]
    obtain ⟨k, rfl⟩ := Int.eq_ofNat_of_zero_le (show 0 ≤ c by omega)
    rw [Int.toNat_natCast]
    exact name_row k s w ht (by omega) (by omega)
  · rw [if_neg h]
    exact (name_error c s w ht (by omega)).mono fun e w' h => ⟨h.1, by rw [← h.2]; exact bl_refl w⟩

def subs1 : List ByteArray := [b0, ⟨#[109, 97, 114, 107, 101, 114]⟩, ⟨#[108, 101, 110, 103, 116, 104]⟩, ⟨#[116, 121, 112, 101]⟩]
theorem subs1_at {k : Nat} (h1 : 1 ≤ k) (h : k < 4) : subs1[k]? = some (nameAt 1 k) := by
  have : ∀ k : Fin 4, 1 ≤ k.val → subs1[k.val]? = some (nameAt 1 k.val) := by decide +kernel
  exact this ⟨k, h⟩ h1
theorem subs1_off {k : Nat} (h : 4 ≤ k) (h2 : k < 12) : nameAt 1 k = b0 := by
  have : ∀ k : Fin 12, 4 ≤ k.val → nameAt 1 k.val = b0 := by decide +kernel
  exact this ⟨k, h2⟩ h
def subs2 : List ByteArray := [b0, ⟨#[118, 101, 114, 115, 105, 111, 110]⟩, ⟨#[112, 101, 101, 114]⟩, ⟨#[105, 100, 101, 110, 116, 105, 102, 105, 101, 114]⟩, ⟨#[112, 97, 114, 97, 109, 101, 116, 101, 114]⟩, b0, ⟨#[104, 111, 108, 100]⟩]
theorem subs2_at {k : Nat} (h1 : 1 ≤ k) (h : k < 7) : subs2[k]? = some (nameAt 2 k) := by
  have : ∀ k : Fin 7, 1 ≤ k.val → subs2[k.val]? = some (nameAt 2 k.val) := by decide +kernel
  exact this ⟨k, h⟩ h1
theorem subs2_off {k : Nat} (h : 7 ≤ k) (h2 : k < 12) : nameAt 2 k = b0 := by
  have : ∀ k : Fin 12, 7 ≤ k.val → nameAt 2 k.val = b0 := by decide +kernel
  exact this ⟨k, h2⟩ h
def subs3 : List ByteArray := [b0, ⟨#[97, 116, 116, 114, 105, 98, 117, 116, 101, 115]⟩, ⟨#[117, 110, 114, 101, 99, 111, 103, 110, 105, 122, 101, 100]⟩, ⟨#[109, 105, 115, 115, 105, 110, 103]⟩, ⟨#[102, 108, 97, 103, 115]⟩, ⟨#[115, 105, 122, 101]⟩, ⟨#[111, 114, 105, 103, 105, 110]⟩, b0, ⟨#[110, 101, 120, 116, 104, 111, 112]⟩, ⟨#[111, 112, 116, 105, 111, 110, 97, 108]⟩, ⟨#[110, 101, 116, 119, 111, 114, 107]⟩, ⟨#[112, 97, 116, 104]⟩]
theorem subs3_at {k : Nat} (h1 : 1 ≤ k) (h : k < 12) : subs3[k]? = some (nameAt 3 k) := by
  have : ∀ k : Fin 12, 1 ≤ k.val → subs3[k.val]? = some (nameAt 3 k.val) := by decide +kernel
  exact this ⟨k, h⟩ h1
theorem subs3_off {k : Nat} (h : 12 ≤ k) (h2 : k < 12) : nameAt 3 k = b0 := by
  have : ∀ k : Fin 12, 12 ≤ k.val → nameAt 3 k.val = b0 := by decide +kernel
  exact this ⟨k, h2⟩ h
def heads7 : Array Value := #[.string ⟨#[]⟩, .string ⟨#[104, 101, 97, 100, 101, 114]⟩, .string ⟨#[111, 112, 101, 110]⟩, .string ⟨#[117, 112, 100, 97, 116, 101]⟩, .string ⟨#[116, 105, 109, 101, 114]⟩, .string ⟨#[115, 116, 97, 116, 101]⟩, .string ⟨#[99, 101, 97, 115, 101]⟩]
theorem tail_none (c : Nat) (s : Int) (h : s < 1 ∨ 12 ≤ s) : nameTail c s = b0 := by unfold nameTail; rw [if_neg (fun h2 => by omega)]
theorem tail_nat {c k : Nat} (h1 : 1 ≤ k) (h2 : k < 12) : nameTail c (k : Int) = if nameAt c k ≠ b0 then ⟨#[47]⟩ ++ nameAt c k else b0 := by
  unfold nameTail
  rw [Int.toNat_natCast]
  by_cases hz : nameAt c k ≠ b0
  · rw [if_pos ⟨by omega, by omega, hz⟩, if_pos hz]
  · rw [if_neg (fun h => hz h.2.2), if_neg hz]
end Go.Proofs.YtaopinecidddkaaDoor
