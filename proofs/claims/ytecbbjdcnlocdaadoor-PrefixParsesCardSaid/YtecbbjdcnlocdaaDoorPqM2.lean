/- XPqM2: XAl2, XPfF in one text -/
import Derived.Test.YtecbbjdcnlocdaaDoorPqM1
import Derived.Test.YtecbbjdcnlocdaaDoorPfxR
import Derived.Test.YtecbbjdcnlocdaaDoorPqM3
/- alive of layer 2 -/
namespace Go.Proofs.YtecbbjdcnlocdaaDoor
open Go.RowKit Go.Sort

def ex9 : List Int := [10, 128, 0, 0, 0, 0, 0, 0, 0, 0, 0, 0, 0, 0, 0, 0]
def ex8 : List Int := [10, 0, 0, 0, 0, 0, 0, 0, 0, 0, 0, 0, 0, 0, 0, 0]
theorem ex9_addr : IsAddr ex9 := ⟨rfl, by decide⟩
theorem ex8_addr : IsAddr ex8 := ⟨rfl, by decide⟩
theorem ex9_eq : maskL 9 (padTo (List.take (sizeOfBits 9).toNat [10, 255])) = ex9 := by decide
theorem ex8_form : pfxForm 8 ex8 = [8, 10] := by decide
theorem dec_10 : Lib.decDigits 10 = [49, 48] := by rw [Lib.decDigits_two (by omega) (by omega)]; rfl
theorem dec_128 : Lib.decDigits 128 = [49, 50, 56] := by rw [Lib.decDigits, dif_neg (by omega), show 128 / 10 = 12 from rfl, Lib.decDigits_two (by omega) (by omega)]; rfl
theorem dec_0 : Lib.decDigits 0 = [48] := by rw [Lib.decDigits_one (by omega)]; rfl
theorem dec_9 : Lib.decDigits 9 = [57] := by rw [Lib.decDigits_one (by omega)]; rfl
theorem ex9_text : ptext4 9 ex9 = ⟨#[49, 48, 46, 49, 50, 56, 46, 48, 46, 48, 47, 57]⟩ := by
  have h1 : decB 10 = ⟨#[49, 48]⟩ := congrArg (fun l : List UInt8 => ByteArray.mk l.toArray) dec_10
  have h2 : decB 128 = ⟨#[49, 50, 56]⟩ := congrArg (fun l : List UInt8 => ByteArray.mk l.toArray) dec_128
  have h3 : decB 0 = ⟨#[48]⟩ := congrArg (fun l : List UInt8 => ByteArray.mk l.toArray) dec_0
  have h4 : decB 9 = ⟨#[57]⟩ := congrArg (fun l : List UInt8 => ByteArray.mk l.toArray) dec_9
  have h5 : words10 ex9 4 = [⟨#[49, 48]⟩, ⟨#[49, 50, 56]⟩, ⟨#[48]⟩, ⟨#[48]⟩] := by
    show [decB 10, decB 128, decB 0, decB 0] = _
    rw [h1, h2, h3]
  unfold ptext4
  rw [h5, h4]
  decide +kernel
set_option maxRecDepth 100000 in
theorem ptext_ex (w : World) (ht : Tens w) :
    Calls Tryd.prog 23 #[.agg (pfx 1 9 ex9)] w fun e w' => e = .returned (.string ⟨#[49, 48, 46, 49, 50, 56, 46, 48, 46, 48, 47, 57]⟩) ∧ Below w.heap.size w w' := by
  rw [← ex9_text]
  exact ptext4_yes 9 ex9 w ex9_addr ht (by decide)
set_option maxRecDepth 100000 in
theorem pread_ex (g : Nat) (w : World) (h : Rdr w g [9, 10, 255] 0) :
    Calls Tryd.prog 28 #[.int .i64 1, .pointer (some ⟨g, 0, none⟩)] w fun e w' => e = .returned (.tuple #[.agg (pfx 1 9 ex9), .bool true]) ∧ w.grownBy w' (some g) := by
  refine (pread_yes w.heap.size 1 9 [10, 255] g 0 _ h.toB (by decide) (by decide) (by decide) (by decide)).mono ?_
  rw [ex9_eq]
  rintro e w' ⟨rfl, _, hg⟩
  exact ⟨rfl, hg⟩
set_option maxRecDepth 100000 in
theorem pbytes_ex (w : World) :
    Calls Tryd.prog 21 #[.agg (pfx 1 8 ex8)] w fun e w' => ∃ g, e = .returned (.tuple #[.slice (some ⟨g, 0, none⟩) 2 2, .bool true]) ∧ w.heap.size ≤ g ∧ Own w' g 5 #[.int .u8 8, .int .u8 10] ∧ Below w.heap.size w w' := by
  refine (pbytes_own 1 8 ex8 w ex8_addr (by decide)).mono ?_
  rw [ex8_form]
  rintro e w' ⟨g, rfl, hg, ho, hb⟩
  exact ⟨g, rfl, hg, ho, hb⟩
theorem built_ex8 : #[.int .i64 1, .int .i64 8, .int .u8 10, .int .u8 0, .int .u8 0, .int .u8 0, .int .u8 0, .int .u8 0, .int .u8 0, .int .u8 0, .int .u8 0, .int .u8 0, .int .u8 0, .int .u8 0, .int .u8 0, .int .u8 0, .int .u8 0, .int .u8 0] = pfx 1 8 ex8 := rfl
set_option maxRecDepth 100000 in
set_option maxHeartbeats 1600000 in
theorem alive2_any (w : World) (ht : Tens w) : Calls Tryd.prog 30 #[] w fun e w' => e = .returned (.bool true) ∧ Below w.heap.size w w' := by
  go_enter Tryd.func30, Tryd.ntmps30
  go_wp2_with fail
  refine (new_any _ _ _ [9, 10, 255] _ (Bytes.of_owned (Own.new _ _ _) (by decide) (by simp)) (by simp)).mono ?_
  rintro e w2 ⟨g, rfl, hg, hr, hb2⟩
  have hb2' : Below w.heap.size w w2 := ((Below.refl _ _).alloc (Nat.le_refl _) _).trans (hb2.mono (by simp))
  clear hb2
  simp at hg
  go_wp2_with fail
  refine (pread_ex g _ hr).mono ?_
  rintro e w3 ⟨rfl, hg3⟩
  have hb3 : Below w.heap.size w w3 := hb2'.grown hg3 hb2'.size (fun k hk => by cases hk; omega)
  clear hg3 hb2' hr hg
  have h8 := built_ex8
  have hz18 : #[.int .i64 0, .int .i64 0, .int .u8 0, .int .u8 0, .int .u8 0, .int .u8 0, .int .u8 0, .int .u8 0, .int .u8 0, .int .u8 0, .int .u8 0, .int .u8 0, .int .u8 0, .int .u8 0, .int .u8 0, .int .u8 0, .int .u8 0, .int .u8 0] = pfx 0 0 zero16 := pfx_zero.symm
  have o3 := Own.new w3 41 (pfx 0 0 zero16)
  have o4 := o3.setRow (cs' := pfx 1 9 ex9)
  have hb4 := bl_setRow (cs := pfx 1 9 ex9) (bl_alloc hb3 (.cells (pfx 0 0 zero16) 41)) hb3.size
  go_wp2_with (refine wpList_store_row rfl 41 _ _ rfl w3.heap.size (pfx 1 9 ex9) rfl rfl 41 (pfx 0 0 zero16) o3 (pfx_info ex9_addr.1) ((pfx_size zero16_addr.1).trans (pfx_size ex9_addr.1).symm) (pfx_one _ _ _) ?_)
  generalize (w3.alloc (.cells (pfx 0 0 zero16) 41)).setRow w3.heap.size (pfx 1 9 ex9) = w4 at *
  refine (pbytes_ex _).mono ?_
  rintro e w5 ⟨j, rfl, hj, hoj, hb5⟩
  have o5 := o4.step hb5
  have hb6 := bl_trans hb4 hb5
  have ht6 := ht.below hb6
  clear hb4 hb5 o4 o3 hb3
  go_wp2_with (refine wpList_load_row rfl 41 _ rfl w3.heap.size rfl 41 (pfx 1 9 ex9) (0, 0) (.struct (Tryd.prog.fieldsOf 41)) o5 (by kernel_rfl) rfl (pfx_info ex9_addr.1) ?_)
  refine (ptext_ex _ ht6).mono ?_
  rintro e w7 ⟨rfl, hb7⟩
  have oj := hoj.step hb7
  have c0 := oj.cell (i := 0) (v := .int .u8 8) rfl
  have c1 := oj.cell (i := 1) (v := .int .u8 10) rfl
  have hb8 := bl_trans hb6 hb7
  go_wp2
  go_ret
  exact ⟨rfl, hb8⟩
end Go.Proofs.YtecbbjdcnlocdaaDoor

/- PrefixForms: the walk -/
namespace Go.Proofs.YtecbbjdcnlocdaaDoor
open Go.RowKit Go.Sort
theorem padTo_take {a : List Int} {s : Nat} (ha : a.length = 16) (hs : s ≤ 16) (h : ∀ i, s ≤ i → i < 16 → nth a i = 0) : padTo (a.take s) = a := by
  unfold padTo
  have hl : (a.take s).length = s := by rw [List.length_take, ha]; omega
  have hd : a.drop s = List.replicate (16 - s) 0 := by
    rw [List.eq_replicate_iff]
    refine ⟨by rw [List.length_drop, ha], fun x hx => ?_⟩
    obtain ⟨i, hi, rfl⟩ := List.mem_iff_getElem.1 hx
    rw [List.length_drop, ha] at hi
    rw [List.getElem_drop]
    have := h (s + i) (by omega) (by omega)
    unfold nth at this
    rw [List.getD_eq_getElem?_getD, List.getElem?_eq_getElem (by rw [ha]; omega)] at this
    exact this
  rw [hl, ← hd, List.take_append_drop]
/-- The form of a valid prefix is read to it. -/
theorem read_form {f l : Int} {a : List Int} (ha : IsAddr a) (hk : pfxOk f l a = true) : pOk f (pfxForm l a) = true ∧ pF f (pfxForm l a) = f ∧ pL f (pfxForm l a) = l ∧ pA f (pfxForm l a) = a ∧ pN (pfxForm l a) = (pfxForm l a).length := by
  have hr := pfxOk_range hk
  have hm := (pOk_fam hk).2
  have hlen : lenOk f l = true := by unfold pfxOk at hk; rw [Bool.and_eq_true] at hk; exact hk.1
  have hs : (sizeOfBits l).toNat ≤ 16 := by unfold sizeOfBits; omega
  have hl : (a.take (sizeOfBits l).toNat).length = (sizeOfBits l).toNat := by rw [List.length_take, ha.1]; omega
  have h1 : pOk f (pfxForm l a) = true := by
    show (lenOk f l && decide ((sizeOfBits l).toNat ≤ (a.take (sizeOfBits l).toNat).length)) = true
    rw [hlen, hl]; simp
  refine ⟨h1, by unfold pF; rw [if_pos h1], by unfold pL; rw [if_pos h1]; rfl, ?_, ?_⟩
  · unfold pA
    rw [if_pos h1]
    show maskL l (padTo ((a.take (sizeOfBits l).toNat).take (sizeOfBits l).toNat)) = a
    rw [List.take_take, Nat.min_self, padTo_take ha.1 hs (fun i h2 h3 => mask_tail ha hm h3 (by unfold sizeOfBits at h2; omega)), hm]
  · show 1 + (sizeOfBits l).toNat = (a.take (sizeOfBits l).toNat).length + 1
    rw [hl]; omega
theorem ptxt_size {f l : Int} {a : List Int} (ha : IsAddr a) (hk : pfxOk f l a = true) : (ptxt f l a).size ≤ 1000000 := by
  have h1 := w10_size ha (k := 4) (by omega)
  have h2 := w16_size ha (k := 8) (by omega)
  have h3 := decB_size (n := l) (by have := (pfxOk_range hk).2; omega)
  unfold ptxt ptext4 ptext6
  split
  · rw [ByteArray.size_append, ByteArray.size_append]
    show _ + 1 + _ ≤ _
    omega
  · rw [ByteArray.size_append, ByteArray.size_append]
    show _ + 1 + _ ≤ _
    omega
set_option maxRecDepth 100000 in
set_option maxHeartbeats 6400000 in
theorem pforms_no (f l : Int) (a : List Int) (w : World) (ha : IsAddr a) (hk : pfxOk f l a = false) (ht : Tens w) (hbn : Brn w) (hz : PuOk w) :
    Calls Tryd.prog 5 #[.agg (pfx f l a)] w fun e w' => e = .returned (.bool true) ∧ Below w.heap.size w w' := by
  have hT := Lib.hid (fun W (_ : Below w.heap.size w W) => ptext_no f l a W ha hk)
  have hRT := Lib.hid (fun W (_ : Below w.heap.size w W) => rptext_no f l a W ha hk)
  have hBy := Lib.hid (fun W => pbytes_no f l a W ha hk)
  have hRB := Lib.hid (fun W => rpbytes_no f l a W ha hk)
  have HS := Lib.hid (pfx_size (f := f) (l := l) ha.1)
  have hz18 : #[.int .i64 0, .int .i64 0, .int .u8 0, .int .u8 0, .int .u8 0, .int .u8 0, .int .u8 0, .int .u8 0, .int .u8 0, .int .u8 0, .int .u8 0, .int .u8 0, .int .u8 0, .int .u8 0, .int .u8 0, .int .u8 0, .int .u8 0, .int .u8 0] = pfx 0 0 zero16 := pfx_zero.symm
  have hV := Lib.hid (fun W => pvalid_any f l a W ha)
  have hRV := Lib.hid (fun W => rpvalid_any f l a W ha)
  rw [hk] at hV hRV
  have hA := Lib.hid (fun W (h : Below w.heap.size w W) => alive2_any W (ht.below h))
  have hPP := Lib.hid (fun W (h : Below w.heap.size w W) => pparse_any ⟨#[]⟩ (by decide) W (hz.below h) (ht.below h) (hbn.below h))
  have HA := Lib.hid ha
  have o0 := Own.new w 41 (pfx f l a)
  have b0 := bl_alloc (bl_refl w) (.cells (pfx f l a) 41)
  clear hk ht hbn hz ha
  go_enter Tryd.func5, Tryd.ntmps5
  go_wp2_with (refine wpList_load_row rfl 41 _ rfl w.heap.size rfl 41 (pfx f l a) (0, 0) (.struct (Tryd.prog.fieldsOf 41)) o0 (by kernel_rfl) rfl (by rw [HS.out]; kernel_rfl) ?_)
  refine (hBy.out _).mono ?_
  rintro e w1 ⟨rfl, hb1⟩
  have o1 := o0.step hb1
  have b1 := bl_trans b0 hb1
  clear o0 b0 hb1
  go_wp2_with (refine wpList_load_row rfl 41 _ rfl w.heap.size rfl 41 (pfx f l a) (0, 0) (.struct (Tryd.prog.fieldsOf 41)) o1 (by kernel_rfl) rfl (by rw [HS.out]; kernel_rfl) ?_)
  refine (hRB.out _).mono ?_
  rintro e w2 ⟨rfl, hb2⟩
  have o2 := o1.step hb2
  have b2 := bl_trans b1 hb2
  clear o1 b1 hb2
  go_wp2_with (refine wpList_load_row rfl 41 _ rfl w.heap.size rfl 41 (pfx f l a) (0, 0) (.struct (Tryd.prog.fieldsOf 41)) o2 (by kernel_rfl) rfl (by rw [HS.out]; kernel_rfl) ?_)
  refine (hT.out _ b2).mono ?_
  rintro e w3 ⟨rfl, hb3⟩
  have o3 := o2.step hb3
  have b3 := bl_trans b2 hb3
  have hE := Lib.hid (rg_of (w := w3) (v := .bool true) (fun W _ => (bytesEq_any none none 0 0 0 0 [] [] W W.heap.size W.heap.size (bytes_nilN _ _) (bytes_nilN _ _) (by omega) (by omega)).mono (fun e w' h => ⟨by rw [h.1, decide_eq_true rfl], by obtain ⟨m, h⟩ := h.2; rw [← h]; exact bl_drewN (bl_refl W) m⟩)))
  have hV3 := Lib.hid (rg_of (w := w3) (fun W _ => hV.out W))
  have hRV3 := Lib.hid (rg_of (w := w3) (fun W _ => hRV.out W))
  have hRT3 := Lib.hid (rg_of (w := w3) (fun W h => hRT.out W (bl_trans b3 h)))
  clear o2 b2 hb3
  go_wp2_with fail
  refine wp_region_quiet_below (by kernel_rfl) (by kernel_rfl) ?_
  refine wpQuiet_load_row (by rfl) 41 _ rfl w.heap.size rfl 41 (pfx f l a) (.struct (Tryd.prog.fieldsOf 41)) o3.rg (by kernel_rfl) rfl (by rw [HS.out]; kernel_rfl) ?_
  go_simp
  go_big_quiet_step (with_reducible first | exact hV3.out _ _)
  refine wpQuiet_load_row (by rfl) 41 _ rfl w.heap.size rfl 41 (pfx f l a) (.struct (Tryd.prog.fieldsOf 41)) o3.rg (by kernel_rfl) rfl (by rw [HS.out]; kernel_rfl) ?_
  go_simp
  repeat (go_big_quiet_step (with_reducible first | exact hRV3.out _ _ | exact hE.out _ _))
  refine wpQuiet_load_row (by rfl) 41 _ rfl w.heap.size rfl 41 (pfx f l a) (.struct (Tryd.prog.fieldsOf 41)) o3.rg (by kernel_rfl) rfl (by rw [HS.out]; kernel_rfl) ?_
  go_simp
  repeat (go_big_quiet_step (with_reducible first | exact hRT3.out _ _))
  refine wpQuiet_nil ?_
  first | rintro _ ⟨⟨dq, osq⟩, rfl⟩ | rintro ⟨dq, osq⟩
  have hbX := below_regrown w3 dq osq
  have o4 := o3.step hbX
  have b4 := bl_trans b3 hbX
  generalize grow (redrawn w3 dq) osq = w4 at *
  clear o3 b3 hbX hE hV3 hRV3 hRT3
  have hNw := Lib.hid (new_any none 0 0 [] w4 (bytes_nilN _ _) (by omega))
  go_wp2_with fail
  refine hNw.out.mono ?_
  rintro e w5 ⟨g2, rfl, hg2, hr5, hb5⟩
  have o5 := o4.step hb5
  have b5 := bl_trans b4 hb5
  have hg3 := Lib.hid (show w.heap.size < g2 by have := o4.lt; omega)
  have hrB := hr5.toB
  have hlr := hr5.lt
  have c5 := o5.cell (pfx_0 f l a)
  clear o4 b4 hb5 hNw
  have hRd := Lib.hid (show Calls Tryd.prog 28 #[.int .i64 f, .pointer (some ⟨g2, 0, none⟩)] w5 fun e w' => e = .returned (.tuple #[.agg (pfx 0 0 zero16), .bool false]) ∧ w5.grownBy w' (some g2) from
    (pread_any w5.heap.size f [] g2 0 w5 hrB (by simp) (by omega)).mono (fun e w' ⟨h1, _, h3⟩ => ⟨h1, h3⟩))
  go_wp2_with fail
  refine hRd.out.mono ?_
  rintro e w6 ⟨rfl, hgr6⟩
  have o6 := o5.grown hgr6 (by have := hg3.out; intro e; injection e with e; omega)
  have b6 := b5.grown hgr6 b5.size (fun k hk => by cases hk; have := hg3.out; omega)
  have s6 := b6.size
  have oN6 := Own.new w6 41 (pfx 0 0 zero16)
  have oV6 := Own.setRow (cs' := (pfx 0 0 zero16)) oN6
  have lt6 := o6.lt
  have oP6 := (Rest.setRowP (w6.alloc (.cells (pfx 0 0 zero16) 41)) w6.heap.size (pfx 0 0 zero16)).own (o6.alloc (.cells (pfx 0 0 zero16) 41)) (fun e => by omega)
  have bV6 := bl_setRow (cs := (pfx 0 0 zero16)) (b6.alloc s6 (.cells (pfx 0 0 zero16) 41)) s6
  clear o5 b5 hrB hlr hgr6 hRd c5
  go_wp2_with (refine wpList_store_row rfl 41 _ _ rfl w6.heap.size (pfx 0 0 zero16) rfl rfl 41 (pfx 0 0 zero16) oN6 (pfx_info rfl) rfl (pfx_one _ _ _) ?_)
  generalize (w6.alloc (.cells (pfx 0 0 zero16) 41)).setRow w6.heap.size (pfx 0 0 zero16) = w7 at *
  clear oN6 o6 b6
  have hPs := Lib.hid (hPP.out w7 bV6)
  refine hPs.out.mono ?_
  rintro e w8 ⟨f8, l8, a8, q8, rfl, ha8, hb8, hc8⟩
  obtain ⟨rfl, rfl, rfl, rfl⟩ : q8 = false ∧ f8 = 0 ∧ l8 = 0 ∧ a8 = zero16 := by
    rcases hc8 with ⟨_, h2⟩ | ⟨h1, _, h2⟩
    · have : pParse [] = some (f8, l8, a8) := h2
      rw [pParse_nil] at this; cases this
    · exact ⟨h1, h2⟩
  have oV8 := oV6.step hb8
  have oP8 := oP6.step hb8
  have b8 := bl_trans bV6 hb8
  have s8 := b8.size
  have oN8 := Own.new w8 41 (pfx 0 0 zero16)
  have oX9 := Own.setRow (cs' := (pfx 0 0 zero16)) oN8
  have ltV := oV8.lt
  have ltP := oP8.lt
  have oV9 := (Rest.setRowP (w8.alloc (.cells (pfx 0 0 zero16) 41)) w8.heap.size (pfx 0 0 zero16)).own (oV8.alloc (.cells (pfx 0 0 zero16) 41)) (fun e => by omega)
  have oP9 := (Rest.setRowP (w8.alloc (.cells (pfx 0 0 zero16) 41)) w8.heap.size (pfx 0 0 zero16)).own (oP8.alloc (.cells (pfx 0 0 zero16) 41)) (fun e => by omega)
  have b9 := bl_setRow (cs := (pfx 0 0 zero16)) (b8.alloc s8 (.cells (pfx 0 0 zero16) 41)) s8
  clear oV6 oP6 bV6 hb8 oV8 oP8 b8 hPs hc8
  go_wp2_with (refine wpList_store_row rfl 41 _ _ rfl w8.heap.size (pfx 0 0 zero16) rfl rfl 41 (pfx 0 0 zero16) oN8 (pfx_info rfl) rfl (pfx_one _ _ _) ?_)
  generalize (w8.alloc (.cells (pfx 0 0 zero16) 41)).setRow w8.heap.size (pfx 0 0 zero16) = w9 at *
  clear oN8
  have hAl := Lib.hid (hA.out w9 b9)
  refine hAl.out.mono ?_
  rintro e w10 ⟨rfl, hb10⟩
  have b10 := bl_trans b9 hb10
  clear oV9 oX9 oP9 b9 hb10 hAl
  go_wp2
  go_ret
  exact ⟨rfl, b10⟩
set_option maxRecDepth 100000 in
set_option maxHeartbeats 6400000 in
theorem pforms_yes (f l : Int) (a : List Int) (w : World) (ha : IsAddr a) (hk : pfxOk f l a = true) (ht : Tens w) (hbn : Brn w) (hz : PuOk w) :
    Calls Tryd.prog 5 #[.agg (pfx f l a)] w fun e w' => e = .returned (.bool true) ∧ Below w.heap.size w w' := by
  have hPa := Lib.hid (pParse_text ha hk)
  have hRk := Lib.hid (read_form (f := f) ha hk)
  have hFR := Lib.hid (pfxForm_range ha (pfxOk_range hk).1 (pfxOk_range hk).2)
  have hT := Lib.hid (fun W (h : Below w.heap.size w W) => ptext_yes f l a W ha (ht.below h) (hbn.below h) hk)
  have hRT := Lib.hid (fun W (_ : Below w.heap.size w W) => (show Calls Tryd.prog 26 #[.agg (pfx f l a)] W fun e w' => e = .returned (.string (ptxt f l a)) ∧ Below W.heap.size W w' by
    have := rptext_any f l a W ha
    rw [show ptxtO f l a = ptxt f l a from if_pos hk] at this
    exact this))
  have hBy := Lib.hid (fun W => pbytes_own f l a W ha hk)
  have hRB := Lib.hid (fun W => rpbytes_yes f l a W ha hk)
  have hTz : (ptxt f l a).size ≤ 1000000 := ptxt_size ha hk
  have HS := Lib.hid (pfx_size (f := f) (l := l) ha.1)
  have hz18 : #[.int .i64 0, .int .i64 0, .int .u8 0, .int .u8 0, .int .u8 0, .int .u8 0, .int .u8 0, .int .u8 0, .int .u8 0, .int .u8 0, .int .u8 0, .int .u8 0, .int .u8 0, .int .u8 0, .int .u8 0, .int .u8 0, .int .u8 0, .int .u8 0] = pfx 0 0 zero16 := pfx_zero.symm
  have hV := Lib.hid (fun W => pvalid_any f l a W ha)
  have hRV := Lib.hid (fun W => rpvalid_any f l a W ha)
  rw [hk] at hV hRV
  have hA := Lib.hid (fun W (h : Below w.heap.size w W) => alive2_any W (ht.below h))
  have hPP := Lib.hid (fun W (h : Below w.heap.size w W) => pparse_any (ptxt f l a) hTz W (hz.below h) (ht.below h) (hbn.below h))
  have heq := fun W => eql_pfx_same (f := f) (l := l) ha W
  have hFl := Lib.hid (show (pfxForm l a).length ≤ 17 by show (a.take _).length + 1 ≤ 17; rw [List.length_take, ha.1]; omega)
  generalize ptxt f l a = T at *
  generalize pfxForm l a = F at *
  have HA := Lib.hid ha
  have o0 := Own.new w 41 (pfx f l a)
  have b0 := bl_alloc (bl_refl w) (.cells (pfx f l a) 41)
  clear hk ht hbn hz ha hTz
  go_enter Tryd.func5, Tryd.ntmps5
  go_wp2_with (refine wpList_load_row rfl 41 _ rfl w.heap.size rfl 41 (pfx f l a) (0, 0) (.struct (Tryd.prog.fieldsOf 41)) o0 (by kernel_rfl) rfl (by rw [HS.out]; kernel_rfl) ?_)
  refine (hBy.out _).mono ?_
  rintro e w1 ⟨g, rfl, hg, oF1, hb1⟩
  have o1 := o0.step hb1
  have b1 := bl_trans b0 hb1
  clear o0 b0 hb1
  go_wp2_with (refine wpList_load_row rfl 41 _ rfl w.heap.size rfl 41 (pfx f l a) (0, 0) (.struct (Tryd.prog.fieldsOf 41)) o1 (by kernel_rfl) rfl (by rw [HS.out]; kernel_rfl) ?_)
  refine (hRB.out _).mono ?_
  rintro e w2 ⟨v2, rfl, hr2, hb2⟩
  obtain ⟨A2, c2, rfl, hc2, hs2⟩ := own_val hr2
  have hB2 : Hid (Bytes w2 w2.heap.size A2 F.length F) := Lib.hid ⟨rfl, hFR.out, hs2⟩
  have oF2 := Lib.hid (oF1.step hb2)
  clear oF1 hr2 hs2
  have o2 := o1.step hb2
  have b2 := bl_trans b1 hb2
  clear o1 b1 hb2
  go_wp2_with (refine wpList_load_row rfl 41 _ rfl w.heap.size rfl 41 (pfx f l a) (0, 0) (.struct (Tryd.prog.fieldsOf 41)) o2 (by kernel_rfl) rfl (by rw [HS.out]; kernel_rfl) ?_)
  refine (hT.out _ b2).mono ?_
  rintro e w3 ⟨rfl, hb3⟩
  have o3 := o2.step hb3
  have b3 := bl_trans b2 hb3
  have hB3 := Lib.hid ((hB2.out.below hb3).more hb3.size)
  have oF3 := Lib.hid (oF2.out.step hb3)
  have hE := Lib.hid (rg_of (w := w3) (v := .bool true) (fun W hW => (bytesEq_any (some ⟨g, 0, none⟩) A2 F.length F.length F.length c2 F F W _ _ (Bytes.of_owned (oF3.out.step hW) hFR.out (oF3.out.step hW).lt) (hB3.out.below hW) (by have := hFl.out; omega) (by have := hFl.out; omega)).mono (fun e w' h => ⟨by rw [h.1, decide_eq_true rfl], by obtain ⟨m, h⟩ := h.2; rw [← h]; exact bl_drewN (bl_refl W) m⟩)))
  clear hB2 oF2
  have hV3 := Lib.hid (rg_of (w := w3) (fun W _ => hV.out W))
  have hRV3 := Lib.hid (rg_of (w := w3) (fun W _ => hRV.out W))
  have hRT3 := Lib.hid (rg_of (w := w3) (fun W h => hRT.out W (bl_trans b3 h)))
  clear o2 b2 hb3
  go_wp2_with fail
  refine wp_region_quiet_below (by kernel_rfl) (by kernel_rfl) ?_
  refine wpQuiet_load_row (by rfl) 41 _ rfl w.heap.size rfl 41 (pfx f l a) (.struct (Tryd.prog.fieldsOf 41)) o3.rg (by kernel_rfl) rfl (by rw [HS.out]; kernel_rfl) ?_
  go_simp
  go_big_quiet_step (with_reducible first | exact hV3.out _ _)
  refine wpQuiet_load_row (by rfl) 41 _ rfl w.heap.size rfl 41 (pfx f l a) (.struct (Tryd.prog.fieldsOf 41)) o3.rg (by kernel_rfl) rfl (by rw [HS.out]; kernel_rfl) ?_
  go_simp
  repeat (go_big_quiet_step (with_reducible first | exact hRV3.out _ _ | exact hE.out _ _))
  refine wpQuiet_load_row (by rfl) 41 _ rfl w.heap.size rfl 41 (pfx f l a) (.struct (Tryd.prog.fieldsOf 41)) o3.rg (by kernel_rfl) rfl (by rw [HS.out]; kernel_rfl) ?_
  go_simp
  repeat (go_big_quiet_step (with_reducible first | exact hRT3.out _ _))
  refine wpQuiet_nil ?_
  first | rintro _ ⟨⟨dq, osq⟩, rfl⟩ | rintro ⟨dq, osq⟩
  have hbX := below_regrown w3 dq osq
  have o4 := o3.step hbX
  have b4 := bl_trans b3 hbX
  have oF4 := Lib.hid (oF3.out.step hbX)
  generalize grow (redrawn w3 dq) osq = w4 at *
  clear o3 b3 hbX hE hV3 hRV3 hRT3
  have hNw := Lib.hid (new_any (some ⟨g, 0, none⟩) F.length F.length F w4 (Bytes.of_owned oF4.out hFR.out oF4.out.lt) (by have := hFl.out; omega))
  go_wp2_with fail
  refine hNw.out.mono ?_
  rintro e w5 ⟨g2, rfl, hg2, hr5, hb5⟩
  have o5 := o4.step hb5
  have b5 := bl_trans b4 hb5
  have hg3 := Lib.hid (show w.heap.size < g2 by have := o4.lt; omega)
  have hrB := hr5.toB
  have hlr := hr5.lt
  have c5 := o5.cell (pfx_0 f l a)
  clear o4 b4 hb5 hNw
  have hRd := Lib.hid (show Calls Tryd.prog 28 #[.int .i64 f, .pointer (some ⟨g2, 0, none⟩)] w5 fun e w' => e = .returned (.tuple #[.agg (pfx f l a), .bool true]) ∧ RdrB w5.heap.size w' g2 [] F.length ∧ w5.grownBy w' (some g2) by
    refine (pread_any w5.heap.size f F g2 0 w5 hrB (by have := hFl.out; omega) (by omega)).mono ?_
    rintro e w' ⟨rfl, hr, hg⟩
    obtain ⟨q1, q2, q3, q4, q5⟩ := hRk.out
    have hr := hr q1
    rw [q5, List.drop_length, Nat.zero_add] at hr
    exact ⟨by rw [q1, q2, q3, q4], hr, hg⟩)
  go_wp2_with fail
  refine hRd.out.mono ?_
  rintro e w6 ⟨rfl, hr6, hgr6⟩
  have o6 := o5.grown hgr6 (by have := hg3.out; intro e; injection e with e; omega)
  have b6 := b5.grown hgr6 b5.size (fun k hk => by cases hk; have := hg3.out; omega)
  have s6 := b6.size
  have oN6 := Own.new w6 41 (pfx 0 0 zero16)
  have oV6 := Own.setRow (cs' := (pfx f l a)) oN6
  have lt6 := o6.lt
  have oP6 := (Rest.setRowP (w6.alloc (.cells (pfx 0 0 zero16) 41)) w6.heap.size (pfx f l a)).own (o6.alloc (.cells (pfx 0 0 zero16) 41)) (fun e => by omega)
  have bV6 := bl_setRow (cs := (pfx f l a)) (b6.alloc s6 (.cells (pfx 0 0 zero16) 41)) s6
  have hgl6 : g2 < w6.heap.size := Nat.lt_of_lt_of_le hlr hgr6.size
  have rV6 := (hr6.below (bl_alloc (bl_refl w6) (.cells (pfx 0 0 zero16) 41))).setRow (k := w6.heap.size) (cs := (pfx f l a)) hgr6.size (by omega)
  clear o5 b5 hrB hlr hgr6 hRd c5 hr6
  go_wp2_with (refine wpList_store_row rfl 41 _ _ rfl w6.heap.size (pfx f l a) rfl rfl 41 (pfx 0 0 zero16) oN6 (pfx_info HA.out.1) (by rw [HS.out]; rfl) (pfx_one _ _ _) ?_)
  generalize (w6.alloc (.cells (pfx 0 0 zero16) 41)).setRow w6.heap.size (pfx f l a) = w7 at *
  clear oN6 o6 b6
  have hPs := Lib.hid (hPP.out w7 bV6)
  refine hPs.out.mono ?_
  rintro e w8 ⟨f8, l8, a8, q8, rfl, ha8, hb8, hc8⟩
  obtain ⟨rfl, rfl, rfl, rfl⟩ : q8 = true ∧ f8 = f ∧ l8 = l ∧ a8 = a := by
    rcases hc8 with ⟨h1, h2⟩ | ⟨_, h2, _⟩
    · rw [hPa.out] at h2
      have h3 := Option.some.inj h2
      injection h3 with h4 h5
      injection h5 with h6 h7
      exact ⟨h1, h4.symm, h6.symm, h7.symm⟩
    · rw [hPa.out] at h2; cases h2
  have oV8 := oV6.step hb8
  have oP8 := oP6.step hb8
  have b8 := bl_trans bV6 hb8
  have s8 := b8.size
  have oN8 := Own.new w8 41 (pfx 0 0 zero16)
  have oX9 := Own.setRow (cs' := (pfx f8 l8 a8)) oN8
  have ltV := oV8.lt
  have ltP := oP8.lt
  have oV9 := (Rest.setRowP (w8.alloc (.cells (pfx 0 0 zero16) 41)) w8.heap.size (pfx f8 l8 a8)).own (oV8.alloc (.cells (pfx 0 0 zero16) 41)) (fun e => by omega)
  have oP9 := (Rest.setRowP (w8.alloc (.cells (pfx 0 0 zero16) 41)) w8.heap.size (pfx f8 l8 a8)).own (oP8.alloc (.cells (pfx 0 0 zero16) 41)) (fun e => by omega)
  have b9 := bl_setRow (cs := (pfx f8 l8 a8)) (b8.alloc s8 (.cells (pfx 0 0 zero16) 41)) s8
  have rV8 := rV6.below hb8
  have r9 := (rV8.below (bl_alloc (bl_refl w8) (.cells (pfx 0 0 zero16) 41))).setRow (k := w8.heap.size) (cs := (pfx f8 l8 a8)) rV8.size (by have := rV8.lt; omega)
  clear oV6 oP6 bV6 hb8 oV8 oP8 b8 hPs hc8 rV6 rV8
  go_wp2_with (refine wpList_store_row rfl 41 _ _ rfl w8.heap.size (pfx f8 l8 a8) rfl rfl 41 (pfx 0 0 zero16) oN8 (pfx_info HA.out.1) (by rw [HS.out]; rfl) (pfx_one _ _ _) ?_)
  generalize (w8.alloc (.cells (pfx 0 0 zero16) 41)).setRow w8.heap.size (pfx f8 l8 a8) = w9 at *
  clear oN8
  have hAl := Lib.hid (hA.out w9 b9)
  refine hAl.out.mono ?_
  rintro e w10 ⟨rfl, hb10⟩
  have b10 := bl_trans b9 hb10
  have oV10 := oV9.step hb10
  have oX10 := oX9.step hb10
  have oP10 := oP9.step hb10
  have hLf := Lib.hid (left_any g2 [] _ w10 (r9.below hb10).rdr)
  clear oV9 oX9 oP9 b9 hb10 hAl
  go_wp2_with (first
    | (refine wpList_load_row_on (by rfl) 41 _ rfl w6.heap.size rfl 41 (pfx f8 l8 a8) (.struct (Tryd.prog.fieldsOf 41)) oV10 (by kernel_rfl) rfl (by rw [HS.out]; kernel_rfl) ?_)
    | (refine wpList_load_row_on (by rfl) 41 _ rfl w8.heap.size rfl 41 (pfx f8 l8 a8) (.struct (Tryd.prog.fieldsOf 41)) oX10 (by kernel_rfl) rfl (by rw [HS.out]; kernel_rfl) ?_)
    | (refine wpList_load_row_on (by rfl) 41 _ rfl w.heap.size rfl 41 (pfx f8 l8 a8) (.struct (Tryd.prog.fieldsOf 41)) oP10 (by kernel_rfl) rfl (by rw [HS.out]; kernel_rfl) ?_))
  refine hLf.out.mono ?_
  rintro e w11 ⟨rfl, rfl⟩
  go_wp2
  go_ret
  exact ⟨rfl, b10⟩
set_option maxRecDepth 100000 in
theorem pforms_all (f l : Int) (a : List Int) (w : World) (ha : IsAddr a) (ht : Tens w) (hbn : Brn w) (hz : PuOk w) :
    Calls Tryd.prog 5 #[.agg (pfx f l a)] w fun e w' => e = .returned (.bool true) ∧ Below w.heap.size w w' := by
  cases hk : pfxOk f l a with
  | true => exact pforms_yes f l a w ha hk ht hbn hz
  | false => exact pforms_no f l a w ha hk ht hbn hz
end Go.Proofs.YtecbbjdcnlocdaaDoor
