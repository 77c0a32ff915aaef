/- alive of layer 2 -/
import Derived.Test.YtiehbmhekncbhaaDoorPtx
import Derived.Test.YtiehbmhekncbhaaDoorPfxR
namespace Go.Proofs.YtiehbmhekncbhaaDoor
open Go.RowKit Go.Sort

def ex9 : List Int := [10, 128, 0, 0, 0, 0, 0, 0, 0, 0, 0, 0, 0, 0, 0, 0]
def ex8 : List Int := [10, 0, 0, 0, 0, 0, 0, 0, 0, 0, 0, 0, 0, 0, 0, 0]
theorem ex9_addr : IsAddr ex9 := ⟨rfl, by decide⟩
theorem ex8_addr : IsAddr ex8 := ⟨rfl, by decide⟩
theorem ex9_eq : maskL 9 (padTo (List.take (sizeOfBits 9).toNat [10, 255])) = ex9 := by decide
theorem ex8_form : pfxForm 8 ex8 = [8, 10] := by decide
theorem dec_10 : Lib.decDigits 10 = [49, 48] := by rw [Lib.decDigits_two (by omega) (by omega)]; rfl
theorem dec_128 : Lib.decDigits 128 = [49, 50, 56] := by rw [Lib.decDigits, dif_neg (by omega), show 128 / 10 = 12 from rfl, Lib.decDigits_two (by omega) (by omega)]; rfl
theorem dec_0 : Lib.decDigits 0 = [48] := by rw [Lib.decDigits_one (by omega)]; rfl
theorem dec_9 : Lib.decDigits 9 = [57] := by rw [Lib.decDigits_one (by omega)]; rfl
theorem ex9_text : ptext4 9 ex9 = ⟨#[49, 48, 46, 49, 50, 56, 46, 48, 46, 48, 47, 57]⟩ := by
  have h1 : decB 10 = ⟨#[49, 48]⟩ := congrArg (fun l : List UInt8 => ByteArray.mk l.toArray) dec_10
  have h2 : decB 128 = ⟨#[49, 50, 56]⟩ := congrArg (fun l : List UInt8 => ByteArray.mk l.toArray) dec_128
  have h3 : decB 0 = ⟨#[48]⟩ := congrArg (fun l : List UInt8 => ByteArray.mk l.toArray) dec_0
  have h4 : decB 9 = ⟨#[57]⟩ := congrArg (fun l : List UInt8 => ByteArray.mk l.toArray) dec_9
  have h5 : words10 ex9 4 = [⟨#[49, 48]⟩, ⟨#[49, 50, 56]⟩, ⟨#[48]⟩, ⟨#[48]⟩] := by
    show [decB 10, decB 128, decB 0, decB 0] = _
    rw [h1, h2, h3]
  unfold ptext4
  rw [h5, h4]
  decide +kernel
set_option maxRecDepth 100000 in
theorem ptext_ex (w : World) (ht : Tens w) :
    Calls Tryd.prog 30 #[.agg (pfx 1 9 ex9)] w fun e w' => e = .returned (.string ⟨#[49, 48, 46, 49, 50, 56, 46, 48, 46, 48, 47, 57]⟩) ∧ Below w.heap.size w w' := by
  rw [← ex9_text]
  exact ptext4_yes 9 ex9 w ex9_addr ht (by decide)
set_option maxRecDepth 100000 in
theorem pread_ex (g : Nat) (w : World) (h : Rdr w g [9, 10, 255] 0) :
    Calls Tryd.prog 17 #[.int .i64 1, .pointer (some ⟨g, 0, none⟩)] w fun e w' => e = .returned (.tuple #[.agg (pfx 1 9 ex9), .bool true]) ∧ w.grownBy w' (some g) := by
  refine (pread_yes w.heap.size 1 9 [10, 255] g 0 _ h.toB (by decide) (by decide) (by decide) (by decide)).mono ?_
  rw [ex9_eq]
  rintro e w' ⟨rfl, _, hg⟩
  exact ⟨rfl, hg⟩
set_option maxRecDepth 100000 in
theorem pbytes_ex (w : World) :
    Calls Tryd.prog 28 #[.agg (pfx 1 8 ex8)] w fun e w' => ∃ g, e = .returned (.tuple #[.slice (some ⟨g, 0, none⟩) 2 2, .bool true]) ∧ w.heap.size ≤ g ∧ Own w' g 5 #[.int .u8 8, .int .u8 10] ∧ Below w.heap.size w w' := by
  refine (pbytes_own 1 8 ex8 w ex8_addr (by decide)).mono ?_
  rw [ex8_form]
  rintro e w' ⟨g, rfl, hg, ho, hb⟩
  exact ⟨g, rfl, hg, ho, hb⟩
theorem built_ex8 : #[.int .i64 1, .int .i64 8, .int .u8 10, .int .u8 0, .int .u8 0, .int .u8 0, .int .u8 0, .int .u8 0, .int .u8 0, .int .u8 0, .int .u8 0, .int .u8 0, .int .u8 0, .int .u8 0, .int .u8 0, .int .u8 0, .int .u8 0, .int .u8 0] = pfx 1 8 ex8 := rfl
set_option maxRecDepth 100000 in
set_option maxHeartbeats 1600000 in
theorem alive2_any (w : World) (ht : Tens w) : Calls Tryd.prog 15 #[] w fun e w' => e = .returned (.bool true) ∧ Below w.heap.size w w' := by
  go_enter Tryd.func15, Tryd.ntmps15
  go_wp2_with fail
  refine (new_any _ _ _ [9, 10, 255] _ (Bytes.of_owned (Own.new _ _ _) (by decide) (by simp)) (by simp)).mono ?_
  rintro e w2 ⟨g, rfl, hg, hr, hb2⟩
  have hb2' : Below w.heap.size w w2 := ((Below.refl _ _).alloc (Nat.le_refl _) _).trans (hb2.mono (by simp))
  clear hb2
  simp at hg
  go_wp2_with fail
  refine (pread_ex g _ hr).mono ?_
  rintro e w3 ⟨rfl, hg3⟩
  have hb3 : Below w.heap.size w w3 := hb2'.grown hg3 hb2'.size (fun k hk => by cases hk; omega)
  clear hg3 hb2' hr hg
  have h8 := built_ex8
  have hz18 : #[.int .i64 0, .int .i64 0, .int .u8 0, .int .u8 0, .int .u8 0, .int .u8 0, .int .u8 0, .int .u8 0, .int .u8 0, .int .u8 0, .int .u8 0, .int .u8 0, .int .u8 0, .int .u8 0, .int .u8 0, .int .u8 0, .int .u8 0, .int .u8 0] = pfx 0 0 zero16 := pfx_zero.symm
  have o3 := Own.new w3 28 (pfx 0 0 zero16)
  have o4 := o3.setRow (cs' := pfx 1 9 ex9)
  have hb4 := bl_setRow (cs := pfx 1 9 ex9) (bl_alloc hb3 (.cells (pfx 0 0 zero16) 28)) hb3.size
  go_wp2_with (refine wpList_store_row rfl 28 _ _ rfl w3.heap.size (pfx 1 9 ex9) rfl rfl 28 (pfx 0 0 zero16) o3 (pfx_info ex9_addr.1) ((pfx_size zero16_addr.1).trans (pfx_size ex9_addr.1).symm) (pfx_one _ _ _) ?_)
  generalize (w3.alloc (.cells (pfx 0 0 zero16) 28)).setRow w3.heap.size (pfx 1 9 ex9) = w4 at *
  refine (pbytes_ex _).mono ?_
  rintro e w5 ⟨j, rfl, hj, hoj, hb5⟩
  have o5 := o4.step hb5
  have hb6 := bl_trans hb4 hb5
  have ht6 := ht.below hb6
  clear hb4 hb5 o4 o3 hb3
  go_wp2_with (refine wpList_load_row rfl 28 _ rfl w3.heap.size rfl 28 (pfx 1 9 ex9) (0, 0) (.struct (Tryd.prog.fieldsOf 28)) o5 (by kernel_rfl) rfl (pfx_info ex9_addr.1) ?_)
  refine (ptext_ex _ ht6).mono ?_
  rintro e w7 ⟨rfl, hb7⟩
  have oj := hoj.step hb7
  have c0 := oj.cell (i := 0) (v := .int .u8 8) rfl
  have c1 := oj.cell (i := 1) (v := .int .u8 10) rfl
  have hb8 := bl_trans hb6 hb7
  go_wp2
  go_ret
  exact ⟨rfl, hb8⟩
end Go.Proofs.YtiehbmhekncbhaaDoor
