/- nlri.Size -/
import Derived.Test.YtmicpiaflgfojaaNr
namespace Go.Proofs.Ytmicpiaflgfojaa
open Go.RowKit

theorem pfxForm_len {f l : Int} {a : List Int} (ha : IsAddr a) (h : pfxOk f l a = true) : ((pfxForm l a).length : Int) = 1 + (l + 7) / 8 := by
  have := pfxOk_range h
  have h5 : 0 ≤ sizeOfBits l ∧ sizeOfBits l ≤ 16 := by unfold sizeOfBits; omega
  have h6 := ha.1
  unfold pfxForm
  rw [List.length_cons, List.length_take, h6]
  unfold sizeOfBits at *
  omega

set_option maxHeartbeats 800000 in
set_option maxRecDepth 100000 in
theorem nsize_false (f : Int) (A : Option Addr) (n c : Nat) (rs : List Rt) (w : World) (h : Routes w w.heap.size A n rs) (hn : n ≤ 1000000) (hk : rs.all (rtOk f false) = true) :
    Calls Try.prog 18 #[.bool false, .slice A n c] w fun e w' => e = .returned (.int .i64 (formAll false rs).length) ∧ Below w.heap.size w w' := by
  have hz19 : #[.int .u32 0, .int .i64 0, .int .i64 0, .int .u8 0, .int .u8 0, .int .u8 0, .int .u8 0, .int .u8 0, .int .u8 0, .int .u8 0, .int .u8 0, .int .u8 0, .int .u8 0, .int .u8 0, .int .u8 0, .int .u8 0, .int .u8 0, .int .u8 0, .int .u8 0] = rt rt0 := rt_zero.symm
  have HN := Lib.hid h.1
  have HK := Lib.hid hk
  clear hk
  go_enter Try.func18, Try.ntmps18
  go_wp2_with fail
  go_loopw [5, 10] (fun s i wr => ∃ (j k : Nat), j ≤ n ∧ i = .int .i64 j ∧ s = .int .i64 k ∧ k = (formAll false (rs.take j)).length ∧ k ≤ 21 * j ∧ Below w.heap.size w wr) (fun _ i _ => n - (intOf i).toNat)
  case atStart => exact ⟨0, 0, Nat.zero_le _, rfl, rfl, by simp [formAll], Nat.zero_le _, bl_refl w⟩
  case round =>
    obtain ⟨j, k, hj, rfl, rfl, hkl, hk21, hbw⟩ := hrel
    have HL := Lib.hid hkl
    clear hkl
    by_cases hlt : j < n
    · obtain ⟨b, o, rfl, hbB, hok, hrg⟩ := (h.below hbw).at_ hlt
      have hrl := hok.1.1
      have hjl := Lib.hid (show j < rs.length by have := HN.out; omega)
      have hro := Lib.hid (show rtOk f false (nthR rs j) = true from List.all_eq_true.1 HK.out _ (nthR_mem hjl.out))
      have hpk := Lib.hid (show pfxOk (nthR rs j).f (nthR rs j).l (nthR rs j).a = true by have := hro.out; simp only [rtOk, Bool.and_eq_true] at this; exact this.1.2)
      have hrange := pfxOk_range hpk.out
      have hl0 := hrange.1
      have hl1 := hrange.2
      clear hrange
      have hpl := Lib.hid (pfxForm_len hok.1 hpk.out)
      have hi19 := Lib.hid (rt_infol hrl)
      have hi20 := Lib.hid (rt_info hrl)
      have ho' := (Own.new wr 31 (rt rt0))
      have ho := ho'.setRow (cs' := rt (nthR rs j))
      have hb1 := bl_setRow (cs := rt (nthR rs j)) (bl_alloc hbw (.cells (rt rt0) 31)) hbw.size
      have hc2 := ho.cell (rt_2 _)
      go_wp2_with (first | (refine wpList_load_mid rfl 31 _ rfl b (o + j * 19) rfl (rt (nthR rs j)).toList (.struct (Try.prog.fieldsOf 31)) hrg rt_desc rfl hi19.out ?_) | (refine wpList_store_row rfl 31 _ _ rfl wr.heap.size (rt (nthR rs j)) rfl rfl 31 (rt rt0) ho' hi20.out (by rw [rt_size hrl]; rfl) (rt_one _) ?_))
      go_roundw
      case rel =>
        have hp := hpl.out
        have hkl := HL.out
        refine ⟨j + 1, k + (rtForm false (nthR rs j)).length, by omega, by go_num, ?_, by rw [formAll_take hjl.out, List.length_append, ← hkl], ?_, hb1⟩
        · simp only [rtForm, List.length_append, Bool.false_eq_true, if_false, List.length_nil]
          congr 1
          omega
        · have := rtForm_len (add := false) hpk.out
          omega
      case measure => simp [intOf]; omega
    · have hjn := Lib.hid (show j = rs.length by have := HN.out; omega)
      go_wp2
      go_ret
      refine ⟨?_, hbw⟩
      have hkl := HL.out
      rw [hjn.out, List.take_length] at hkl
      rw [← hkl]; rfl

set_option maxHeartbeats 800000 in
set_option maxRecDepth 100000 in
theorem nsize_true (f : Int) (A : Option Addr) (n c : Nat) (rs : List Rt) (w : World) (h : Routes w w.heap.size A n rs) (hn : n ≤ 1000000) (hk : rs.all (rtOk f true) = true) :
    Calls Try.prog 18 #[.bool true, .slice A n c] w fun e w' => e = .returned (.int .i64 (formAll true rs).length) ∧ Below w.heap.size w w' := by
  have hz19 : #[.int .u32 0, .int .i64 0, .int .i64 0, .int .u8 0, .int .u8 0, .int .u8 0, .int .u8 0, .int .u8 0, .int .u8 0, .int .u8 0, .int .u8 0, .int .u8 0, .int .u8 0, .int .u8 0, .int .u8 0, .int .u8 0, .int .u8 0, .int .u8 0, .int .u8 0] = rt rt0 := rt_zero.symm
  have HN := Lib.hid h.1
  have HK := Lib.hid hk
  clear hk
  go_enter Try.func18, Try.ntmps18
  go_wp2_with fail
  go_loopw [5, 10] (fun s i wr => ∃ (j k : Nat), j ≤ n ∧ i = .int .i64 j ∧ s = .int .i64 k ∧ k = (formAll true (rs.take j)).length ∧ k ≤ 21 * j ∧ Below w.heap.size w wr) (fun _ i _ => n - (intOf i).toNat)
  case atStart => exact ⟨0, 0, Nat.zero_le _, rfl, rfl, by simp [formAll], Nat.zero_le _, bl_refl w⟩
  case round =>
    obtain ⟨j, k, hj, rfl, rfl, hkl, hk21, hbw⟩ := hrel
    have HL := Lib.hid hkl
    clear hkl
    by_cases hlt : j < n
    · obtain ⟨b, o, rfl, hbB, hok, hrg⟩ := (h.below hbw).at_ hlt
      have hrl := hok.1.1
      have hjl := Lib.hid (show j < rs.length by have := HN.out; omega)
      have hro := Lib.hid (show rtOk f true (nthR rs j) = true from List.all_eq_true.1 HK.out _ (nthR_mem hjl.out))
      have hpk := Lib.hid (show pfxOk (nthR rs j).f (nthR rs j).l (nthR rs j).a = true by have := hro.out; simp only [rtOk, Bool.and_eq_true] at this; exact this.1.2)
      have hrange := pfxOk_range hpk.out
      have hl0 := hrange.1
      have hl1 := hrange.2
      clear hrange
      have hpl := Lib.hid (pfxForm_len hok.1 hpk.out)
      have hi19 := Lib.hid (rt_infol hrl)
      have hi20 := Lib.hid (rt_info hrl)
      have ho' := (Own.new wr 31 (rt rt0))
      have ho := ho'.setRow (cs' := rt (nthR rs j))
      have hb1 := bl_setRow (cs := rt (nthR rs j)) (bl_alloc hbw (.cells (rt rt0) 31)) hbw.size
      have hc2 := ho.cell (rt_2 _)
      go_wp2_with (first | (refine wpList_load_mid rfl 31 _ rfl b (o + j * 19) rfl (rt (nthR rs j)).toList (.struct (Try.prog.fieldsOf 31)) hrg rt_desc rfl hi19.out ?_) | (refine wpList_store_row rfl 31 _ _ rfl wr.heap.size (rt (nthR rs j)) rfl rfl 31 (rt rt0) ho' hi20.out (by rw [rt_size hrl]; rfl) (rt_one _) ?_))
      go_roundw
      case rel =>
        have h4 := digitsOf_len 4 (nthR rs j).p
        have hp := hpl.out
        have hkl := HL.out
        refine ⟨j + 1, k + (rtForm true (nthR rs j)).length, by omega, by go_num, ?_, by rw [formAll_take hjl.out, List.length_append, ← hkl], ?_, hb1⟩
        · simp only [rtForm, List.length_append, if_true, h4]
          congr 1
          omega
        · have := rtForm_len (add := true) hpk.out
          omega
      case measure => simp [intOf]; omega
    · have hjn := Lib.hid (show j = rs.length by have := HN.out; omega)
      go_wp2
      go_ret
      refine ⟨?_, hbw⟩
      have hkl := HL.out
      rw [hjn.out, List.take_length] at hkl
      rw [← hkl]; rfl

set_option maxRecDepth 100000 in
theorem nsize_any (f : Int) (add : Bool) (A : Option Addr) (n c : Nat) (rs : List Rt) (w : World) (h : Routes w w.heap.size A n rs) (hn : n ≤ 1000000) (hk : rs.all (rtOk f add) = true) :
    Calls Try.prog 18 #[.bool add, .slice A n c] w fun e w' => e = .returned (.int .i64 (formAll add rs).length) ∧ Below w.heap.size w w' := by
  cases add
  · exact nsize_false f A n c rs w h hn hk
  · exact nsize_true f A n c rs w h hn hk
end Go.Proofs.Ytmicpiaflgfojaa
