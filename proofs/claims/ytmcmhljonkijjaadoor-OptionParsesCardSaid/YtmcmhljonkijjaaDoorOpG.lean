/- option.find -/
import Derived.Test.YtmcmhljonkijjaaDoorOpF
namespace Go.Proofs.YtmcmhljonkijjaaDoor
open Go.RowKit Go.Sort

theorem toList_iffO (a b : ByteArray) : a.toList = b.toList ↔ a = b := by
  rw [ByteArray.toList_eq, ByteArray.toList_eq]
  exact ⟨fun h => ByteArray.ext (Array.ext' h), fun h => by rw [h]⟩
/-- Which option a name is. -/
def fIdx (nm : ByteArray) : Option Nat :=
  if nm = ⟨#[97, 115, 52]⟩ then some 0
  else if nm = ⟨#[101, 120, 116, 101, 110, 100, 101, 100]⟩ then some 1
  else if nm = ⟨#[109, 112, 52]⟩ then some 2
  else if nm = ⟨#[109, 112, 54]⟩ then some 3
  else if nm = ⟨#[97, 100, 100, 52]⟩ then some 4
  else if nm = ⟨#[97, 100, 100, 54]⟩ then some 5
  else none
theorem fIdx_lt {nm : ByteArray} {k : Nat} (h : fIdx nm = some k) : k < 6 := by
  unfold fIdx at h
  repeat' split at h
  all_goals first
    | (cases h; done)
    | (have := Option.some.inj h; omega)
theorem lit0_list : (⟨#[97, 115, 52]⟩ : ByteArray).toList = [97, 115, 52] := by rw [ByteArray.toList_eq]
theorem lit1_list : (⟨#[101, 120, 116, 101, 110, 100, 101, 100]⟩ : ByteArray).toList = [101, 120, 116, 101, 110, 100, 101, 100] := by rw [ByteArray.toList_eq]
theorem lit2_list : (⟨#[109, 112, 52]⟩ : ByteArray).toList = [109, 112, 52] := by rw [ByteArray.toList_eq]
theorem lit3_list : (⟨#[109, 112, 54]⟩ : ByteArray).toList = [109, 112, 54] := by rw [ByteArray.toList_eq]
theorem lit4_list : (⟨#[97, 100, 100, 52]⟩ : ByteArray).toList = [97, 100, 100, 52] := by rw [ByteArray.toList_eq]
theorem lit5_list : (⟨#[97, 100, 100, 54]⟩ : ByteArray).toList = [97, 100, 100, 54] := by rw [ByteArray.toList_eq]
set_option maxRecDepth 100000 in
set_option maxHeartbeats 3200000 in
theorem find_any (g : Nat) (nm : ByteArray) (w : World) :
    Calls Tryd.prog 51 #[.pointer (some ⟨g, 0, none⟩), .string nm] w fun e w' => e = .returned (.pointer ((fIdx nm).map fun k => ⟨g, k, none⟩)) ∧ Below w.heap.size w w' := by
  go_enter Tryd.func51, Tryd.ntmps51
  go_wp2_with fail
  refine (fields_any _).mono ?_
  rintro e w1 ⟨rfl, hb1⟩
  go_wp2_with fail
  go_loopw [8] (fun i wr => ∃ k : Nat, k ≤ 6 ∧ i = .int .i64 k ∧ (∀ j, j < k → fIdx nm ≠ some j) ∧ Below w.heap.size w wr) (fun i _ => 6 - (intOf i).toNat)
  case atStart => exact ⟨0, by omega, rfl, fun j hj => absurd hj (by omega), hb1⟩
  case round =>
    obtain ⟨k, hk, rfl, hno, hbr⟩ := hrel
    clear hb1
    have HN := Lib.hid hno
    clear hno
    have hk6 : k = 0 ∨ k = 1 ∨ k = 2 ∨ k = 3 ∨ k = 4 ∨ k = 5 ∨ k = 6 := by omega
    rcases hk6 with rfl | rfl | rfl | rfl | rfl | rfl | rfl
    · have hidx := fidx0
      by_cases hq : nm = ⟨#[97, 115, 52]⟩
      · subst hq
        have hf := Lib.hid (show fIdx ⟨#[97, 115, 52]⟩ = some 0 by decide)
        clear HN
        go_wp2_with (first | (refine wpList_store_row rfl 98 _ _ rfl wr.heap.size #[.string ⟨#[97, 115, 52]⟩, .func (.func 78) #[] #[]] rfl rfl 98 #[.string ⟨#[]⟩, .nilFunc] (Own.new wr 98 #[.string ⟨#[]⟩, .nilFunc]) (fd_info _ _) rfl (fd_one _ _) ?_; have oN := (Own.new wr 98 #[.string ⟨#[]⟩, .nilFunc]).setRow (cs' := #[.string ⟨#[97, 115, 52]⟩, .func (.func 78) #[] #[]]); have hbS := bl_setRow (g := wr.heap.size) (cs := #[.string ⟨#[97, 115, 52]⟩, .func (.func 78) #[] #[]]) (bl_alloc (bl_refl wr) (.cells #[.string ⟨#[]⟩, .nilFunc] 98)) (Nat.le_refl _); have hbr1 := bl_trans hbr hbS; generalize (wr.alloc (.cells #[.string ⟨#[]⟩, .nilFunc] 98)).setRow wr.heap.size #[.string ⟨#[97, 115, 52]⟩, .func (.func 78) #[] #[]] = V at *; have x0 := oN.cell (i := 0) rfl; have x1 := oN.cell (i := 1) rfl; have hl2 := oN.lt; clear hbr hbS oN) | (go_at_call 78; refine (rec0_any _ _).mono ?_; rintro e w' ⟨rfl, rfl⟩))
        go_ret
        exact ⟨by rw [hf.out]; rfl, hbr1⟩
      · have m1 : ¬ ([97, 115, 52] = nm.toList) := fun h => hq ((toList_iffO _ _).1 (h.symm.trans lit0_list.symm))
        have m2 : ([97, 115, 52] == nm.toList) = false := by simpa using m1
        have hnx := Lib.hid (show fIdx nm ≠ some 0 by
          intro h
          unfold fIdx at h
          repeat' split at h
          all_goals first
            | contradiction
            | (simp at h; done))
        clear hq
        go_wp2_with (first | (refine wpList_store_row rfl 98 _ _ rfl wr.heap.size #[.string ⟨#[97, 115, 52]⟩, .func (.func 78) #[] #[]] rfl rfl 98 #[.string ⟨#[]⟩, .nilFunc] (Own.new wr 98 #[.string ⟨#[]⟩, .nilFunc]) (fd_info _ _) rfl (fd_one _ _) ?_; have oN := (Own.new wr 98 #[.string ⟨#[]⟩, .nilFunc]).setRow (cs' := #[.string ⟨#[97, 115, 52]⟩, .func (.func 78) #[] #[]]); have hbS := bl_setRow (g := wr.heap.size) (cs := #[.string ⟨#[97, 115, 52]⟩, .func (.func 78) #[] #[]]) (bl_alloc (bl_refl wr) (.cells #[.string ⟨#[]⟩, .nilFunc] 98)) (Nat.le_refl _); have hbr1 := bl_trans hbr hbS; generalize (wr.alloc (.cells #[.string ⟨#[]⟩, .nilFunc] 98)).setRow wr.heap.size #[.string ⟨#[97, 115, 52]⟩, .func (.func 78) #[] #[]] = V at *; have x0 := oN.cell (i := 0) rfl; have x1 := oN.cell (i := 1) rfl; have hl2 := oN.lt; clear hbr hbS oN))
        go_roundw
        case rel => exact ⟨1, by omega, by go_num, fun j hj => (Nat.lt_or_ge j 0).elim (fun h => HN.out j h) (fun h => by cases (show j = 0 by omega); exact hnx.out), hbr1⟩
        case measure => simp [intOf]
    · have hidx := fidx1
      by_cases hq : nm = ⟨#[101, 120, 116, 101, 110, 100, 101, 100]⟩
      · subst hq
        have hf := Lib.hid (show fIdx ⟨#[101, 120, 116, 101, 110, 100, 101, 100]⟩ = some 1 by decide)
        clear HN
        go_wp2_with (first | (refine wpList_store_row rfl 98 _ _ rfl wr.heap.size #[.string ⟨#[101, 120, 116, 101, 110, 100, 101, 100]⟩, .func (.func 79) #[] #[]] rfl rfl 98 #[.string ⟨#[]⟩, .nilFunc] (Own.new wr 98 #[.string ⟨#[]⟩, .nilFunc]) (fd_info _ _) rfl (fd_one _ _) ?_; have oN := (Own.new wr 98 #[.string ⟨#[]⟩, .nilFunc]).setRow (cs' := #[.string ⟨#[101, 120, 116, 101, 110, 100, 101, 100]⟩, .func (.func 79) #[] #[]]); have hbS := bl_setRow (g := wr.heap.size) (cs := #[.string ⟨#[101, 120, 116, 101, 110, 100, 101, 100]⟩, .func (.func 79) #[] #[]]) (bl_alloc (bl_refl wr) (.cells #[.string ⟨#[]⟩, .nilFunc] 98)) (Nat.le_refl _); have hbr1 := bl_trans hbr hbS; generalize (wr.alloc (.cells #[.string ⟨#[]⟩, .nilFunc] 98)).setRow wr.heap.size #[.string ⟨#[101, 120, 116, 101, 110, 100, 101, 100]⟩, .func (.func 79) #[] #[]] = V at *; have x0 := oN.cell (i := 0) rfl; have x1 := oN.cell (i := 1) rfl; have hl2 := oN.lt; clear hbr hbS oN) | (go_at_call 79; refine (rec1_any _ _).mono ?_; rintro e w' ⟨rfl, rfl⟩))
        go_ret
        exact ⟨by rw [hf.out]; rfl, hbr1⟩
      · have m1 : ¬ ([101, 120, 116, 101, 110, 100, 101, 100] = nm.toList) := fun h => hq ((toList_iffO _ _).1 (h.symm.trans lit1_list.symm))
        have m2 : ([101, 120, 116, 101, 110, 100, 101, 100] == nm.toList) = false := by simpa using m1
        have hnx := Lib.hid (show fIdx nm ≠ some 1 by
          intro h
          unfold fIdx at h
          repeat' split at h
          all_goals first
            | contradiction
            | (simp at h; done))
        clear hq
        go_wp2_with (first | (refine wpList_store_row rfl 98 _ _ rfl wr.heap.size #[.string ⟨#[101, 120, 116, 101, 110, 100, 101, 100]⟩, .func (.func 79) #[] #[]] rfl rfl 98 #[.string ⟨#[]⟩, .nilFunc] (Own.new wr 98 #[.string ⟨#[]⟩, .nilFunc]) (fd_info _ _) rfl (fd_one _ _) ?_; have oN := (Own.new wr 98 #[.string ⟨#[]⟩, .nilFunc]).setRow (cs' := #[.string ⟨#[101, 120, 116, 101, 110, 100, 101, 100]⟩, .func (.func 79) #[] #[]]); have hbS := bl_setRow (g := wr.heap.size) (cs := #[.string ⟨#[101, 120, 116, 101, 110, 100, 101, 100]⟩, .func (.func 79) #[] #[]]) (bl_alloc (bl_refl wr) (.cells #[.string ⟨#[]⟩, .nilFunc] 98)) (Nat.le_refl _); have hbr1 := bl_trans hbr hbS; generalize (wr.alloc (.cells #[.string ⟨#[]⟩, .nilFunc] 98)).setRow wr.heap.size #[.string ⟨#[101, 120, 116, 101, 110, 100, 101, 100]⟩, .func (.func 79) #[] #[]] = V at *; have x0 := oN.cell (i := 0) rfl; have x1 := oN.cell (i := 1) rfl; have hl2 := oN.lt; clear hbr hbS oN))
        go_roundw
        case rel => exact ⟨2, by omega, by go_num, fun j hj => (Nat.lt_or_ge j 1).elim (fun h => HN.out j h) (fun h => by cases (show j = 1 by omega); exact hnx.out), hbr1⟩
        case measure => simp [intOf]
    · have hidx := fidx2
      by_cases hq : nm = ⟨#[109, 112, 52]⟩
      · subst hq
        have hf := Lib.hid (show fIdx ⟨#[109, 112, 52]⟩ = some 2 by decide)
        clear HN
        go_wp2_with (first | (refine wpList_store_row rfl 98 _ _ rfl wr.heap.size #[.string ⟨#[109, 112, 52]⟩, .func (.func 80) #[] #[]] rfl rfl 98 #[.string ⟨#[]⟩, .nilFunc] (Own.new wr 98 #[.string ⟨#[]⟩, .nilFunc]) (fd_info _ _) rfl (fd_one _ _) ?_; have oN := (Own.new wr 98 #[.string ⟨#[]⟩, .nilFunc]).setRow (cs' := #[.string ⟨#[109, 112, 52]⟩, .func (.func 80) #[] #[]]); have hbS := bl_setRow (g := wr.heap.size) (cs := #[.string ⟨#[109, 112, 52]⟩, .func (.func 80) #[] #[]]) (bl_alloc (bl_refl wr) (.cells #[.string ⟨#[]⟩, .nilFunc] 98)) (Nat.le_refl _); have hbr1 := bl_trans hbr hbS; generalize (wr.alloc (.cells #[.string ⟨#[]⟩, .nilFunc] 98)).setRow wr.heap.size #[.string ⟨#[109, 112, 52]⟩, .func (.func 80) #[] #[]] = V at *; have x0 := oN.cell (i := 0) rfl; have x1 := oN.cell (i := 1) rfl; have hl2 := oN.lt; clear hbr hbS oN) | (go_at_call 80; refine (rec2_any _ _).mono ?_; rintro e w' ⟨rfl, rfl⟩))
        go_ret
        exact ⟨by rw [hf.out]; rfl, hbr1⟩
      · have m1 : ¬ ([109, 112, 52] = nm.toList) := fun h => hq ((toList_iffO _ _).1 (h.symm.trans lit2_list.symm))
        have m2 : ([109, 112, 52] == nm.toList) = false := by simpa using m1
        have hnx := Lib.hid (show fIdx nm ≠ some 2 by
          intro h
          unfold fIdx at h
          repeat' split at h
          all_goals first
            | contradiction
            | (simp at h; done))
        clear hq
        go_wp2_with (first | (refine wpList_store_row rfl 98 _ _ rfl wr.heap.size #[.string ⟨#[109, 112, 52]⟩, .func (.func 80) #[] #[]] rfl rfl 98 #[.string ⟨#[]⟩, .nilFunc] (Own.new wr 98 #[.string ⟨#[]⟩, .nilFunc]) (fd_info _ _) rfl (fd_one _ _) ?_; have oN := (Own.new wr 98 #[.string ⟨#[]⟩, .nilFunc]).setRow (cs' := #[.string ⟨#[109, 112, 52]⟩, .func (.func 80) #[] #[]]); have hbS := bl_setRow (g := wr.heap.size) (cs := #[.string ⟨#[109, 112, 52]⟩, .func (.func 80) #[] #[]]) (bl_alloc (bl_refl wr) (.cells #[.string ⟨#[]⟩, .nilFunc] 98)) (Nat.le_refl _); have hbr1 := bl_trans hbr hbS; generalize (wr.alloc (.cells #[.string ⟨#[]⟩, .nilFunc] 98)).setRow wr.heap.size #[.string ⟨#[109, 112, 52]⟩, .func (.func 80) #[] #[]] = V at *; have x0 := oN.cell (i := 0) rfl; have x1 := oN.cell (i := 1) rfl; have hl2 := oN.lt; clear hbr hbS oN))
        go_roundw
        case rel => exact ⟨3, by omega, by go_num, fun j hj => (Nat.lt_or_ge j 2).elim (fun h => HN.out j h) (fun h => by cases (show j = 2 by omega); exact hnx.out), hbr1⟩
        case measure => simp [intOf]
    · have hidx := fidx3
      by_cases hq : nm = ⟨#[109, 112, 54]⟩
      · subst hq
        have hf := Lib.hid (show fIdx ⟨#[109, 112, 54]⟩ = some 3 by decide)
        clear HN
        go_wp2_with (first | (refine wpList_store_row rfl 98 _ _ rfl wr.heap.size #[.string ⟨#[109, 112, 54]⟩, .func (.func 81) #[] #[]] rfl rfl 98 #[.string ⟨#[]⟩, .nilFunc] (Own.new wr 98 #[.string ⟨#[]⟩, .nilFunc]) (fd_info _ _) rfl (fd_one _ _) ?_; have oN := (Own.new wr 98 #[.string ⟨#[]⟩, .nilFunc]).setRow (cs' := #[.string ⟨#[109, 112, 54]⟩, .func (.func 81) #[] #[]]); have hbS := bl_setRow (g := wr.heap.size) (cs := #[.string ⟨#[109, 112, 54]⟩, .func (.func 81) #[] #[]]) (bl_alloc (bl_refl wr) (.cells #[.string ⟨#[]⟩, .nilFunc] 98)) (Nat.le_refl _); have hbr1 := bl_trans hbr hbS; generalize (wr.alloc (.cells #[.string ⟨#[]⟩, .nilFunc] 98)).setRow wr.heap.size #[.string ⟨#[109, 112, 54]⟩, .func (.func 81) #[] #[]] = V at *; have x0 := oN.cell (i := 0) rfl; have x1 := oN.cell (i := 1) rfl; have hl2 := oN.lt; clear hbr hbS oN) | (go_at_call 81; refine (rec3_any _ _).mono ?_; rintro e w' ⟨rfl, rfl⟩))
        go_ret
        exact ⟨by rw [hf.out]; rfl, hbr1⟩
      · have m1 : ¬ ([109, 112, 54] = nm.toList) := fun h => hq ((toList_iffO _ _).1 (h.symm.trans lit3_list.symm))
        have m2 : ([109, 112, 54] == nm.toList) = false := by simpa using m1
        have hnx := Lib.hid (show fIdx nm ≠ some 3 by
          intro h
          unfold fIdx at h
          repeat' split at h
          all_goals first
            | contradiction
            | (simp at h; done))
        clear hq
        go_wp2_with (first | (refine wpList_store_row rfl 98 _ _ rfl wr.heap.size #[.string ⟨#[109, 112, 54]⟩, .func (.func 81) #[] #[]] rfl rfl 98 #[.string ⟨#[]⟩, .nilFunc] (Own.new wr 98 #[.string ⟨#[]⟩, .nilFunc]) (fd_info _ _) rfl (fd_one _ _) ?_; have oN := (Own.new wr 98 #[.string ⟨#[]⟩, .nilFunc]).setRow (cs' := #[.string ⟨#[109, 112, 54]⟩, .func (.func 81) #[] #[]]); have hbS := bl_setRow (g := wr.heap.size) (cs := #[.string ⟨#[109, 112, 54]⟩, .func (.func 81) #[] #[]]) (bl_alloc (bl_refl wr) (.cells #[.string ⟨#[]⟩, .nilFunc] 98)) (Nat.le_refl _); have hbr1 := bl_trans hbr hbS; generalize (wr.alloc (.cells #[.string ⟨#[]⟩, .nilFunc] 98)).setRow wr.heap.size #[.string ⟨#[109, 112, 54]⟩, .func (.func 81) #[] #[]] = V at *; have x0 := oN.cell (i := 0) rfl; have x1 := oN.cell (i := 1) rfl; have hl2 := oN.lt; clear hbr hbS oN))
        go_roundw
        case rel => exact ⟨4, by omega, by go_num, fun j hj => (Nat.lt_or_ge j 3).elim (fun h => HN.out j h) (fun h => by cases (show j = 3 by omega); exact hnx.out), hbr1⟩
        case measure => simp [intOf]
    · have hidx := fidx4
      by_cases hq : nm = ⟨#[97, 100, 100, 52]⟩
      · subst hq
        have hf := Lib.hid (show fIdx ⟨#[97, 100, 100, 52]⟩ = some 4 by decide)
        clear HN
        go_wp2_with (first | (refine wpList_store_row rfl 98 _ _ rfl wr.heap.size #[.string ⟨#[97, 100, 100, 52]⟩, .func (.func 82) #[] #[]] rfl rfl 98 #[.string ⟨#[]⟩, .nilFunc] (Own.new wr 98 #[.string ⟨#[]⟩, .nilFunc]) (fd_info _ _) rfl (fd_one _ _) ?_; have oN := (Own.new wr 98 #[.string ⟨#[]⟩, .nilFunc]).setRow (cs' := #[.string ⟨#[97, 100, 100, 52]⟩, .func (.func 82) #[] #[]]); have hbS := bl_setRow (g := wr.heap.size) (cs := #[.string ⟨#[97, 100, 100, 52]⟩, .func (.func 82) #[] #[]]) (bl_alloc (bl_refl wr) (.cells #[.string ⟨#[]⟩, .nilFunc] 98)) (Nat.le_refl _); have hbr1 := bl_trans hbr hbS; generalize (wr.alloc (.cells #[.string ⟨#[]⟩, .nilFunc] 98)).setRow wr.heap.size #[.string ⟨#[97, 100, 100, 52]⟩, .func (.func 82) #[] #[]] = V at *; have x0 := oN.cell (i := 0) rfl; have x1 := oN.cell (i := 1) rfl; have hl2 := oN.lt; clear hbr hbS oN) | (go_at_call 82; refine (rec4_any _ _).mono ?_; rintro e w' ⟨rfl, rfl⟩))
        go_ret
        exact ⟨by rw [hf.out]; rfl, hbr1⟩
      · have m1 : ¬ ([97, 100, 100, 52] = nm.toList) := fun h => hq ((toList_iffO _ _).1 (h.symm.trans lit4_list.symm))
        have m2 : ([97, 100, 100, 52] == nm.toList) = false := by simpa using m1
        have hnx := Lib.hid (show fIdx nm ≠ some 4 by
          intro h
          unfold fIdx at h
          repeat' split at h
          all_goals first
            | contradiction
            | (simp at h; done))
        clear hq
        go_wp2_with (first | (refine wpList_store_row rfl 98 _ _ rfl wr.heap.size #[.string ⟨#[97, 100, 100, 52]⟩, .func (.func 82) #[] #[]] rfl rfl 98 #[.string ⟨#[]⟩, .nilFunc] (Own.new wr 98 #[.string ⟨#[]⟩, .nilFunc]) (fd_info _ _) rfl (fd_one _ _) ?_; have oN := (Own.new wr 98 #[.string ⟨#[]⟩, .nilFunc]).setRow (cs' := #[.string ⟨#[97, 100, 100, 52]⟩, .func (.func 82) #[] #[]]); have hbS := bl_setRow (g := wr.heap.size) (cs := #[.string ⟨#[97, 100, 100, 52]⟩, .func (.func 82) #[] #[]]) (bl_alloc (bl_refl wr) (.cells #[.string ⟨#[]⟩, .nilFunc] 98)) (Nat.le_refl _); have hbr1 := bl_trans hbr hbS; generalize (wr.alloc (.cells #[.string ⟨#[]⟩, .nilFunc] 98)).setRow wr.heap.size #[.string ⟨#[97, 100, 100, 52]⟩, .func (.func 82) #[] #[]] = V at *; have x0 := oN.cell (i := 0) rfl; have x1 := oN.cell (i := 1) rfl; have hl2 := oN.lt; clear hbr hbS oN))
        go_roundw
        case rel => exact ⟨5, by omega, by go_num, fun j hj => (Nat.lt_or_ge j 4).elim (fun h => HN.out j h) (fun h => by cases (show j = 4 by omega); exact hnx.out), hbr1⟩
        case measure => simp [intOf]
    · have hidx := fidx5
      by_cases hq : nm = ⟨#[97, 100, 100, 54]⟩
      · subst hq
        have hf := Lib.hid (show fIdx ⟨#[97, 100, 100, 54]⟩ = some 5 by decide)
        clear HN
        go_wp2_with (first | (refine wpList_store_row rfl 98 _ _ rfl wr.heap.size #[.string ⟨#[97, 100, 100, 54]⟩, .func (.func 83) #[] #[]] rfl rfl 98 #[.string ⟨#[]⟩, .nilFunc] (Own.new wr 98 #[.string ⟨#[]⟩, .nilFunc]) (fd_info _ _) rfl (fd_one _ _) ?_; have oN := (Own.new wr 98 #[.string ⟨#[]⟩, .nilFunc]).setRow (cs' := #[.string ⟨#[97, 100, 100, 54]⟩, .func (.func 83) #[] #[]]); have hbS := bl_setRow (g := wr.heap.size) (cs := #[.string ⟨#[97, 100, 100, 54]⟩, .func (.func 83) #[] #[]]) (bl_alloc (bl_refl wr) (.cells #[.string ⟨#[]⟩, .nilFunc] 98)) (Nat.le_refl _); have hbr1 := bl_trans hbr hbS; generalize (wr.alloc (.cells #[.string ⟨#[]⟩, .nilFunc] 98)).setRow wr.heap.size #[.string ⟨#[97, 100, 100, 54]⟩, .func (.func 83) #[] #[]] = V at *; have x0 := oN.cell (i := 0) rfl; have x1 := oN.cell (i := 1) rfl; have hl2 := oN.lt; clear hbr hbS oN) | (go_at_call 83; refine (rec5_any _ _).mono ?_; rintro e w' ⟨rfl, rfl⟩))
        go_ret
        exact ⟨by rw [hf.out]; rfl, hbr1⟩
      · have m1 : ¬ ([97, 100, 100, 54] = nm.toList) := fun h => hq ((toList_iffO _ _).1 (h.symm.trans lit5_list.symm))
        have m2 : ([97, 100, 100, 54] == nm.toList) = false := by simpa using m1
        have hnx := Lib.hid (show fIdx nm ≠ some 5 by
          intro h
          unfold fIdx at h
          repeat' split at h
          all_goals first
            | contradiction
            | (simp at h; done))
        clear hq
        go_wp2_with (first | (refine wpList_store_row rfl 98 _ _ rfl wr.heap.size #[.string ⟨#[97, 100, 100, 54]⟩, .func (.func 83) #[] #[]] rfl rfl 98 #[.string ⟨#[]⟩, .nilFunc] (Own.new wr 98 #[.string ⟨#[]⟩, .nilFunc]) (fd_info _ _) rfl (fd_one _ _) ?_; have oN := (Own.new wr 98 #[.string ⟨#[]⟩, .nilFunc]).setRow (cs' := #[.string ⟨#[97, 100, 100, 54]⟩, .func (.func 83) #[] #[]]); have hbS := bl_setRow (g := wr.heap.size) (cs := #[.string ⟨#[97, 100, 100, 54]⟩, .func (.func 83) #[] #[]]) (bl_alloc (bl_refl wr) (.cells #[.string ⟨#[]⟩, .nilFunc] 98)) (Nat.le_refl _); have hbr1 := bl_trans hbr hbS; generalize (wr.alloc (.cells #[.string ⟨#[]⟩, .nilFunc] 98)).setRow wr.heap.size #[.string ⟨#[97, 100, 100, 54]⟩, .func (.func 83) #[] #[]] = V at *; have x0 := oN.cell (i := 0) rfl; have x1 := oN.cell (i := 1) rfl; have hl2 := oN.lt; clear hbr hbS oN))
        go_roundw
        case rel => exact ⟨6, by omega, by go_num, fun j hj => (Nat.lt_or_ge j 5).elim (fun h => HN.out j h) (fun h => by cases (show j = 5 by omega); exact hnx.out), hbr1⟩
        case measure => simp [intOf]
    · have hf := Lib.hid (show fIdx nm = none by
        cases h : fIdx nm with
        | none => rfl
        | some j => exact absurd h (HN.out j (fIdx_lt h)))
      clear HN
      go_wp2
      go_ret
      exact ⟨by rw [hf.out]; rfl, hbr⟩
end Go.Proofs.YtmcmhljonkijjaaDoor
