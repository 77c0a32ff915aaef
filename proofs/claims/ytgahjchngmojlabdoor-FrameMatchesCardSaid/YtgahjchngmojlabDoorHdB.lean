/- slices.Repeat of one byte 255, sixteen times -/
import Derived.Test.YtgahjchngmojlabDoorHdA
import Derived.Deep.RegionLaw
import Derived.Laws.CopyOwn
namespace Go.Proofs.YtgahjchngmojlabDoor
open Go.RowKit

set_option maxRecDepth 100000 in
theorem mul64_16 (w : World) : Calls Tryd.prog 68 #[.int .u64 1, .int .u64 16] w fun e w' => e = .returned (.tuple #[.int .u64 0, .int .u64 16]) ∧ w = w' := by
  have b1 : bits BinOp.and IntKind.u64 1 4294967295 = 1 := by decide
  have b2 : bits BinOp.and IntKind.u64 16 4294967295 = 16 := by decide
  have b3 : bits BinOp.and IntKind.u64 0 4294967295 = 0 := by decide
  go_enter Tryd.func68, Tryd.ntmps68
  go_wp2
  go_ret2
  exact ⟨rfl, rfl⟩
set_option maxRecDepth 100000 in
theorem mul_16 (w : World) : Calls Tryd.prog 62 #[.int .u64 1, .int .u64 16] w fun e w' => e = .returned (.tuple #[.int .u64 0, .int .u64 16]) ∧ w = w' := by
  go_enter Tryd.func62, Tryd.ntmps62
  go_wp2_with fail
  refine (mul64_16 _).mono ?_
  rintro e w1 ⟨rfl, rfl⟩
  go_wp2
  go_ret2
  exact ⟨rfl, rfl⟩
/-- n bytes 255, then zeros, sixteen together. -/
def rep (n : Nat) : List Value := List.replicate n (.int .u8 255) ++ List.replicate (16 - n) (.int .u8 0)
theorem rep_len {n : Nat} (h : n ≤ 16) : (rep n).length = 16 := by simp [rep]; omega
theorem rep_one (n : Nat) : ∀ v ∈ List.replicate n (Value.int .u8 255), v.oneCell' = true := by
  intro v hv
  rw [List.mem_replicate] at hv
  rw [hv.2]; rfl
theorem rep_get {n j : Nat} {v : Value} (h : (List.replicate n (Value.int .u8 255))[j]? = some v) : (rep n).toArray[j]? = some v := by
  have hj := (List.getElem?_eq_some_iff.1 h).1
  rw [List.getElem?_toArray, rep, List.getElem?_append_left hj, h]
theorem rep_src {W : World} {h k : Nat} {T : TypeId} (ok : Own W h T (rep k).toArray) (B : Option Addr) (hB : B = some ⟨h, k, none⟩) : 0 < (List.replicate k (Value.int .u8 255)).length → B = some ⟨h, k, none⟩ ∧ ∃ ad, (some ⟨h, 0, none⟩ : Option Addr) = some ad ∧ ∀ j v, (List.replicate k (Value.int .u8 255))[j]? = some v → W.cell? (ad.add j) = some v := by
  intro _
  refine ⟨hB, _, rfl, fun j v hv => ?_⟩
  rw [Addr.add_lit]
  exact ok.cell (by rw [Nat.zero_add]; exact rep_get hv)
theorem rep_1 : splice (rep 1) 1 (List.replicate 1 (.int .u8 255)) = rep 2 := rfl
theorem rep_2 : splice (rep 2) 2 (List.replicate 2 (.int .u8 255)) = rep 4 := rfl
theorem rep_4 : splice (rep 4) 4 (List.replicate 4 (.int .u8 255)) = rep 8 := rfl
theorem rep_8 : splice (rep 8) 8 (List.replicate 8 (.int .u8 255)) = rep 16 := rfl
set_option maxRecDepth 100000 in
set_option maxHeartbeats 1600000 in
theorem repeat16 (g : Nat) (T : TypeId) (w : World) (hg : g < w.heap.size) (ho : Own w g T #[.int .u8 255]) :
    Calls Tryd.prog 50 #[.slice (some ⟨g, 0, none⟩) 1 1, .int .i64 16] w fun e w' => e = .returned (.slice (some ⟨w.heap.size, 0, none⟩) 16 16) ∧ Own w' w.heap.size 5 (rep 16).toArray ∧ Below w.heap.size w w' := by
  have hmk : ∀ w, (Instr.makeSlice 26 (.int .i64 16) (.int .i64 16)).run Tryd.prog w = .ok (.slice (some ⟨w.heap.size, 0, none⟩) 16 16) (w.alloc (.cells (rep 0).toArray 5)) := fun _ => by kernel_rfl
  have o0 := Own.new w 5 (rep 0).toArray
  have hb0 := bl_alloc (bl_refl w) (.cells (rep 0).toArray 5)
  have og := ho.alloc (.cells (rep 0).toArray 5)
  have h16 : IntKind.u64.wrap 16 = 16 := by decide
  go_enter Tryd.func50, Tryd.ntmps50
  go_wp2_with fail
  refine (mul_16 _).mono ?_
  rintro e w1 ⟨rfl, rfl⟩
  go_wp2_with (refine wpList_copy_splice rfl _ _ 26 26 rfl 5 Tryd.underlying26 (by kernel_rfl) _ _ _ _ _ _ rfl rfl w.heap.size 0 (rep 0) 5 o0 (List.replicate 1 (.int .u8 255)) ?c0 ?c1 ?c2 (rep_one 1) w.heap.size w hb0 (Nat.le_refl _) ?_)
  case c0 => rfl
  case c2 => decide
  case c1 =>
    intro j v hv
    have hj := (List.getElem?_eq_some_iff.1 hv).1
    obtain rfl : j = 0 := by simpa using hj
    have e : v = .int .u8 255 := by simpa using hv.symm
    rw [e]
    exact ho.cell rfl
  intro w2 hw2 hb2
  have o2 : Own w2 w.heap.size 5 (rep 1).toArray := hw2.out
  clear hw2 o0 hb0 og ho
  go_wp2
  go_loopw [8] (fun i wr => ((i = .int .i64 1 ∧ Own wr w.heap.size 5 (rep 1).toArray) ∨ (i = .int .i64 2 ∧ Own wr w.heap.size 5 (rep 2).toArray) ∨ (i = .int .i64 4 ∧ Own wr w.heap.size 5 (rep 4).toArray) ∨ (i = .int .i64 8 ∧ Own wr w.heap.size 5 (rep 8).toArray) ∨ (i = .int .i64 16 ∧ Own wr w.heap.size 5 (rep 16).toArray)) ∧ Below w.heap.size w wr) (fun i _ => 16 - (intOf i).toNat)
  case atStart => exact ⟨.inl ⟨rfl, o2⟩, hb2⟩
  case round =>
    obtain ⟨hk, hbk⟩ := hrel
    rcases hk with ⟨rfl, ok⟩ | ⟨rfl, ok⟩ | ⟨rfl, ok⟩ | ⟨rfl, ok⟩ | ⟨rfl, ok⟩
    · go_wp2_with fail
      go_region_law (refine step_copy_splice rfl (.tmp 41) (.tmp 44) 26 26 rfl 5 Tryd.underlying26 (by kernel_rfl) (some ⟨w.heap.size, 1, none⟩) (some ⟨w.heap.size, 0, none⟩) 15 15 1 16 (by simp [Act.eval, Act.put]) (by simp [Act.eval, Act.put]) w.heap.size 1 (rep 1) 5 ok.drew (List.replicate 1 (.int .u8 255)) rfl (rep_src ok.drew _ rfl) (by decide) (rep_one 1) w.heap.size w hbk.drew (Nat.le_refl _) ?_; intro w4 hg4 hb4)
      have o4 : Own w4 w.heap.size 5 (rep 2).toArray := by have h := hg4.out; rw [rep_1] at h; exact h
      simp only [Act.put, List.getElem_toArray, List.getElem_cons_zero, List.getElem_cons_succ, List.setIfInBounds_toArray, List.set_cons_zero, List.set_cons_succ]
      go_wp2
      go_roundw
      case rel => exact ⟨.inr (.inl ⟨rfl, o4⟩), hb4⟩
      case measure =>
        simp [intOf]
        try decide
    · go_wp2_with fail
      go_region_law (refine step_copy_splice rfl (.tmp 41) (.tmp 44) 26 26 rfl 5 Tryd.underlying26 (by kernel_rfl) (some ⟨w.heap.size, 2, none⟩) (some ⟨w.heap.size, 0, none⟩) 14 14 2 16 (by simp [Act.eval, Act.put]) (by simp [Act.eval, Act.put]) w.heap.size 2 (rep 2) 5 ok.drew (List.replicate 2 (.int .u8 255)) rfl (rep_src ok.drew _ rfl) (by decide) (rep_one 2) w.heap.size w hbk.drew (Nat.le_refl _) ?_; intro w4 hg4 hb4)
      have o4 : Own w4 w.heap.size 5 (rep 4).toArray := by have h := hg4.out; rw [rep_2] at h; exact h
      simp only [Act.put, List.getElem_toArray, List.getElem_cons_zero, List.getElem_cons_succ, List.setIfInBounds_toArray, List.set_cons_zero, List.set_cons_succ]
      go_wp2
      go_roundw
      case rel => exact ⟨.inr (.inr (.inl ⟨rfl, o4⟩)), hb4⟩
      case measure =>
        simp [intOf]
        try decide
    · go_wp2_with fail
      go_region_law (refine step_copy_splice rfl (.tmp 41) (.tmp 44) 26 26 rfl 5 Tryd.underlying26 (by kernel_rfl) (some ⟨w.heap.size, 4, none⟩) (some ⟨w.heap.size, 0, none⟩) 12 12 4 16 (by simp [Act.eval, Act.put]) (by simp [Act.eval, Act.put]) w.heap.size 4 (rep 4) 5 ok.drew (List.replicate 4 (.int .u8 255)) rfl (rep_src ok.drew _ rfl) (by decide) (rep_one 4) w.heap.size w hbk.drew (Nat.le_refl _) ?_; intro w4 hg4 hb4)
      have o4 : Own w4 w.heap.size 5 (rep 8).toArray := by have h := hg4.out; rw [rep_4] at h; exact h
      simp only [Act.put, List.getElem_toArray, List.getElem_cons_zero, List.getElem_cons_succ, List.setIfInBounds_toArray, List.set_cons_zero, List.set_cons_succ]
      go_wp2
      go_roundw
      case rel => exact ⟨.inr (.inr (.inr (.inl ⟨rfl, o4⟩))), hb4⟩
      case measure =>
        simp [intOf]
        try decide
    · go_wp2_with fail
      go_region_law (refine step_copy_splice rfl (.tmp 41) (.tmp 44) 26 26 rfl 5 Tryd.underlying26 (by kernel_rfl) (some ⟨w.heap.size, 8, none⟩) (some ⟨w.heap.size, 0, none⟩) 8 8 8 16 (by simp [Act.eval, Act.put]) (by simp [Act.eval, Act.put]) w.heap.size 8 (rep 8) 5 ok.drew (List.replicate 8 (.int .u8 255)) rfl (rep_src ok.drew _ rfl) (by decide) (rep_one 8) w.heap.size w hbk.drew (Nat.le_refl _) ?_; intro w4 hg4 hb4)
      have o4 : Own w4 w.heap.size 5 (rep 16).toArray := by have h := hg4.out; rw [rep_8] at h; exact h
      simp only [Act.put, List.getElem_toArray, List.getElem_cons_zero, List.getElem_cons_succ, List.setIfInBounds_toArray, List.set_cons_zero, List.set_cons_succ]
      go_wp2
      go_roundw
      case rel => exact ⟨.inr (.inr (.inr (.inr ⟨rfl, o4⟩))), hb4⟩
      case measure =>
        simp [intOf]
        try decide
    · go_wp2
      go_ret
      exact ⟨rfl, ok, hbk⟩
end Go.Proofs.YtgahjchngmojlabDoor
