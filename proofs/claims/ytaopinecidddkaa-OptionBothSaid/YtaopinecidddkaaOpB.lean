/- option.Both -/
import Derived.Test.YtaopinecidddkaaOpA
import Derived.RegionTactic
import Derived.ChangeAlike
import Derived.Deep.DeepCutAuto
namespace Go.Proofs.Ytaopinecidddkaa
open Go.RowKit Go.Sort

def opZ : Array Value := #[.bool false, .bool false, .bool false, .bool false, .bool false, .bool false]
def BothR (w wx : World) (A B : Array Value) (x y z : Value) : Prop :=
  ∃ gx gy gb : Nat, x = .pointer (some ⟨gx, 0, none⟩) ∧ y = .pointer (some ⟨gy, 0, none⟩) ∧ z = .pointer (some ⟨gb, 0, none⟩) ∧ (gx ≠ gb ∧ gy ≠ gb ∧ gb ≠ w.heap.size + 1 + 1 ∧ w.heap.size ≤ gb) ∧ Own wx gx 65 A ∧ Own wx gy 65 B ∧ Own wx gb 65 opZ ∧ Own wx (w.heap.size + 1 + 1) 43 opZ ∧ Below w.heap.size w wx
theorem alloc_size (w : World) (o : Obj) : (w.alloc o).heap.size = w.heap.size + 1 := by simp
theorem bothR_0 (w : World) (a b A B : Array Value) : BothR w ((((((w.alloc (.cells a 43)).alloc (.cells b 43)).alloc (.cells opZ 43)).alloc (.cells A 65)).alloc (.cells B 65)).alloc (.cells opZ 65)).drew A B (.pointer (some ⟨w.heap.size + 1 + 1 + 1, 0, none⟩)) (.pointer (some ⟨w.heap.size + 1 + 1 + 1 + 1, 0, none⟩)) (.pointer (some ⟨w.heap.size + 1 + 1 + 1 + 1 + 1, 0, none⟩)) := by
  have z2 := Own.new ((w.alloc (.cells a 43)).alloc (.cells b 43)) 43 opZ
  have z3 := Own.new (((w.alloc (.cells a 43)).alloc (.cells b 43)).alloc (.cells opZ 43)) 65 A
  have z4 := Own.new ((((w.alloc (.cells a 43)).alloc (.cells b 43)).alloc (.cells opZ 43)).alloc (.cells A 65)) 65 B
  have z5 := Own.new (((((w.alloc (.cells a 43)).alloc (.cells b 43)).alloc (.cells opZ 43)).alloc (.cells A 65)).alloc (.cells B 65)) 65 opZ
  simp only [alloc_size] at z2 z3 z4 z5
  have hb := bl_alloc (bl_alloc (bl_alloc (bl_alloc (bl_alloc (bl_alloc (bl_refl w) (.cells a 43)) (.cells b 43)) (.cells opZ 43)) (.cells A 65)) (.cells B 65)) (.cells opZ 65)
  exact ⟨_, _, _, rfl, rfl, rfl, ⟨by omega, by omega, by omega, by omega⟩, ((z3.alloc _).alloc _).drew, (z4.alloc _).drew, z5.drew, (((z2.alloc _).alloc _).alloc _).drew, hb.drew⟩
theorem bothR_1 (w : World) (a b A B : Array Value) : BothR w ((((((w.alloc (.cells a 43)).alloc (.cells b 43)).alloc (.cells opZ 43)).alloc (.cells A 65)).alloc (.cells opZ 65)).alloc (.cells B 65)).drew A B (.pointer (some ⟨w.heap.size + 1 + 1 + 1, 0, none⟩)) (.pointer (some ⟨w.heap.size + 1 + 1 + 1 + 1 + 1, 0, none⟩)) (.pointer (some ⟨w.heap.size + 1 + 1 + 1 + 1, 0, none⟩)) := by
  have z2 := Own.new ((w.alloc (.cells a 43)).alloc (.cells b 43)) 43 opZ
  have z3 := Own.new (((w.alloc (.cells a 43)).alloc (.cells b 43)).alloc (.cells opZ 43)) 65 A
  have z4 := Own.new ((((w.alloc (.cells a 43)).alloc (.cells b 43)).alloc (.cells opZ 43)).alloc (.cells A 65)) 65 opZ
  have z5 := Own.new (((((w.alloc (.cells a 43)).alloc (.cells b 43)).alloc (.cells opZ 43)).alloc (.cells A 65)).alloc (.cells opZ 65)) 65 B
  simp only [alloc_size] at z2 z3 z4 z5
  have hb := bl_alloc (bl_alloc (bl_alloc (bl_alloc (bl_alloc (bl_alloc (bl_refl w) (.cells a 43)) (.cells b 43)) (.cells opZ 43)) (.cells A 65)) (.cells opZ 65)) (.cells B 65)
  exact ⟨_, _, _, rfl, rfl, rfl, ⟨by omega, by omega, by omega, by omega⟩, ((z3.alloc _).alloc _).drew, z5.drew, (z4.alloc _).drew, (((z2.alloc _).alloc _).alloc _).drew, hb.drew⟩
theorem bothR_2 (w : World) (a b A B : Array Value) : BothR w ((((((w.alloc (.cells a 43)).alloc (.cells b 43)).alloc (.cells opZ 43)).alloc (.cells B 65)).alloc (.cells A 65)).alloc (.cells opZ 65)).drew A B (.pointer (some ⟨w.heap.size + 1 + 1 + 1 + 1, 0, none⟩)) (.pointer (some ⟨w.heap.size + 1 + 1 + 1, 0, none⟩)) (.pointer (some ⟨w.heap.size + 1 + 1 + 1 + 1 + 1, 0, none⟩)) := by
  have z2 := Own.new ((w.alloc (.cells a 43)).alloc (.cells b 43)) 43 opZ
  have z3 := Own.new (((w.alloc (.cells a 43)).alloc (.cells b 43)).alloc (.cells opZ 43)) 65 B
  have z4 := Own.new ((((w.alloc (.cells a 43)).alloc (.cells b 43)).alloc (.cells opZ 43)).alloc (.cells B 65)) 65 A
  have z5 := Own.new (((((w.alloc (.cells a 43)).alloc (.cells b 43)).alloc (.cells opZ 43)).alloc (.cells B 65)).alloc (.cells A 65)) 65 opZ
  simp only [alloc_size] at z2 z3 z4 z5
  have hb := bl_alloc (bl_alloc (bl_alloc (bl_alloc (bl_alloc (bl_alloc (bl_refl w) (.cells a 43)) (.cells b 43)) (.cells opZ 43)) (.cells B 65)) (.cells A 65)) (.cells opZ 65)
  exact ⟨_, _, _, rfl, rfl, rfl, ⟨by omega, by omega, by omega, by omega⟩, (z4.alloc _).drew, ((z3.alloc _).alloc _).drew, z5.drew, (((z2.alloc _).alloc _).alloc _).drew, hb.drew⟩
theorem bothR_3 (w : World) (a b A B : Array Value) : BothR w ((((((w.alloc (.cells a 43)).alloc (.cells b 43)).alloc (.cells opZ 43)).alloc (.cells B 65)).alloc (.cells opZ 65)).alloc (.cells A 65)).drew A B (.pointer (some ⟨w.heap.size + 1 + 1 + 1 + 1 + 1, 0, none⟩)) (.pointer (some ⟨w.heap.size + 1 + 1 + 1, 0, none⟩)) (.pointer (some ⟨w.heap.size + 1 + 1 + 1 + 1, 0, none⟩)) := by
  have z2 := Own.new ((w.alloc (.cells a 43)).alloc (.cells b 43)) 43 opZ
  have z3 := Own.new (((w.alloc (.cells a 43)).alloc (.cells b 43)).alloc (.cells opZ 43)) 65 B
  have z4 := Own.new ((((w.alloc (.cells a 43)).alloc (.cells b 43)).alloc (.cells opZ 43)).alloc (.cells B 65)) 65 opZ
  have z5 := Own.new (((((w.alloc (.cells a 43)).alloc (.cells b 43)).alloc (.cells opZ 43)).alloc (.cells B 65)).alloc (.cells opZ 65)) 65 A
  simp only [alloc_size] at z2 z3 z4 z5
  have hb := bl_alloc (bl_alloc (bl_alloc (bl_alloc (bl_alloc (bl_alloc (bl_refl w) (.cells a 43)) (.cells b 43)) (.cells opZ 43)) (.cells B 65)) (.cells opZ 65)) (.cells A 65)
  exact ⟨_, _, _, rfl, rfl, rfl, ⟨by omega, by omega, by omega, by omega⟩, z5.drew, ((z3.alloc _).alloc _).drew, (z4.alloc _).drew, (((z2.alloc _).alloc _).alloc _).drew, hb.drew⟩
theorem bothR_4 (w : World) (a b A B : Array Value) : BothR w ((((((w.alloc (.cells a 43)).alloc (.cells b 43)).alloc (.cells opZ 43)).alloc (.cells opZ 65)).alloc (.cells A 65)).alloc (.cells B 65)).drew A B (.pointer (some ⟨w.heap.size + 1 + 1 + 1 + 1, 0, none⟩)) (.pointer (some ⟨w.heap.size + 1 + 1 + 1 + 1 + 1, 0, none⟩)) (.pointer (some ⟨w.heap.size + 1 + 1 + 1, 0, none⟩)) := by
  have z2 := Own.new ((w.alloc (.cells a 43)).alloc (.cells b 43)) 43 opZ
  have z3 := Own.new (((w.alloc (.cells a 43)).alloc (.cells b 43)).alloc (.cells opZ 43)) 65 opZ
  have z4 := Own.new ((((w.alloc (.cells a 43)).alloc (.cells b 43)).alloc (.cells opZ 43)).alloc (.cells opZ 65)) 65 A
  have z5 := Own.new (((((w.alloc (.cells a 43)).alloc (.cells b 43)).alloc (.cells opZ 43)).alloc (.cells opZ 65)).alloc (.cells A 65)) 65 B
  simp only [alloc_size] at z2 z3 z4 z5
  have hb := bl_alloc (bl_alloc (bl_alloc (bl_alloc (bl_alloc (bl_alloc (bl_refl w) (.cells a 43)) (.cells b 43)) (.cells opZ 43)) (.cells opZ 65)) (.cells A 65)) (.cells B 65)
  exact ⟨_, _, _, rfl, rfl, rfl, ⟨by omega, by omega, by omega, by omega⟩, (z4.alloc _).drew, z5.drew, ((z3.alloc _).alloc _).drew, (((z2.alloc _).alloc _).alloc _).drew, hb.drew⟩
theorem bothR_5 (w : World) (a b A B : Array Value) : BothR w ((((((w.alloc (.cells a 43)).alloc (.cells b 43)).alloc (.cells opZ 43)).alloc (.cells opZ 65)).alloc (.cells B 65)).alloc (.cells A 65)).drew A B (.pointer (some ⟨w.heap.size + 1 + 1 + 1 + 1 + 1, 0, none⟩)) (.pointer (some ⟨w.heap.size + 1 + 1 + 1 + 1, 0, none⟩)) (.pointer (some ⟨w.heap.size + 1 + 1 + 1, 0, none⟩)) := by
  have z2 := Own.new ((w.alloc (.cells a 43)).alloc (.cells b 43)) 43 opZ
  have z3 := Own.new (((w.alloc (.cells a 43)).alloc (.cells b 43)).alloc (.cells opZ 43)) 65 opZ
  have z4 := Own.new ((((w.alloc (.cells a 43)).alloc (.cells b 43)).alloc (.cells opZ 43)).alloc (.cells opZ 65)) 65 B
  have z5 := Own.new (((((w.alloc (.cells a 43)).alloc (.cells b 43)).alloc (.cells opZ 43)).alloc (.cells opZ 65)).alloc (.cells B 65)) 65 A
  simp only [alloc_size] at z2 z3 z4 z5
  have hb := bl_alloc (bl_alloc (bl_alloc (bl_alloc (bl_alloc (bl_alloc (bl_refl w) (.cells a 43)) (.cells b 43)) (.cells opZ 43)) (.cells opZ 65)) (.cells B 65)) (.cells A 65)
  exact ⟨_, _, _, rfl, rfl, rfl, ⟨by omega, by omega, by omega, by omega⟩, z5.drew, (z4.alloc _).drew, ((z3.alloc _).alloc _).drew, (((z2.alloc _).alloc _).alloc _).drew, hb.drew⟩
theorem op_one (a b c d e f : Bool) : (#[Value.bool a, .bool b, .bool c, .bool d, .bool e, .bool f] : Array Value).all (·.oneCell') = true := by simp [Value.oneCell']
def accB (a0 a1 a2 a3 a4 a5 b0 b1 b2 b3 b4 b5 : Bool) : Nat → Array Value
  | 0 => #[.bool false, .bool false, .bool false, .bool false, .bool false, .bool false]
  | 1 => #[.bool (a0 && b0), .bool false, .bool false, .bool false, .bool false, .bool false]
  | 2 => #[.bool (a0 && b0), .bool (a1 && b1), .bool false, .bool false, .bool false, .bool false]
  | 3 => #[.bool (a0 && b0), .bool (a1 && b1), .bool (a2 && b2), .bool false, .bool false, .bool false]
  | 4 => #[.bool (a0 && b0), .bool (a1 && b1), .bool (a2 && b2), .bool (a3 && b3), .bool false, .bool false]
  | 5 => #[.bool (a0 && b0), .bool (a1 && b1), .bool (a2 && b2), .bool (a3 && b3), .bool (a4 && b4), .bool false]
  | _ => #[.bool (a0 && b0), .bool (a1 && b1), .bool (a2 && b2), .bool (a3 && b3), .bool (a4 && b4), .bool (a5 && b5)]
theorem set_acc {w : World} {g : Nat} {T : TypeId} {cs ds : Array Value} {i : Nat} {v : Value} (h : Own w g T cs) (e : cs.setIfInBounds i v = ds) : Own (w.setCell ⟨g, i, none⟩ v) g T ds := by
  rw [← e]
  exact h.set_ i v
def bothV (a0 a1 a2 a3 a4 a5 b0 b1 b2 b3 b4 b5 : Bool) : Array Value := #[.bool (a0 && b0), .bool (a1 && b1), .bool (a2 && b2), .bool (a3 && b3), .bool (a4 && b4), .bool ((a5 && b5) && (a3 && b3))]
set_option maxRecDepth 100000 in
set_option maxHeartbeats 12800000 in
theorem oboth_any (a0 a1 a2 a3 a4 a5 b0 b1 b2 b3 b4 b5 : Bool) (w : World) :
    Calls Try.prog 28 #[.agg #[.bool a0, .bool a1, .bool a2, .bool a3, .bool a4, .bool a5], .agg #[.bool b0, .bool b1, .bool b2, .bool b3, .bool b4, .bool b5]] w fun e w' => e = .returned (.agg (bothV a0 a1 a2 a3 a4 a5 b0 b1 b2 b3 b4 b5)) ∧ Below w.heap.size w w' := by
  go_enter Try.func28, Try.ntmps28
  go_upto_region 1 with fail
  go_cut [5, 6, 7] (fun x y z wx => BothR w wx #[.bool a0, .bool a1, .bool a2, .bool a3, .bool a4, .bool a5] #[.bool b0, .bool b1, .bool b2, .bool b3, .bool b4, .bool b5] x y z)
  case first =>
    go_region
    all_goals (go_wp2_with fail; go_meet)
    all_goals first | exact bothR_0 w _ _ _ _ | exact bothR_1 w _ _ _ _ | exact bothR_2 w _ _ _ _ | exact bothR_3 w _ _ _ _ | exact bothR_4 w _ _ _ _ | exact bothR_5 w _ _ _ _
  case rest =>
  obtain ⟨gx, gy, gb, rfl, rfl, rfl, ⟨n1, n2, n3, n4⟩, ox, oy, ob, oz, hb0⟩ := hcut
  go_wp2_with fail
  refine (fields_any _).mono ?_
  rintro e w1 ⟨rfl, hb1⟩
  have px := ox.step hb1
  have py := oy.step hb1
  have pb := ob.step hb1
  have pz := oz.step hb1
  have hb2 := bl_trans hb0 hb1
  clear ox oy ob oz hb0 hb1
  go_wp2_with fail
  go_loopw [16] (fun i wr => ∃ k : Nat, k ≤ 6 ∧ i = .int .i64 k ∧ Own wr gx 65 #[.bool a0, .bool a1, .bool a2, .bool a3, .bool a4, .bool a5] ∧ Own wr gy 65 #[.bool b0, .bool b1, .bool b2, .bool b3, .bool b4, .bool b5] ∧ Own wr gb 65 (accB a0 a1 a2 a3 a4 a5 b0 b1 b2 b3 b4 b5 k) ∧ Own wr (w.heap.size + 1 + 1) 43 opZ ∧ Below w.heap.size w wr) (fun i _ => 6 - (intOf i).toNat)
  case atStart => exact ⟨0, by omega, rfl, px, py, pb, pz, hb2⟩
  case round =>
    obtain ⟨k, hk, rfl, qx, qy, qb, qz, hbr⟩ := hrel
    clear px py pb pz hb2
    have hk6 : k = 0 ∨ k = 1 ∨ k = 2 ∨ k = 3 ∨ k = 4 ∨ k = 5 ∨ k = 6 := by omega
    rcases hk6 with rfl | rfl | rfl | rfl | rfl | rfl | rfl
    · have hidx := fidx0
      by_cases hb : a0 = true
      · have HB := Lib.hid (show a0 = true by simpa using hb)
        clear hb
        go_wp2_with (refine wpList_store_row rfl 68 _ _ rfl wr.heap.size #[.string ⟨#[97, 115, 52]⟩, .func (.func 53) #[] #[]] rfl rfl 68 #[.string ⟨#[]⟩, .nilFunc] (Own.new wr 68 #[.string ⟨#[]⟩, .nilFunc]) (fd_info _ _) rfl (fd_one _ _) ?_; have oN := (Own.new wr 68 #[.string ⟨#[]⟩, .nilFunc]).setRow (cs' := #[.string ⟨#[97, 115, 52]⟩, .func (.func 53) #[] #[]]); have hbS := bl_setRow (g := wr.heap.size) (cs := #[.string ⟨#[97, 115, 52]⟩, .func (.func 53) #[] #[]]) (bl_alloc (bl_refl wr) (.cells #[.string ⟨#[]⟩, .nilFunc] 68)) (Nat.le_refl _); have rx := qx.step hbS; have ry := qy.step hbS; have rb := qb.step hbS; have rz := qz.step hbS; have hbt := bl_trans hbr hbS; generalize (wr.alloc (.cells #[.string ⟨#[]⟩, .nilFunc] 68)).setRow wr.heap.size #[.string ⟨#[97, 115, 52]⟩, .func (.func 53) #[] #[]] = V at *; clear qx qy qb qz hbr hbS)
        have x0 := oN.cell (i := 0) rfl
        have x1 := oN.cell (i := 1) rfl
        have hc : V.cell? ⟨gx, 0, none⟩ = some (.bool true) := by have := rx.cell (i := 0) (v := .bool a0) rfl; rw [HB.out] at this; exact this
        have hy : V.cell? ⟨gy, 0, none⟩ = some (.bool b0) := ry.cell (i := 0) (v := .bool b0) rfl
        have hB : V.cell? ⟨gb, 0, none⟩ = some (.bool false) := rb.cell (i := 0) (v := .bool false) rfl
        have hF := rb.frozen 0
        have m1 := (rec0_any gb V.drew).mono (fun e w' h => show e = .returned (.pointer (some ⟨gb, 0, none⟩)) ∧ w' = V.drew from ⟨h.1, h.2.symm⟩)
        have m2 := (rec0_any gx V.drew).mono (fun e w' h => show e = .returned (.pointer (some ⟨gx, 0, none⟩)) ∧ w' = V.drew from ⟨h.1, h.2.symm⟩)
        have m3 := (rec0_any gy V.drew).mono (fun e w' h => show e = .returned (.pointer (some ⟨gy, 0, none⟩)) ∧ w' = V.drew from ⟨h.1, h.2.symm⟩)
        have M1 := Lib.hid m1
        have M2 := Lib.hid m2
        have M3 := Lib.hid m3
        clear m1 m2 m3
        refine wp_region_still_tail 16 (by kernel_rfl) (by kernel_rfl) ?_
        simp only [List.take_succ_cons, List.take_zero, List.drop_succ_cons, List.drop_zero]
        repeat still_step
        still_call M1.out
        repeat still_step
        still_call M2.out
        repeat still_step
        still_call M3.out
        repeat still_step
        refine wpStill_nil ?_
        change wpList _ _ _ _ _ V.drew
        have sx := rx.drew
        have sy := ry.drew
        have sb := rb.drew
        have sz := rz.drew
        have hbv := hbt.drew
        have kB : V.drew.cell? ⟨gb, 0, none⟩ = some (.bool false) := hB
        have kF : V.drew.frozen? ⟨gb, 0, none⟩ = false := hF
        clear rx ry rb rz hbt x0 x1 hc hy hB hF oN M1 M2 M3
        generalize V.drew = U at *
        go_wp2
        go_roundw
        case rel => exact ⟨1, by omega, by go_num, sx.far n1 _, sy.far n2 _, set_acc sb (by rw [show (.bool b0 : Value) = .bool (a0 && b0) by rw [HB.out]; rfl]; rfl), sz.far (Ne.symm n3) _, hbv.setCell n4 _⟩
        case measure => simp [intOf]
      · have HB := Lib.hid (show a0 = false by simpa using hb)
        clear hb
        go_wp2_with (refine wpList_store_row rfl 68 _ _ rfl wr.heap.size #[.string ⟨#[97, 115, 52]⟩, .func (.func 53) #[] #[]] rfl rfl 68 #[.string ⟨#[]⟩, .nilFunc] (Own.new wr 68 #[.string ⟨#[]⟩, .nilFunc]) (fd_info _ _) rfl (fd_one _ _) ?_; have oN := (Own.new wr 68 #[.string ⟨#[]⟩, .nilFunc]).setRow (cs' := #[.string ⟨#[97, 115, 52]⟩, .func (.func 53) #[] #[]]); have hbS := bl_setRow (g := wr.heap.size) (cs := #[.string ⟨#[97, 115, 52]⟩, .func (.func 53) #[] #[]]) (bl_alloc (bl_refl wr) (.cells #[.string ⟨#[]⟩, .nilFunc] 68)) (Nat.le_refl _); have rx := qx.step hbS; have ry := qy.step hbS; have rb := qb.step hbS; have rz := qz.step hbS; have hbt := bl_trans hbr hbS; generalize (wr.alloc (.cells #[.string ⟨#[]⟩, .nilFunc] 68)).setRow wr.heap.size #[.string ⟨#[97, 115, 52]⟩, .func (.func 53) #[] #[]] = V at *; clear qx qy qb qz hbr hbS)
        have x0 := oN.cell (i := 0) rfl
        have x1 := oN.cell (i := 1) rfl
        have hc : V.cell? ⟨gx, 0, none⟩ = some (.bool false) := by have := rx.cell (i := 0) (v := .bool a0) rfl; rw [HB.out] at this; exact this
        have hy : V.cell? ⟨gy, 0, none⟩ = some (.bool b0) := ry.cell (i := 0) (v := .bool b0) rfl
        have hB : V.cell? ⟨gb, 0, none⟩ = some (.bool false) := rb.cell (i := 0) (v := .bool false) rfl
        have hF := rb.frozen 0
        have m1 := (rec0_any gb V.drew).mono (fun e w' h => show e = .returned (.pointer (some ⟨gb, 0, none⟩)) ∧ w' = V.drew from ⟨h.1, h.2.symm⟩)
        have m2 := (rec0_any gx V.drew).mono (fun e w' h => show e = .returned (.pointer (some ⟨gx, 0, none⟩)) ∧ w' = V.drew from ⟨h.1, h.2.symm⟩)
        have m3 := (rec0_any gy V.drew).mono (fun e w' h => show e = .returned (.pointer (some ⟨gy, 0, none⟩)) ∧ w' = V.drew from ⟨h.1, h.2.symm⟩)
        have M1 := Lib.hid m1
        have M2 := Lib.hid m2
        have M3 := Lib.hid m3
        clear m1 m2 m3
        refine wp_region_still_tail 16 (by kernel_rfl) (by kernel_rfl) ?_
        simp only [List.take_succ_cons, List.take_zero, List.drop_succ_cons, List.drop_zero]
        repeat still_step
        still_call M1.out
        repeat still_step
        still_call M2.out
        repeat still_step
        refine wpStill_nil ?_
        change wpList _ _ _ _ _ V.drew
        have sx := rx.drew
        have sy := ry.drew
        have sb := rb.drew
        have sz := rz.drew
        have hbv := hbt.drew
        have kB : V.drew.cell? ⟨gb, 0, none⟩ = some (.bool false) := hB
        have kF : V.drew.frozen? ⟨gb, 0, none⟩ = false := hF
        clear rx ry rb rz hbt x0 x1 hc hy hB hF oN M1 M2 M3
        generalize V.drew = U at *
        go_wp2
        go_roundw
        case rel => exact ⟨1, by omega, by go_num, sx.far n1 _, sy.far n2 _, set_acc sb (by rw [show (.bool false : Value) = .bool (a0 && b0) by rw [HB.out]; rfl]; rfl), sz.far (Ne.symm n3) _, hbv.setCell n4 _⟩
        case measure => simp [intOf]
    · have hidx := fidx1
      by_cases hb : a1 = true
      · have HB := Lib.hid (show a1 = true by simpa using hb)
        clear hb
        go_wp2_with (refine wpList_store_row rfl 68 _ _ rfl wr.heap.size #[.string ⟨#[101, 120, 116, 101, 110, 100, 101, 100]⟩, .func (.func 54) #[] #[]] rfl rfl 68 #[.string ⟨#[]⟩, .nilFunc] (Own.new wr 68 #[.string ⟨#[]⟩, .nilFunc]) (fd_info _ _) rfl (fd_one _ _) ?_; have oN := (Own.new wr 68 #[.string ⟨#[]⟩, .nilFunc]).setRow (cs' := #[.string ⟨#[101, 120, 116, 101, 110, 100, 101, 100]⟩, .func (.func 54) #[] #[]]); have hbS := bl_setRow (g := wr.heap.size) (cs := #[.string ⟨#[101, 120, 116, 101, 110, 100, 101, 100]⟩, .func (.func 54) #[] #[]]) (bl_alloc (bl_refl wr) (.cells #[.string ⟨#[]⟩, .nilFunc] 68)) (Nat.le_refl _); have rx := qx.step hbS; have ry := qy.step hbS; have rb := qb.step hbS; have rz := qz.step hbS; have hbt := bl_trans hbr hbS; generalize (wr.alloc (.cells #[.string ⟨#[]⟩, .nilFunc] 68)).setRow wr.heap.size #[.string ⟨#[101, 120, 116, 101, 110, 100, 101, 100]⟩, .func (.func 54) #[] #[]] = V at *; clear qx qy qb qz hbr hbS)
        have x0 := oN.cell (i := 0) rfl
        have x1 := oN.cell (i := 1) rfl
        have hc : V.cell? ⟨gx, 1, none⟩ = some (.bool true) := by have := rx.cell (i := 1) (v := .bool a1) rfl; rw [HB.out] at this; exact this
        have hy : V.cell? ⟨gy, 1, none⟩ = some (.bool b1) := ry.cell (i := 1) (v := .bool b1) rfl
        have hB : V.cell? ⟨gb, 1, none⟩ = some (.bool false) := rb.cell (i := 1) (v := .bool false) rfl
        have hF := rb.frozen 1
        have m1 := (rec1_any gb V.drew).mono (fun e w' h => show e = .returned (.pointer (some ⟨gb, 1, none⟩)) ∧ w' = V.drew from ⟨h.1, h.2.symm⟩)
        have m2 := (rec1_any gx V.drew).mono (fun e w' h => show e = .returned (.pointer (some ⟨gx, 1, none⟩)) ∧ w' = V.drew from ⟨h.1, h.2.symm⟩)
        have m3 := (rec1_any gy V.drew).mono (fun e w' h => show e = .returned (.pointer (some ⟨gy, 1, none⟩)) ∧ w' = V.drew from ⟨h.1, h.2.symm⟩)
        have M1 := Lib.hid m1
        have M2 := Lib.hid m2
        have M3 := Lib.hid m3
        clear m1 m2 m3
        refine wp_region_still_tail 16 (by kernel_rfl) (by kernel_rfl) ?_
        simp only [List.take_succ_cons, List.take_zero, List.drop_succ_cons, List.drop_zero]
        repeat still_step
        still_call M1.out
        repeat still_step
        still_call M2.out
        repeat still_step
        still_call M3.out
        repeat still_step
        refine wpStill_nil ?_
        change wpList _ _ _ _ _ V.drew
        have sx := rx.drew
        have sy := ry.drew
        have sb := rb.drew
        have sz := rz.drew
        have hbv := hbt.drew
        have kB : V.drew.cell? ⟨gb, 1, none⟩ = some (.bool false) := hB
        have kF : V.drew.frozen? ⟨gb, 1, none⟩ = false := hF
        clear rx ry rb rz hbt x0 x1 hc hy hB hF oN M1 M2 M3
        generalize V.drew = U at *
        go_wp2
        go_roundw
        case rel => exact ⟨2, by omega, by go_num, sx.far n1 _, sy.far n2 _, set_acc sb (by rw [show (.bool b1 : Value) = .bool (a1 && b1) by rw [HB.out]; rfl]; rfl), sz.far (Ne.symm n3) _, hbv.setCell n4 _⟩
        case measure => simp [intOf]
      · have HB := Lib.hid (show a1 = false by simpa using hb)
        clear hb
        go_wp2_with (refine wpList_store_row rfl 68 _ _ rfl wr.heap.size #[.string ⟨#[101, 120, 116, 101, 110, 100, 101, 100]⟩, .func (.func 54) #[] #[]] rfl rfl 68 #[.string ⟨#[]⟩, .nilFunc] (Own.new wr 68 #[.string ⟨#[]⟩, .nilFunc]) (fd_info _ _) rfl (fd_one _ _) ?_; have oN := (Own.new wr 68 #[.string ⟨#[]⟩, .nilFunc]).setRow (cs' := #[.string ⟨#[101, 120, 116, 101, 110, 100, 101, 100]⟩, .func (.func 54) #[] #[]]); have hbS := bl_setRow (g := wr.heap.size) (cs := #[.string ⟨#[101, 120, 116, 101, 110, 100, 101, 100]⟩, .func (.func 54) #[] #[]]) (bl_alloc (bl_refl wr) (.cells #[.string ⟨#[]⟩, .nilFunc] 68)) (Nat.le_refl _); have rx := qx.step hbS; have ry := qy.step hbS; have rb := qb.step hbS; have rz := qz.step hbS; have hbt := bl_trans hbr hbS; generalize (wr.alloc (.cells #[.string ⟨#[]⟩, .nilFunc] 68)).setRow wr.heap.size #[.string ⟨#[101, 120, 116, 101, 110, 100, 101, 100]⟩, .func (.func 54) #[] #[]] = V at *; clear qx qy qb qz hbr hbS)
        have x0 := oN.cell (i := 0) rfl
        have x1 := oN.cell (i := 1) rfl
        have hc : V.cell? ⟨gx, 1, none⟩ = some (.bool false) := by have := rx.cell (i := 1) (v := .bool a1) rfl; rw [HB.out] at this; exact this
        have hy : V.cell? ⟨gy, 1, none⟩ = some (.bool b1) := ry.cell (i := 1) (v := .bool b1) rfl
        have hB : V.cell? ⟨gb, 1, none⟩ = some (.bool false) := rb.cell (i := 1) (v := .bool false) rfl
        have hF := rb.frozen 1
        have m1 := (rec1_any gb V.drew).mono (fun e w' h => show e = .returned (.pointer (some ⟨gb, 1, none⟩)) ∧ w' = V.drew from ⟨h.1, h.2.symm⟩)
        have m2 := (rec1_any gx V.drew).mono (fun e w' h => show e = .returned (.pointer (some ⟨gx, 1, none⟩)) ∧ w' = V.drew from ⟨h.1, h.2.symm⟩)
        have m3 := (rec1_any gy V.drew).mono (fun e w' h => show e = .returned (.pointer (some ⟨gy, 1, none⟩)) ∧ w' = V.drew from ⟨h.1, h.2.symm⟩)
        have M1 := Lib.hid m1
        have M2 := Lib.hid m2
        have M3 := Lib.hid m3
        clear m1 m2 m3
        refine wp_region_still_tail 16 (by kernel_rfl) (by kernel_rfl) ?_
        simp only [List.take_succ_cons, List.take_zero, List.drop_succ_cons, List.drop_zero]
        repeat still_step
        still_call M1.out
        repeat still_step
        still_call M2.out
        repeat still_step
        refine wpStill_nil ?_
        change wpList _ _ _ _ _ V.drew
        have sx := rx.drew
        have sy := ry.drew
        have sb := rb.drew
        have sz := rz.drew
        have hbv := hbt.drew
        have kB : V.drew.cell? ⟨gb, 1, none⟩ = some (.bool false) := hB
        have kF : V.drew.frozen? ⟨gb, 1, none⟩ = false := hF
        clear rx ry rb rz hbt x0 x1 hc hy hB hF oN M1 M2 M3
        generalize V.drew = U at *
        go_wp2
        go_roundw
        case rel => exact ⟨2, by omega, by go_num, sx.far n1 _, sy.far n2 _, set_acc sb (by rw [show (.bool false : Value) = .bool (a1 && b1) by rw [HB.out]; rfl]; rfl), sz.far (Ne.symm n3) _, hbv.setCell n4 _⟩
        case measure => simp [intOf]
    · have hidx := fidx2
      by_cases hb : a2 = true
      · have HB := Lib.hid (show a2 = true by simpa using hb)
        clear hb
        go_wp2_with (refine wpList_store_row rfl 68 _ _ rfl wr.heap.size #[.string ⟨#[109, 112, 52]⟩, .func (.func 55) #[] #[]] rfl rfl 68 #[.string ⟨#[]⟩, .nilFunc] (Own.new wr 68 #[.string ⟨#[]⟩, .nilFunc]) (fd_info _ _) rfl (fd_one _ _) ?_; have oN := (Own.new wr 68 #[.string ⟨#[]⟩, .nilFunc]).setRow (cs' := #[.string ⟨#[109, 112, 52]⟩, .func (.func 55) #[] #[]]); have hbS := bl_setRow (g := wr.heap.size) (cs := #[.string ⟨#[109, 112, 52]⟩, .func (.func 55) #[] #[]]) (bl_alloc (bl_refl wr) (.cells #[.string ⟨#[]⟩, .nilFunc] 68)) (Nat.le_refl _); have rx := qx.step hbS; have ry := qy.step hbS; have rb := qb.step hbS; have rz := qz.step hbS; have hbt := bl_trans hbr hbS; generalize (wr.alloc (.cells #[.string ⟨#[]⟩, .nilFunc] 68)).setRow wr.heap.size #[.string ⟨#[109, 112, 52]⟩, .func (.func 55) #[] #[]] = V at *; clear qx qy qb qz hbr hbS)
        have x0 := oN.cell (i := 0) rfl
        have x1 := oN.cell (i := 1) rfl
        have hc : V.cell? ⟨gx, 2, none⟩ = some (.bool true) := by have := rx.cell (i := 2) (v := .bool a2) rfl; rw [HB.out] at this; exact this
        have hy : V.cell? ⟨gy, 2, none⟩ = some (.bool b2) := ry.cell (i := 2) (v := .bool b2) rfl
        have hB : V.cell? ⟨gb, 2, none⟩ = some (.bool false) := rb.cell (i := 2) (v := .bool false) rfl
        have hF := rb.frozen 2
        have m1 := (rec2_any gb V.drew).mono (fun e w' h => show e = .returned (.pointer (some ⟨gb, 2, none⟩)) ∧ w' = V.drew from ⟨h.1, h.2.symm⟩)
        have m2 := (rec2_any gx V.drew).mono (fun e w' h => show e = .returned (.pointer (some ⟨gx, 2, none⟩)) ∧ w' = V.drew from ⟨h.1, h.2.symm⟩)
        have m3 := (rec2_any gy V.drew).mono (fun e w' h => show e = .returned (.pointer (some ⟨gy, 2, none⟩)) ∧ w' = V.drew from ⟨h.1, h.2.symm⟩)
        have M1 := Lib.hid m1
        have M2 := Lib.hid m2
        have M3 := Lib.hid m3
        clear m1 m2 m3
        refine wp_region_still_tail 16 (by kernel_rfl) (by kernel_rfl) ?_
        simp only [List.take_succ_cons, List.take_zero, List.drop_succ_cons, List.drop_zero]
        repeat still_step
        still_call M1.out
        repeat still_step
        still_call M2.out
        repeat still_step
        still_call M3.out
        repeat still_step
        refine wpStill_nil ?_
        change wpList _ _ _ _ _ V.drew
        have sx := rx.drew
        have sy := ry.drew
        have sb := rb.drew
        have sz := rz.drew
        have hbv := hbt.drew
        have kB : V.drew.cell? ⟨gb, 2, none⟩ = some (.bool false) := hB
        have kF : V.drew.frozen? ⟨gb, 2, none⟩ = false := hF
        clear rx ry rb rz hbt x0 x1 hc hy hB hF oN M1 M2 M3
        generalize V.drew = U at *
        go_wp2
        go_roundw
        case rel => exact ⟨3, by omega, by go_num, sx.far n1 _, sy.far n2 _, set_acc sb (by rw [show (.bool b2 : Value) = .bool (a2 && b2) by rw [HB.out]; rfl]; rfl), sz.far (Ne.symm n3) _, hbv.setCell n4 _⟩
        case measure => simp [intOf]
      · have HB := Lib.hid (show a2 = false by simpa using hb)
        clear hb
        go_wp2_with (refine wpList_store_row rfl 68 _ _ rfl wr.heap.size #[.string ⟨#[109, 112, 52]⟩, .func (.func 55) #[] #[]] rfl rfl 68 #[.string ⟨#[]⟩, .nilFunc] (Own.new wr 68 #[.string ⟨#[]⟩, .nilFunc]) (fd_info _ _) rfl (fd_one _ _) ?_; have oN := (Own.new wr 68 #[.string ⟨#[]⟩, .nilFunc]).setRow (cs' := #[.string ⟨#[109, 112, 52]⟩, .func (.func 55) #[] #[]]); have hbS := bl_setRow (g := wr.heap.size) (cs := #[.string ⟨#[109, 112, 52]⟩, .func (.func 55) #[] #[]]) (bl_alloc (bl_refl wr) (.cells #[.string ⟨#[]⟩, .nilFunc] 68)) (Nat.le_refl _); have rx := qx.step hbS; have ry := qy.step hbS; have rb := qb.step hbS; have rz := qz.step hbS; have hbt := bl_trans hbr hbS; generalize (wr.alloc (.cells #[.string ⟨#[]⟩, .nilFunc] 68)).setRow wr.heap.size #[.string ⟨#[109, 112, 52]⟩, .func (.func 55) #[] #[]] = V at *; clear qx qy qb qz hbr hbS)
        have x0 := oN.cell (i := 0) rfl
        have x1 := oN.cell (i := 1) rfl
        have hc : V.cell? ⟨gx, 2, none⟩ = some (.bool false) := by have := rx.cell (i := 2) (v := .bool a2) rfl; rw [HB.out] at this; exact this
        have hy : V.cell? ⟨gy, 2, none⟩ = some (.bool b2) := ry.cell (i := 2) (v := .bool b2) rfl
        have hB : V.cell? ⟨gb, 2, none⟩ = some (.bool false) := rb.cell (i := 2) (v := .bool false) rfl
        have hF := rb.frozen 2
        have m1 := (rec2_any gb V.drew).mono (fun e w' h => show e = .returned (.pointer (some ⟨gb, 2, none⟩)) ∧ w' = V.drew from ⟨h.1, h.2.symm⟩)
        have m2 := (rec2_any gx V.drew).mono (fun e w' h => show e = .returned (.pointer (some ⟨gx, 2, none⟩)) ∧ w' = V.drew from ⟨h.1, h.2.symm⟩)
        have m3 := (rec2_any gy V.drew).mono (fun e w' h => show e = .returned (.pointer (some ⟨gy, 2, none⟩)) ∧ w' = V.drew from ⟨h.1, h.2.symm⟩)
        have M1 := Lib.hid m1
        have M2 := Lib.hid m2
        have M3 := Lib.hid m3
        clear m1 m2 m3
        refine wp_region_still_tail 16 (by kernel_rfl) (by kernel_rfl) ?_
        simp only [List.take_succ_cons, List.take_zero, List.drop_succ_cons, List.drop_zero]
        repeat still_step
        still_call M1.out
        repeat still_step
        still_call M2.out
        repeat still_step
        refine wpStill_nil ?_
        change wpList _ _ _ _ _ V.drew
        have sx := rx.drew
        have sy := ry.drew
        have sb := rb.drew
        have sz := rz.drew
        have hbv := hbt.drew
        have kB : V.drew.cell? ⟨gb, 2, none⟩ = some (.bool false) := hB
        have kF : V.drew.frozen? ⟨gb, 2, none⟩ = false := hF
        clear rx ry rb rz hbt x0 x1 hc hy hB hF oN M1 M2 M3
        generalize V.drew = U at *
        go_wp2
        go_roundw
        case rel => exact ⟨3, by omega, by go_num, sx.far n1 _, sy.far n2 _, set_acc sb (by rw [show (.bool false : Value) = .bool (a2 && b2) by rw [HB.out]; rfl]; rfl), sz.far (Ne.symm n3) _, hbv.setCell n4 _⟩
        case measure => simp [intOf]
    · have hidx := fidx3
      by_cases hb : a3 = true
      · have HB := Lib.hid (show a3 = true by simpa using hb)
        clear hb
        go_wp2_with (refine wpList_store_row rfl 68 _ _ rfl wr.heap.size #[.string ⟨#[109, 112, 54]⟩, .func (.func 56) #[] #[]] rfl rfl 68 #[.string ⟨#[]⟩, .nilFunc] (Own.new wr 68 #[.string ⟨#[]⟩, .nilFunc]) (fd_info _ _) rfl (fd_one _ _) ?_; have oN := (Own.new wr 68 #[.string ⟨#[]⟩, .nilFunc]).setRow (cs' := #[.string ⟨#[109, 112, 54]⟩, .func (.func 56) #[] #[]]); have hbS := bl_setRow (g := wr.heap.size) (cs := #[.string ⟨#[109, 112, 54]⟩, .func (.func 56) #[] #[]]) (bl_alloc (bl_refl wr) (.cells #[.string ⟨#[]⟩, .nilFunc] 68)) (Nat.le_refl _); have rx := qx.step hbS; have ry := qy.step hbS; have rb := qb.step hbS; have rz := qz.step hbS; have hbt := bl_trans hbr hbS; generalize (wr.alloc (.cells #[.string ⟨#[]⟩, .nilFunc] 68)).setRow wr.heap.size #[.string ⟨#[109, 112, 54]⟩, .func (.func 56) #[] #[]] = V at *; clear qx qy qb qz hbr hbS)
        have x0 := oN.cell (i := 0) rfl
        have x1 := oN.cell (i := 1) rfl
        have hc : V.cell? ⟨gx, 3, none⟩ = some (.bool true) := by have := rx.cell (i := 3) (v := .bool a3) rfl; rw [HB.out] at this; exact this
        have hy : V.cell? ⟨gy, 3, none⟩ = some (.bool b3) := ry.cell (i := 3) (v := .bool b3) rfl
        have hB : V.cell? ⟨gb, 3, none⟩ = some (.bool false) := rb.cell (i := 3) (v := .bool false) rfl
        have hF := rb.frozen 3
        have m1 := (rec3_any gb V.drew).mono (fun e w' h => show e = .returned (.pointer (some ⟨gb, 3, none⟩)) ∧ w' = V.drew from ⟨h.1, h.2.symm⟩)
        have m2 := (rec3_any gx V.drew).mono (fun e w' h => show e = .returned (.pointer (some ⟨gx, 3, none⟩)) ∧ w' = V.drew from ⟨h.1, h.2.symm⟩)
        have m3 := (rec3_any gy V.drew).mono (fun e w' h => show e = .returned (.pointer (some ⟨gy, 3, none⟩)) ∧ w' = V.drew from ⟨h.1, h.2.symm⟩)
        have M1 := Lib.hid m1
        have M2 := Lib.hid m2
        have M3 := Lib.hid m3
        clear m1 m2 m3
        refine wp_region_still_tail 16 (by kernel_rfl) (by kernel_rfl) ?_
        simp only [List.take_succ_cons, List.take_zero, List.drop_succ_cons, List.drop_zero]
        repeat still_step
        still_call M1.out
        repeat still_step
        still_call M2.out
        repeat still_step
        still_call M3.out
        repeat still_step
        refine wpStill_nil ?_
        change wpList _ _ _ _ _ V.drew
        have sx := rx.drew
        have sy := ry.drew
        have sb := rb.drew
        have sz := rz.drew
        have hbv := hbt.drew
        have kB : V.drew.cell? ⟨gb, 3, none⟩ = some (.bool false) := hB
        have kF : V.drew.frozen? ⟨gb, 3, none⟩ = false := hF
        clear rx ry rb rz hbt x0 x1 hc hy hB hF oN M1 M2 M3
        generalize V.drew = U at *
        go_wp2
        go_roundw
        case rel => exact ⟨4, by omega, by go_num, sx.far n1 _, sy.far n2 _, set_acc sb (by rw [show (.bool b3 : Value) = .bool (a3 && b3) by rw [HB.out]; rfl]; rfl), sz.far (Ne.symm n3) _, hbv.setCell n4 _⟩
        case measure => simp [intOf]
      · have HB := Lib.hid (show a3 = false by simpa using hb)
        clear hb
        go_wp2_with (refine wpList_store_row rfl 68 _ _ rfl wr.heap.size #[.string ⟨#[109, 112, 54]⟩, .func (.func 56) #[] #[]] rfl rfl 68 #[.string ⟨#[]⟩, .nilFunc] (Own.new wr 68 #[.string ⟨#[]⟩, .nilFunc]) (fd_info _ _) rfl (fd_one _ _) ?_; have oN := (Own.new wr 68 #[.string ⟨#[]⟩, .nilFunc]).setRow (cs' := #[.string ⟨#[109, 112, 54]⟩, .func (.func 56) #[] #[]]); have hbS := bl_setRow (g := wr.heap.size) (cs := #[.string ⟨#[109, 112, 54]⟩, .func (.func 56) #[] #[]]) (bl_alloc (bl_refl wr) (.cells #[.string ⟨#[]⟩, .nilFunc] 68)) (Nat.le_refl _); have rx := qx.step hbS; have ry := qy.step hbS; have rb := qb.step hbS; have rz := qz.step hbS; have hbt := bl_trans hbr hbS; generalize (wr.alloc (.cells #[.string ⟨#[]⟩, .nilFunc] 68)).setRow wr.heap.size #[.string ⟨#[109, 112, 54]⟩, .func (.func 56) #[] #[]] = V at *; clear qx qy qb qz hbr hbS)
        have x0 := oN.cell (i := 0) rfl
        have x1 := oN.cell (i := 1) rfl
        have hc : V.cell? ⟨gx, 3, none⟩ = some (.bool false) := by have := rx.cell (i := 3) (v := .bool a3) rfl; rw [HB.out] at this; exact this
        have hy : V.cell? ⟨gy, 3, none⟩ = some (.bool b3) := ry.cell (i := 3) (v := .bool b3) rfl
        have hB : V.cell? ⟨gb, 3, none⟩ = some (.bool false) := rb.cell (i := 3) (v := .bool false) rfl
        have hF := rb.frozen 3
        have m1 := (rec3_any gb V.drew).mono (fun e w' h => show e = .returned (.pointer (some ⟨gb, 3, none⟩)) ∧ w' = V.drew from ⟨h.1, h.2.symm⟩)
        have m2 := (rec3_any gx V.drew).mono (fun e w' h => show e = .returned (.pointer (some ⟨gx, 3, none⟩)) ∧ w' = V.drew from ⟨h.1, h.2.symm⟩)
        have m3 := (rec3_any gy V.drew).mono (fun e w' h => show e = .returned (.pointer (some ⟨gy, 3, none⟩)) ∧ w' = V.drew from ⟨h.1, h.2.symm⟩)
        have M1 := Lib.hid m1
        have M2 := Lib.hid m2
        have M3 := Lib.hid m3
        clear m1 m2 m3
        refine wp_region_still_tail 16 (by kernel_rfl) (by kernel_rfl) ?_
        simp only [List.take_succ_cons, List.take_zero, List.drop_succ_cons, List.drop_zero]
        repeat still_step
        still_call M1.out
        repeat still_step
        still_call M2.out
        repeat still_step
        refine wpStill_nil ?_
        change wpList _ _ _ _ _ V.drew
        have sx := rx.drew
        have sy := ry.drew
        have sb := rb.drew
        have sz := rz.drew
        have hbv := hbt.drew
        have kB : V.drew.cell? ⟨gb, 3, none⟩ = some (.bool false) := hB
        have kF : V.drew.frozen? ⟨gb, 3, none⟩ = false := hF
        clear rx ry rb rz hbt x0 x1 hc hy hB hF oN M1 M2 M3
        generalize V.drew = U at *
        go_wp2
        go_roundw
        case rel => exact ⟨4, by omega, by go_num, sx.far n1 _, sy.far n2 _, set_acc sb (by rw [show (.bool false : Value) = .bool (a3 && b3) by rw [HB.out]; rfl]; rfl), sz.far (Ne.symm n3) _, hbv.setCell n4 _⟩
        case measure => simp [intOf]
    · have hidx := fidx4
      by_cases hb : a4 = true
      · have HB := Lib.hid (show a4 = true by simpa using hb)
        clear hb
        go_wp2_with (refine wpList_store_row rfl 68 _ _ rfl wr.heap.size #[.string ⟨#[97, 100, 100, 52]⟩, .func (.func 57) #[] #[]] rfl rfl 68 #[.string ⟨#[]⟩, .nilFunc] (Own.new wr 68 #[.string ⟨#[]⟩, .nilFunc]) (fd_info _ _) rfl (fd_one _ _) ?_; have oN := (Own.new wr 68 #[.string ⟨#[]⟩, .nilFunc]).setRow (cs' := #[.string ⟨#[97, 100, 100, 52]⟩, .func (.func 57) #[] #[]]); have hbS := bl_setRow (g := wr.heap.size) (cs := #[.string ⟨#[97, 100, 100, 52]⟩, .func (.func 57) #[] #[]]) (bl_alloc (bl_refl wr) (.cells #[.string ⟨#[]⟩, .nilFunc] 68)) (Nat.le_refl _); have rx := qx.step hbS; have ry := qy.step hbS; have rb := qb.step hbS; have rz := qz.step hbS; have hbt := bl_trans hbr hbS; generalize (wr.alloc (.cells #[.string ⟨#[]⟩, .nilFunc] 68)).setRow wr.heap.size #[.string ⟨#[97, 100, 100, 52]⟩, .func (.func 57) #[] #[]] = V at *; clear qx qy qb qz hbr hbS)
        have x0 := oN.cell (i := 0) rfl
        have x1 := oN.cell (i := 1) rfl
        have hc : V.cell? ⟨gx, 4, none⟩ = some (.bool true) := by have := rx.cell (i := 4) (v := .bool a4) rfl; rw [HB.out] at this; exact this
        have hy : V.cell? ⟨gy, 4, none⟩ = some (.bool b4) := ry.cell (i := 4) (v := .bool b4) rfl
        have hB : V.cell? ⟨gb, 4, none⟩ = some (.bool false) := rb.cell (i := 4) (v := .bool false) rfl
        have hF := rb.frozen 4
        have m1 := (rec4_any gb V.drew).mono (fun e w' h => show e = .returned (.pointer (some ⟨gb, 4, none⟩)) ∧ w' = V.drew from ⟨h.1, h.2.symm⟩)
        have m2 := (rec4_any gx V.drew).mono (fun e w' h => show e = .returned (.pointer (some ⟨gx, 4, none⟩)) ∧ w' = V.drew from ⟨h.1, h.2.symm⟩)
        have m3 := (rec4_any gy V.drew).mono (fun e w' h => show e = .returned (.pointer (some ⟨gy, 4, none⟩)) ∧ w' = V.drew from ⟨h.1, h.2.symm⟩)
        have M1 := Lib.hid m1
        have M2 := Lib.hid m2
        have M3 := Lib.hid m3
        clear m1 m2 m3
        refine wp_region_still_tail 16 (by kernel_rfl) (by kernel_rfl) ?_
        simp only [List.take_succ_cons, List.take_zero, List.drop_succ_cons, List.drop_zero]
        repeat still_step
        still_call M1.out
        repeat still_step
        still_call M2.out
        repeat still_step
        still_call M3.out
        repeat still_step
        refine wpStill_nil ?_
        change wpList _ _ _ _ _ V.drew
        have sx := rx.drew
        have sy := ry.drew
        have sb := rb.drew
        have sz := rz.drew
        have hbv := hbt.drew
        have kB : V.drew.cell? ⟨gb, 4, none⟩ = some (.bool false) := hB
        have kF : V.drew.frozen? ⟨gb, 4, none⟩ = false := hF
        clear rx ry rb rz hbt x0 x1 hc hy hB hF oN M1 M2 M3
        generalize V.drew = U at *
        go_wp2
        go_roundw
        case rel => exact ⟨5, by omega, by go_num, sx.far n1 _, sy.far n2 _, set_acc sb (by rw [show (.bool b4 : Value) = .bool (a4 && b4) by rw [HB.out]; rfl]; rfl), sz.far (Ne.symm n3) _, hbv.setCell n4 _⟩
        case measure => simp [intOf]
      · have HB := Lib.hid (show a4 = false by simpa using hb)
        clear hb
        go_wp2_with (refine wpList_store_row rfl 68 _ _ rfl wr.heap.size #[.string ⟨#[97, 100, 100, 52]⟩, .func (.func 57) #[] #[]] rfl rfl 68 #[.string ⟨#[]⟩, .nilFunc] (Own.new wr 68 #[.string ⟨#[]⟩, .nilFunc]) (fd_info _ _) rfl (fd_one _ _) ?_; have oN := (Own.new wr 68 #[.string ⟨#[]⟩, .nilFunc]).setRow (cs' := #[.string ⟨#[97, 100, 100, 52]⟩, .func (.func 57) #[] #[]]); have hbS := bl_setRow (g := wr.heap.size) (cs := #[.string ⟨#[97, 100, 100, 52]⟩, .func (.func 57) #[] #[]]) (bl_alloc (bl_refl wr) (.cells #[.string ⟨#[]⟩, .nilFunc] 68)) (Nat.le_refl _); have rx := qx.step hbS; have ry := qy.step hbS; have rb := qb.step hbS; have rz := qz.step hbS; have hbt := bl_trans hbr hbS; generalize (wr.alloc (.cells #[.string ⟨#[]⟩, .nilFunc] 68)).setRow wr.heap.size #[.string ⟨#[97, 100, 100, 52]⟩, .func (.func 57) #[] #[]] = V at *; clear qx qy qb qz hbr hbS)
        have x0 := oN.cell (i := 0) rfl
        have x1 := oN.cell (i := 1) rfl
        have hc : V.cell? ⟨gx, 4, none⟩ = some (.bool false) := by have := rx.cell (i := 4) (v := .bool a4) rfl; rw [HB.out] at this; exact this
        have hy : V.cell? ⟨gy, 4, none⟩ = some (.bool b4) := ry.cell (i := 4) (v := .bool b4) rfl
        have hB : V.cell? ⟨gb, 4, none⟩ = some (.bool false) := rb.cell (i := 4) (v := .bool false) rfl
        have hF := rb.frozen 4
        have m1 := (rec4_any gb V.drew).mono (fun e w' h => show e = .returned (.pointer (some ⟨gb, 4, none⟩)) ∧ w' = V.drew from ⟨h.1, h.2.symm⟩)
        have m2 := (rec4_any gx V.drew).mono (fun e w' h => show e = .returned (.pointer (some ⟨gx, 4, none⟩)) ∧ w' = V.drew from ⟨h.1, h.2.symm⟩)
        have m3 := (rec4_any gy V.drew).mono (fun e w' h => show e = .returned (.pointer (some ⟨gy, 4, none⟩)) ∧ w' = V.drew from ⟨h.1, h.2.symm⟩)
        have M1 := Lib.hid m1
        have M2 := Lib.hid m2
        have M3 := Lib.hid m3
        clear m1 m2 m3
        refine wp_region_still_tail 16 (by kernel_rfl) (by kernel_rfl) ?_
        simp only [List.take_succ_cons, List.take_zero, List.drop_succ_cons, List.drop_zero]
        repeat still_step
        still_call M1.out
        repeat still_step
        still_call M2.out
        repeat still_step
        refine wpStill_nil ?_
        change wpList _ _ _ _ _ V.drew
        have sx := rx.drew
        have sy := ry.drew
        have sb := rb.drew
        have sz := rz.drew
        have hbv := hbt.drew
        have kB : V.drew.cell? ⟨gb, 4, none⟩ = some (.bool false) := hB
        have kF : V.drew.frozen? ⟨gb, 4, none⟩ = false := hF
        clear rx ry rb rz hbt x0 x1 hc hy hB hF oN M1 M2 M3
        generalize V.drew = U at *
        go_wp2
        go_roundw
        case rel => exact ⟨5, by omega, by go_num, sx.far n1 _, sy.far n2 _, set_acc sb (by rw [show (.bool false : Value) = .bool (a4 && b4) by rw [HB.out]; rfl]; rfl), sz.far (Ne.symm n3) _, hbv.setCell n4 _⟩
        case measure => simp [intOf]
    · have hidx := fidx5
      by_cases hb : a5 = true
      · have HB := Lib.hid (show a5 = true by simpa using hb)
        clear hb
        go_wp2_with (refine wpList_store_row rfl 68 _ _ rfl wr.heap.size #[.string ⟨#[97, 100, 100, 54]⟩, .func (.func 58) #[] #[]] rfl rfl 68 #[.string ⟨#[]⟩, .nilFunc] (Own.new wr 68 #[.string ⟨#[]⟩, .nilFunc]) (fd_info _ _) rfl (fd_one _ _) ?_; have oN := (Own.new wr 68 #[.string ⟨#[]⟩, .nilFunc]).setRow (cs' := #[.string ⟨#[97, 100, 100, 54]⟩, .func (.func 58) #[] #[]]); have hbS := bl_setRow (g := wr.heap.size) (cs := #[.string ⟨#[97, 100, 100, 54]⟩, .func (.func 58) #[] #[]]) (bl_alloc (bl_refl wr) (.cells #[.string ⟨#[]⟩, .nilFunc] 68)) (Nat.le_refl _); have rx := qx.step hbS; have ry := qy.step hbS; have rb := qb.step hbS; have rz := qz.step hbS; have hbt := bl_trans hbr hbS; generalize (wr.alloc (.cells #[.string ⟨#[]⟩, .nilFunc] 68)).setRow wr.heap.size #[.string ⟨#[97, 100, 100, 54]⟩, .func (.func 58) #[] #[]] = V at *; clear qx qy qb qz hbr hbS)
        have x0 := oN.cell (i := 0) rfl
        have x1 := oN.cell (i := 1) rfl
        have hc : V.cell? ⟨gx, 5, none⟩ = some (.bool true) := by have := rx.cell (i := 5) (v := .bool a5) rfl; rw [HB.out] at this; exact this
        have hy : V.cell? ⟨gy, 5, none⟩ = some (.bool b5) := ry.cell (i := 5) (v := .bool b5) rfl
        have hB : V.cell? ⟨gb, 5, none⟩ = some (.bool false) := rb.cell (i := 5) (v := .bool false) rfl
        have hF := rb.frozen 5
        have m1 := (rec5_any gb V.drew).mono (fun e w' h => show e = .returned (.pointer (some ⟨gb, 5, none⟩)) ∧ w' = V.drew from ⟨h.1, h.2.symm⟩)
        have m2 := (rec5_any gx V.drew).mono (fun e w' h => show e = .returned (.pointer (some ⟨gx, 5, none⟩)) ∧ w' = V.drew from ⟨h.1, h.2.symm⟩)
        have m3 := (rec5_any gy V.drew).mono (fun e w' h => show e = .returned (.pointer (some ⟨gy, 5, none⟩)) ∧ w' = V.drew from ⟨h.1, h.2.symm⟩)
        have M1 := Lib.hid m1
        have M2 := Lib.hid m2
        have M3 := Lib.hid m3
        clear m1 m2 m3
        refine wp_region_still_tail 16 (by kernel_rfl) (by kernel_rfl) ?_
        simp only [List.take_succ_cons, List.take_zero, List.drop_succ_cons, List.drop_zero]
        repeat still_step
        still_call M1.out
        repeat still_step
        still_call M2.out
        repeat still_step
        still_call M3.out
        repeat still_step
        refine wpStill_nil ?_
        change wpList _ _ _ _ _ V.drew
        have sx := rx.drew
        have sy := ry.drew
        have sb := rb.drew
        have sz := rz.drew
        have hbv := hbt.drew
        have kB : V.drew.cell? ⟨gb, 5, none⟩ = some (.bool false) := hB
        have kF : V.drew.frozen? ⟨gb, 5, none⟩ = false := hF
        clear rx ry rb rz hbt x0 x1 hc hy hB hF oN M1 M2 M3
        generalize V.drew = U at *
        go_wp2
        go_roundw
        case rel => exact ⟨6, by omega, by go_num, sx.far n1 _, sy.far n2 _, set_acc sb (by rw [show (.bool b5 : Value) = .bool (a5 && b5) by rw [HB.out]; rfl]; rfl), sz.far (Ne.symm n3) _, hbv.setCell n4 _⟩
        case measure => simp [intOf]
      · have HB := Lib.hid (show a5 = false by simpa using hb)
        clear hb
        go_wp2_with (refine wpList_store_row rfl 68 _ _ rfl wr.heap.size #[.string ⟨#[97, 100, 100, 54]⟩, .func (.func 58) #[] #[]] rfl rfl 68 #[.string ⟨#[]⟩, .nilFunc] (Own.new wr 68 #[.string ⟨#[]⟩, .nilFunc]) (fd_info _ _) rfl (fd_one _ _) ?_; have oN := (Own.new wr 68 #[.string ⟨#[]⟩, .nilFunc]).setRow (cs' := #[.string ⟨#[97, 100, 100, 54]⟩, .func (.func 58) #[] #[]]); have hbS := bl_setRow (g := wr.heap.size) (cs := #[.string ⟨#[97, 100, 100, 54]⟩, .func (.func 58) #[] #[]]) (bl_alloc (bl_refl wr) (.cells #[.string ⟨#[]⟩, .nilFunc] 68)) (Nat.le_refl _); have rx := qx.step hbS; have ry := qy.step hbS; have rb := qb.step hbS; have rz := qz.step hbS; have hbt := bl_trans hbr hbS; generalize (wr.alloc (.cells #[.string ⟨#[]⟩, .nilFunc] 68)).setRow wr.heap.size #[.string ⟨#[97, 100, 100, 54]⟩, .func (.func 58) #[] #[]] = V at *; clear qx qy qb qz hbr hbS)
        have x0 := oN.cell (i := 0) rfl
        have x1 := oN.cell (i := 1) rfl
        have hc : V.cell? ⟨gx, 5, none⟩ = some (.bool false) := by have := rx.cell (i := 5) (v := .bool a5) rfl; rw [HB.out] at this; exact this
        have hy : V.cell? ⟨gy, 5, none⟩ = some (.bool b5) := ry.cell (i := 5) (v := .bool b5) rfl
        have hB : V.cell? ⟨gb, 5, none⟩ = some (.bool false) := rb.cell (i := 5) (v := .bool false) rfl
        have hF := rb.frozen 5
        have m1 := (rec5_any gb V.drew).mono (fun e w' h => show e = .returned (.pointer (some ⟨gb, 5, none⟩)) ∧ w' = V.drew from ⟨h.1, h.2.symm⟩)
        have m2 := (rec5_any gx V.drew).mono (fun e w' h => show e = .returned (.pointer (some ⟨gx, 5, none⟩)) ∧ w' = V.drew from ⟨h.1, h.2.symm⟩)
        have m3 := (rec5_any gy V.drew).mono (fun e w' h => show e = .returned (.pointer (some ⟨gy, 5, none⟩)) ∧ w' = V.drew from ⟨h.1, h.2.symm⟩)
        have M1 := Lib.hid m1
        have M2 := Lib.hid m2
        have M3 := Lib.hid m3
        clear m1 m2 m3
        refine wp_region_still_tail 16 (by kernel_rfl) (by kernel_rfl) ?_
        simp only [List.take_succ_cons, List.take_zero, List.drop_succ_cons, List.drop_zero]
        repeat still_step
        still_call M1.out
        repeat still_step
        still_call M2.out
        repeat still_step
        refine wpStill_nil ?_
        change wpList _ _ _ _ _ V.drew
        have sx := rx.drew
        have sy := ry.drew
        have sb := rb.drew
        have sz := rz.drew
        have hbv := hbt.drew
        have kB : V.drew.cell? ⟨gb, 5, none⟩ = some (.bool false) := hB
        have kF : V.drew.frozen? ⟨gb, 5, none⟩ = false := hF
        clear rx ry rb rz hbt x0 x1 hc hy hB hF oN M1 M2 M3
        generalize V.drew = U at *
        go_wp2
        go_roundw
        case rel => exact ⟨6, by omega, by go_num, sx.far n1 _, sy.far n2 _, set_acc sb (by rw [show (.bool false : Value) = .bool (a5 && b5) by rw [HB.out]; rfl]; rfl), sz.far (Ne.symm n3) _, hbv.setCell n4 _⟩
        case measure => simp [intOf]
    · have hbv : ∀ q : Bool, (a3 && b3) = q → bothV a0 a1 a2 a3 a4 a5 b0 b1 b2 b3 b4 b5 = #[.bool (a0 && b0), .bool (a1 && b1), .bool (a2 && b2), .bool (a3 && b3), .bool (a4 && b4), .bool ((a5 && b5) && q)] := fun q h => by unfold bothV; rw [h]
      have HV := Lib.hid hbv
      clear hbv
      obtain ⟨c0, c1, c2, c3, c4, c5⟩ : wr.cell? ⟨gb, 0, none⟩ = some (.bool (a0 && b0)) ∧ wr.cell? ⟨gb, 1, none⟩ = some (.bool (a1 && b1)) ∧ wr.cell? ⟨gb, 2, none⟩ = some (.bool (a2 && b2)) ∧ wr.cell? ⟨gb, 3, none⟩ = some (.bool (a3 && b3)) ∧ wr.cell? ⟨gb, 4, none⟩ = some (.bool (a4 && b4)) ∧ wr.cell? ⟨gb, 5, none⟩ = some (.bool (a5 && b5)) := ⟨qb.cell (i := 0) rfl, qb.cell (i := 1) rfl, qb.cell (i := 2) rfl, qb.cell (i := 3) rfl, qb.cell (i := 4) rfl, qb.cell (i := 5) rfl⟩
      by_cases hb : (a3 && b3) = true
      · have HE := Lib.hid (HV.out true hb)
        rw [Bool.and_true] at HE
        rw [hb] at c3
        have hb3 := Lib.hid hb
        clear hb
        generalize (a0 && b0) = v0 at *
        generalize (a1 && b1) = v1 at *
        generalize (a2 && b2) = v2 at *
        generalize (a3 && b3) = v3 at *
        generalize (a4 && b4) = v4 at *
        generalize (a5 && b5) = v5 at *
        rw [hb3.out] at HE
        go_wp2_with (refine wpList_store_row rfl 43 _ _ rfl (w.heap.size + 1 + 1) #[.bool v0, .bool v1, .bool v2, .bool true, .bool v4, .bool v5] rfl rfl 43 opZ qz (op_info _ _ _ _ _ _) rfl (op_one _ _ _ _ _ _) ?_)
        exact bodyPost_ret (results_cell1 (p := 4) (fn := Try.f28) rfl _ _ (w.heap.size + 1 + 1) 43 #[.bool v0, .bool v1, .bool v2, .bool true, .bool v4, .bool v5] _ rfl qz.setRow op_desc rfl (op_info _ _ _ _ _ _)) rfl ⟨by rw [HE.out], bl_setRow hbr (by omega)⟩
      · have hb' : (a3 && b3) = false := by simpa using hb
        have HE := Lib.hid (HV.out false hb')
        rw [Bool.and_false] at HE
        rw [hb'] at c3
        have hb3 := Lib.hid hb'
        clear hb hb'
        have hF := qb.frozen 5
        generalize (a0 && b0) = v0 at *
        generalize (a1 && b1) = v1 at *
        generalize (a2 && b2) = v2 at *
        generalize (a3 && b3) = v3 at *
        generalize (a4 && b4) = v4 at *
        generalize (a5 && b5) = v5 at *
        rw [hb3.out] at HE
        have qz5 := qz.far (p := ⟨gb, 5, none⟩) (Ne.symm n3) (.bool false)
        have hb5 := hbr.setCell (p := ⟨gb, 5, none⟩) n4 (.bool false)
        go_wp2_with (refine wpList_store_row rfl 43 _ _ rfl (w.heap.size + 1 + 1) #[.bool v0, .bool v1, .bool v2, .bool false, .bool v4, .bool false] rfl rfl 43 opZ qz5 (op_info _ _ _ _ _ _) rfl (op_one _ _ _ _ _ _) ?_)
        exact bodyPost_ret (results_cell1 (p := 4) (fn := Try.f28) rfl _ _ (w.heap.size + 1 + 1) 43 #[.bool v0, .bool v1, .bool v2, .bool false, .bool v4, .bool false] _ rfl qz5.setRow op_desc rfl (op_info _ _ _ _ _ _)) rfl ⟨by rw [HE.out], bl_setRow hb5 (by omega)⟩
end Go.Proofs.Ytaopinecidddkaa
