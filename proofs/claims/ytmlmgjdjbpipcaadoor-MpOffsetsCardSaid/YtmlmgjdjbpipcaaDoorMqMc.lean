/- XMqMc: XMqE, XMqF, XMqG in one text -/
import Derived.Test.YtmlmgjdjbpipcaaDoorMqMa
import Derived.Test.YtmlmgjdjbpipcaaDoorNqR
import Derived.Deep.DeepCutAuto
/- peerageref12.Read at a reach, whatever the bytes (written by gen/mqe.py) -/
namespace Go.Proofs.YtmlmgjdjbpipcaaDoor
open Go.RowKit

theorem four_boxes (w : World) (c0 c1 c2 c3 : Array Value) (t0 t1 t2 t3 : TypeId) : ∃ W, W = ((((w.alloc (.cells c0 t0)).alloc (.cells c1 t1)).alloc (.cells c2 t2)).alloc (.cells c3 t3)) ∧ Own W w.heap.size t0 c0 ∧ Own W (w.heap.size + 1) t1 c1 ∧ Own W (w.heap.size + 1 + 1) t2 c2 ∧ Own W (w.heap.size + 1 + 1 + 1) t3 c3 ∧ Below w.heap.size w W ∧ W.heap.size = w.heap.size + 1 + 1 + 1 + 1 := by
  have s1 : (w.alloc (.cells c0 t0)).heap.size = w.heap.size + 1 := by simp
  have s2 : ((w.alloc (.cells c0 t0)).alloc (.cells c1 t1)).heap.size = w.heap.size + 1 + 1 := by simp
  have s3 : (((w.alloc (.cells c0 t0)).alloc (.cells c1 t1)).alloc (.cells c2 t2)).heap.size = w.heap.size + 1 + 1 + 1 := by simp
  have o1 := Own.new (w.alloc (.cells c0 t0)) t1 c1
  have o2 := Own.new ((w.alloc (.cells c0 t0)).alloc (.cells c1 t1)) t2 c2
  have o3 := Own.new (((w.alloc (.cells c0 t0)).alloc (.cells c1 t1)).alloc (.cells c2 t2)) t3 c3
  rw [s1] at o1
  rw [s2] at o2
  rw [s3] at o3
  exact ⟨_, rfl, (((Own.new w t0 c0).alloc _).alloc _).alloc _, (o1.alloc _).alloc _, o2.alloc _, o3, bl_alloc (bl_alloc (bl_alloc (bl_alloc (bl_refl w) _) _) _) _, by simp⟩
set_option maxRecDepth 100000 in
set_option maxHeartbeats 3200000 in
theorem rmread_short (a0 a1 a2 a3 a4 a5 : Bool) (A : Option Addr) (c : Nat) (xs : List Int) (w : World) (hx : Bytes w w.heap.size A xs.length xs) (_ : xs.length ≤ c) (hn : xs.length ≤ 500) (h3 : xs.length < 3) :
    Calls Tryd.prog 19 #[.agg #[.bool a0, .bool a1, .bool a2, .bool a3, .bool a4, .bool a5], .int .i64 14, .agg #[.slice A xs.length c, .int .i64 0]] w fun e w' => Below w.heap.size w w' ∧ ((∃ V, e = .returned (.tuple #[.agg zA9, .agg V]) ∧ MFail a2 a3 a4 a5 xs 0 V) ∨ (∃ A', e = .returned (.tuple #[.agg A', .agg zV5]) ∧ MGood a2 a3 a4 a5 xs w' A')) := by
  have hmf : MFail a2 a3 a4 a5 xs 0 #[.int .i64 4, .int .i64 3, .int .i64 9, .slice none 0 0, .int .i64 0] := .inl ⟨by unfold mTag; rw [if_pos h3], rfl⟩
  have hlt : (xs.length : Int) < 3 := by omega
  obtain ⟨W4, hW4, o3, o5, o6, o7, b4, hs4⟩ := four_boxes w #[.bool a0, .bool a1, .bool a2, .bool a3, .bool a4, .bool a5] #[.slice A xs.length c, .int .i64 0] #[.int .i64 0, .bool false, .int .u32 0, .int .u32 0, .slice none 0 0, .slice none 0 0, .slice none 0 0, .int .i64 0, .slice none 0 0] #[.int .i64 0, .int .i64 0, .int .i64 0, .slice none 0 0, .int .i64 0] 23 48 30 38
  have hx4 := hx.below b4
  have c50 := o5.cell (i := 0) (v := .slice A xs.length c) rfl
  have c51 := o5.cell (i := 1) (v := .int .i64 0) rfl
  go_enter Tryd.func19, Tryd.ntmps19
  go_upto_region 1 with fail
  rw [← hW4]
  clear hW4
  clear hx hx4
  have p7 := (Rest.setRowM W4 (w.heap.size + 1 + 1) zA9).own o7 (by omega)
  have HF6 := Lib.hid (And.intro (o6.setRow (cs' := zA9)) p7)
  have HB6 := Lib.hid b4
  go_wp2_with (first
    | (refine wpList_store_row rfl 30 _ _ rfl (w.heap.size + 1 + 1) zA9 rfl rfl 30 zA9 o6 (at_infoM _ _ _ _ _ _ _ _ _) rfl (at_oneV 0 false 0 0 none 0 0 none 0 0 none 0 0 0 none 0 0) ?_)
    | (refine wpList_store_row rfl 38 _ _ rfl (w.heap.size + 1 + 1 + 1) #[.int .i64 4, .int .i64 3, .int .i64 9, .slice none 0 0, .int .i64 0] rfl rfl 38 zV5 p7 (vd_infoM _ _ _ _ _) rfl (vd_oneM _ _ _ _) ?_))
  have F1 := (Rest.setRowM (W4.setRow (w.heap.size + 1 + 1) zA9) (w.heap.size + 1 + 1 + 1) #[.int .i64 4, .int .i64 3, .int .i64 9, .slice none 0 0, .int .i64 0]).own HF6.out.1 (by omega)
  have F2 := HF6.out.2.setRow (cs' := #[.int .i64 4, .int .i64 3, .int .i64 9, .slice none 0 0, .int .i64 0])
  refine bodyPost_ret (results_mp2 (p := 6) (q := 7) (fn := Tryd.f19) rfl _ _ (w.heap.size + 1 + 1) 30 zA9 _ (w.heap.size + 1 + 1 + 1) 38 #[.int .i64 4, .int .i64 3, .int .i64 9, .slice none 0 0, .int .i64 0] _ rfl F1 at_descM rfl (at_infoM _ _ _ _ _ _ _ _ _) rfl F2 vd_descM rfl (vd_infoM _ _ _ _ _)) rfl ⟨bl_setRow (bl_setRow HB6.out (by omega)) (by omega), .inl ⟨_, rfl, hmf⟩⟩
theorem big_two {xs : List Int} (h : ∀ x ∈ xs, 0 ≤ x ∧ x ≤ 255) : 0 ≤ big (xs.take 2) ∧ big (xs.take 2) < 4294967296 := by
  match xs, h with
  | [], _ => simp [big]
  | [x], h => have := h x (by simp); simp [big]; omega
  | x :: y :: _, h => have h1 := h x (by simp); have h2 := h y (by simp); simp [big]; omega
set_option maxRecDepth 100000 in
set_option maxHeartbeats 6400000 in
theorem rmread_nofam (a0 a1 a2 a3 a4 a5 : Bool) (A : Option Addr) (c : Nat) (xs : List Int) (w : World) (hx : Bytes w w.heap.size A xs.length xs) (hc : xs.length ≤ c) (hn : xs.length ≤ 500) (h3 : ¬ xs.length < 3) (hno : famB a2 a3 (mF xs) = false) :
    Calls Tryd.prog 19 #[.agg #[.bool a0, .bool a1, .bool a2, .bool a3, .bool a4, .bool a5], .int .i64 14, .agg #[.slice A xs.length c, .int .i64 0]] w fun e w' => Below w.heap.size w w' ∧ ((∃ V, e = .returned (.tuple #[.agg zA9, .agg V]) ∧ MFail a2 a3 a4 a5 xs 0 V) ∨ (∃ A', e = .returned (.tuple #[.agg A', .agg zV5]) ∧ MGood a2 a3 a4 a5 xs w' A')) := by
  have hmf : MFail a2 a3 a4 a5 xs 0 #[.int .i64 1, .int .i64 0, .int .i64 0, .slice none 0 0, .int .i64 0] := .inr (.inl ⟨by unfold mTag; rw [if_neg h3, if_pos hno], rfl⟩)
  have hMp := Lib.hid (fun W => rmp_any a0 a1 a2 a3 a4 a5 (mF xs) W)
  rw [hno] at hMp
  obtain ⟨W4, hW4, o3, o5, o6, o7, b4, hs4⟩ := four_boxes w #[.bool a0, .bool a1, .bool a2, .bool a3, .bool a4, .bool a5] #[.slice A xs.length c, .int .i64 0] #[.int .i64 0, .bool false, .int .u32 0, .int .u32 0, .slice none 0 0, .slice none 0 0, .slice none 0 0, .int .i64 0, .slice none 0 0] #[.int .i64 0, .int .i64 0, .int .i64 0, .slice none 0 0, .int .i64 0] 23 48 30 38
  have hx4 := hx.below b4
  have c50 := o5.cell (i := 0) (v := .slice A xs.length c) rfl
  have c51 := o5.cell (i := 1) (v := .int .i64 0) rfl
  go_enter Tryd.func19, Tryd.ntmps19
  go_upto_region 1 with fail
  rw [← hW4]
  clear hW4
  obtain ⟨b, o, hA, hb, hz, hz0, hz1⟩ := hx4.at_ (show 2 < xs.length by omega)
  have HBig := Lib.hid (fun W (h : Bytes W w.heap.size A 2 (xs.take 2)) => rbig_any A 2 c (xs.take 2) W w.heap.size h (by omega))
  have HFm := Lib.hid (fun W => rmfamily_any (big (xs.take 2)) (nth xs 2) (big_two hx.2.1).1 (big_two hx.2.1).2 W)
  have hfr : Bytes W4.drew w.heap.size A 2 (xs.take 2) := (hx4.front (show 2 ≤ xs.length by omega)).drewN 1
  have hfam : Hid (famOf (big (xs.take 2)) (nth xs 2) = mF xs) := Lib.hid rfl
  rw [hfam.out] at HFm
  have hlt : ¬ (xs.length : Int) < 3 := by omega
  have hlt2 : (2 : Int) < (xs.length : Int) := by omega
  have hcc : (2 : Int) ≤ (c : Int) := by omega
  have hwz : IntKind.u32.wrap (nth xs 2) = nth xs 2 := by rw [IntKind.wrap_u32]; omega
  subst hA
  go_wp2_with fail
  have HS0 : W4.drew.cell? ⟨w.heap.size + 1, 0, none⟩ = some (.slice (some ⟨b, o, none⟩) xs.length c) ∧ W4.drew.cell? ⟨b, o + 2, none⟩ = some (.int .u8 (nth xs 2)) := ⟨c50, hz⟩
  go_region_held3 (fun W => W.cell? ⟨w.heap.size + 1, 0, none⟩ = some (.slice (some ⟨b, o, none⟩) xs.length c) ∧ W.cell? ⟨b, o + 2, none⟩ = some (.int .u8 (nth xs 2))) (with_reducible exact HS0) ((first
    | (go_at_call 55; (with_reducible refine (HBig.out _ hfr).mono ?_); rintro e w' ⟨rfl, rfl⟩)
    | (go_at_call 54; (with_reducible refine (HFm.out _).mono ?_); rintro e w' ⟨rfl, rfl⟩)))
  replace o3 := o3.drew
  replace o6 := o6.drew
  replace o7 := o7.drew
  replace b4 := b4.drew
  replace hs4 : W4.drew.heap.size = w.heap.size + 1 + 1 + 1 + 1 := hs4
  clear HS0 hfr HBig HFm hx4 hx o5 hfam
  generalize W4.drew = W5 at *
  generalize mF xs = F at *
  by_cases hz : F = 0
  · have q1 : (F == 0) = true := by simpa using hz
    clear hz
    have p7 := (Rest.setRowM W5 (w.heap.size + 1 + 1) zA9).own o7 (by omega)
    have HF6 := Lib.hid (And.intro (o6.setRow (cs' := zA9)) p7)
    have HB6 := Lib.hid b4
    go_wp2_with (first
      | (refine wpList_store_row rfl 30 _ _ rfl (w.heap.size + 1 + 1) zA9 rfl rfl 30 zA9 o6 (at_infoM _ _ _ _ _ _ _ _ _) rfl (at_oneV 0 false 0 0 none 0 0 none 0 0 none 0 0 0 none 0 0) ?_)
      | (refine wpList_store_row rfl 38 _ _ rfl (w.heap.size + 1 + 1 + 1) #[.int .i64 1, .int .i64 0, .int .i64 0, .slice none 0 0, .int .i64 0] rfl rfl 38 zV5 p7 (vd_infoM _ _ _ _ _) rfl (vd_oneM _ _ _ _) ?_))
    have F1 := (Rest.setRowM (W5.setRow (w.heap.size + 1 + 1) zA9) (w.heap.size + 1 + 1 + 1) #[.int .i64 1, .int .i64 0, .int .i64 0, .slice none 0 0, .int .i64 0]).own HF6.out.1 (by omega)
    have F2 := HF6.out.2.setRow (cs' := #[.int .i64 1, .int .i64 0, .int .i64 0, .slice none 0 0, .int .i64 0])
    refine bodyPost_ret (results_mp2 (p := 6) (q := 7) (fn := Tryd.f19) rfl _ _ (w.heap.size + 1 + 1) 30 zA9 _ (w.heap.size + 1 + 1 + 1) 38 #[.int .i64 1, .int .i64 0, .int .i64 0, .slice none 0 0, .int .i64 0] _ rfl F1 at_descM rfl (at_infoM _ _ _ _ _ _ _ _ _) rfl F2 vd_descM rfl (vd_infoM _ _ _ _ _)) rfl ⟨bl_setRow (bl_setRow HB6.out (by omega)) (by omega), .inl ⟨_, rfl, hmf⟩⟩
  · have q1 : (F == 0) = false := by simpa using hz
    clear hz
    obtain ⟨y0, y1, y2, y3, y4, y5⟩ : _ ∧ _ ∧ _ ∧ _ ∧ _ ∧ _ := ⟨o3.cell (i := 0) rfl, o3.cell (i := 1) rfl, o3.cell (i := 2) rfl, o3.cell (i := 3) rfl, o3.cell (i := 4) rfl, o3.cell (i := 5) rfl⟩
    go_wp2_with fail
    refine (hMp.out _).mono ?_
    rintro e w5 ⟨rfl, hb5⟩
    replace o6 := o6.step hb5
    replace o7 := o7.step hb5
    replace b4 := bl_trans b4 hb5
    clear y0 y1 y2 y3 y4 y5 o3 hb5
    have p7 := (Rest.setRowM w5 (w.heap.size + 1 + 1) zA9).own o7 (by omega)
    have HF6 := Lib.hid (And.intro (o6.setRow (cs' := zA9)) p7)
    have HB6 := Lib.hid b4
    go_wp2_with (first
      | (refine wpList_store_row rfl 30 _ _ rfl (w.heap.size + 1 + 1) zA9 rfl rfl 30 zA9 o6 (at_infoM _ _ _ _ _ _ _ _ _) rfl (at_oneV 0 false 0 0 none 0 0 none 0 0 none 0 0 0 none 0 0) ?_)
      | (refine wpList_store_row rfl 38 _ _ rfl (w.heap.size + 1 + 1 + 1) #[.int .i64 1, .int .i64 0, .int .i64 0, .slice none 0 0, .int .i64 0] rfl rfl 38 zV5 p7 (vd_infoM _ _ _ _ _) rfl (vd_oneM _ _ _ _) ?_))
    have F1 := (Rest.setRowM (w5.setRow (w.heap.size + 1 + 1) zA9) (w.heap.size + 1 + 1 + 1) #[.int .i64 1, .int .i64 0, .int .i64 0, .slice none 0 0, .int .i64 0]).own HF6.out.1 (by omega)
    have F2 := HF6.out.2.setRow (cs' := #[.int .i64 1, .int .i64 0, .int .i64 0, .slice none 0 0, .int .i64 0])
    refine bodyPost_ret (results_mp2 (p := 6) (q := 7) (fn := Tryd.f19) rfl _ _ (w.heap.size + 1 + 1) 30 zA9 _ (w.heap.size + 1 + 1 + 1) 38 #[.int .i64 1, .int .i64 0, .int .i64 0, .slice none 0 0, .int .i64 0] _ rfl F1 at_descM rfl (at_infoM _ _ _ _ _ _ _ _ _) rfl F2 vd_descM rfl (vd_infoM _ _ _ _ _)) rfl ⟨bl_setRow (bl_setRow HB6.out (by omega)) (by omega), .inl ⟨_, rfl, hmf⟩⟩
end Go.Proofs.YtmlmgjdjbpipcaaDoor

/- peerageref12.Read at a reach: a next hop that is not good (written by gen/mqf.py) -/
namespace Go.Proofs.YtmlmgjdjbpipcaaDoor
open Go.RowKit Go.Sort

set_option maxRecDepth 100000 in
set_option maxHeartbeats 6400000 in
theorem rmread_hop1 (a0 a1 a2 a3 a4 a5 : Bool) (A : Option Addr) (c : Nat) (xs : List Int) (w : World) (hx : Bytes w w.heap.size A xs.length xs) (hc : xs.length ≤ c) (hn : xs.length ≤ 500) (h3 : ¬ xs.length < 3) (hyes : famB a2 a3 (mF xs) = true) (h4 : xs.length < 4) :
    Calls Tryd.prog 19 #[.agg #[.bool a0, .bool a1, .bool a2, .bool a3, .bool a4, .bool a5], .int .i64 14, .agg #[.slice A xs.length c, .int .i64 0]] w fun e w' => Below w.heap.size w w' ∧ ((∃ V, e = .returned (.tuple #[.agg zA9, .agg V]) ∧ MFail a2 a3 a4 a5 xs 0 V) ∨ (∃ A', e = .returned (.tuple #[.agg A', .agg zV5]) ∧ MGood a2 a3 a4 a5 xs w' A')) := by
  have hmf : MFail a2 a3 a4 a5 xs 0 #[.int .i64 3, .int .i64 0, .int .i64 (mF xs), .slice none 0 0, .int .i64 3] := .inr (.inr (.inl ⟨by unfold mTag; rw [if_neg h3, hyes]; simp [h4], rfl⟩))
  have hf12 := famB_12 hyes
  have hMp := Lib.hid (fun W => rmp_any a0 a1 a2 a3 a4 a5 (mF xs) W)
  rw [hyes] at hMp
  obtain ⟨W4, hW4, o3, o5, o6, o7, b4, hs4⟩ := four_boxes w #[.bool a0, .bool a1, .bool a2, .bool a3, .bool a4, .bool a5] #[.slice A xs.length c, .int .i64 0] #[.int .i64 0, .bool false, .int .u32 0, .int .u32 0, .slice none 0 0, .slice none 0 0, .slice none 0 0, .int .i64 0, .slice none 0 0] #[.int .i64 0, .int .i64 0, .int .i64 0, .slice none 0 0, .int .i64 0] 23 48 30 38
  have hx4 := hx.below b4
  have c50 := o5.cell (i := 0) (v := .slice A xs.length c) rfl
  have c51 := o5.cell (i := 1) (v := .int .i64 0) rfl
  go_enter Tryd.func19, Tryd.ntmps19
  go_upto_region 1 with fail
  rw [← hW4]
  clear hW4
  obtain ⟨b, o, hA, hb, hz, hz0, hz1⟩ := hx4.at_ (show 2 < xs.length by omega)
  have HBig := Lib.hid (fun W (h : Bytes W w.heap.size A 2 (xs.take 2)) => rbig_any A 2 c (xs.take 2) W w.heap.size h (by omega))
  have HFm := Lib.hid (fun W => rmfamily_any (big (xs.take 2)) (nth xs 2) (big_two hx.2.1).1 (big_two hx.2.1).2 W)
  have hfr : Bytes W4.drew w.heap.size A 2 (xs.take 2) := (hx4.front (show 2 ≤ xs.length by omega)).drewN 1
  have hfam : Hid (famOf (big (xs.take 2)) (nth xs 2) = mF xs) := Lib.hid rfl
  rw [hfam.out] at HFm
  have hlt : ¬ (xs.length : Int) < 3 := by omega
  have hlt2 : (2 : Int) < (xs.length : Int) := by omega
  have hcc : (2 : Int) ≤ (c : Int) := by omega
  have hwz : IntKind.u32.wrap (nth xs 2) = nth xs 2 := by rw [IntKind.wrap_u32]; omega
  subst hA
  go_wp2_with fail
  have HS0 : W4.drew.cell? ⟨w.heap.size + 1, 0, none⟩ = some (.slice (some ⟨b, o, none⟩) xs.length c) ∧ W4.drew.cell? ⟨b, o + 2, none⟩ = some (.int .u8 (nth xs 2)) := ⟨c50, hz⟩
  go_region_held3 (fun W => W.cell? ⟨w.heap.size + 1, 0, none⟩ = some (.slice (some ⟨b, o, none⟩) xs.length c) ∧ W.cell? ⟨b, o + 2, none⟩ = some (.int .u8 (nth xs 2))) (with_reducible exact HS0) ((first
    | (go_at_call 55; (with_reducible refine (HBig.out _ hfr).mono ?_); rintro e w' ⟨rfl, rfl⟩)
    | (go_at_call 54; (with_reducible refine (HFm.out _).mono ?_); rintro e w' ⟨rfl, rfl⟩)))
  replace o3 := o3.drew
  replace o5 := o5.drew
  replace o6 := o6.drew
  replace o7 := o7.drew
  replace b4 := b4.drew
  replace hx4 := hx4.drewN 1
  replace hs4 : W4.drew.heap.size = w.heap.size + 1 + 1 + 1 + 1 := hs4
  clear HS0 hfr HBig HFm hfam c50 c51 hz
  generalize hW5 : W4.drew = W5 at *
  replace hx4 : Bytes W5 w.heap.size (some ⟨b, o, none⟩) xs.length xs := hW5 ▸ hx4
  clear hW5
  have q1 : (mF xs == 0) = false := by simp; omega
  obtain ⟨y0, y1, y2, y3, y4, y5⟩ : _ ∧ _ ∧ _ ∧ _ ∧ _ ∧ _ := ⟨o3.cell (i := 0) rfl, o3.cell (i := 1) rfl, o3.cell (i := 2) rfl, o3.cell (i := 3) rfl, o3.cell (i := 4) rfl, o3.cell (i := 5) rfl⟩
  go_wp2_with fail
  refine (hMp.out _).mono ?_
  rintro e w5 ⟨rfl, hb5⟩
  clear y0 y1 y2 y3 y4 y5
  have hb6 := bl_alloc hb5 (.cells #[.int .i64 14, .bool false, .int .u32 0, .int .u32 0, .slice none 0 0, .slice none 0 0, .slice none 0 0, .int .i64 (mF xs), .slice none 0 0] 30)
  have o10 := Own.new w5 30 #[.int .i64 14, .bool false, .int .u32 0, .int .u32 0, .slice none 0 0, .slice none 0 0, .slice none 0 0, .int .i64 (mF xs), .slice none 0 0]
  replace o3 := o3.step hb6
  replace o5 := o5.step hb6
  replace o6 := o6.step hb6
  replace o7 := o7.step hb6
  replace hx4 := hx4.below (hb6.mono (by omega))
  have hs5 := hb5.size
  replace b4 := bl_trans b4 hb6
  clear hb5 hb6 hMp
  go_wp2_with fail
  obtain ⟨W6, hW6⟩ : ∃ z, z = w5.alloc (.cells #[.int .i64 14, .bool false, .int .u32 0, .int .u32 0, .slice none 0 0, .slice none 0 0, .slice none 0 0, .int .i64 (mF xs), .slice none 0 0] 30) := ⟨_, rfl⟩
  have hs6 : W6.heap.size = w5.heap.size + 1 := by rw [hW6]; simp
  rw [← hW6] at o3 o5 o6 o7 o10 hx4 b4 ⊢
  clear hW6
  obtain ⟨g10, hg10⟩ : ∃ z, z = w5.heap.size := ⟨_, rfl⟩
  rw [← hg10] at o10 hs5 hs6 ⊢
  clear hg10
  have c50 : W6.drew.cell? ⟨w.heap.size + 1, 0, none⟩ = some (.slice (some ⟨b, o, none⟩) xs.length c) := o5.cell (i := 0) rfl
  have c51 : W6.drew.cell? ⟨w.heap.size + 1, 1, none⟩ = some (.int .i64 0) := o5.cell (i := 1) rfl
  have hlt4 : (xs.length : Int) < 4 := by omega
  have q50 := cell_regrown (o5.cell (i := 0) (v := .slice (some ⟨b, o, none⟩) xs.length c) rfl)
  refine wp_region_quiet_below (by kernel_rfl) (by kernel_rfl) ?_
  repeat (first
    | go_big_quiet_skip
    | go_big_quiet_step (fail))
  refine wpQuiet_nil ?_
  first | rintro w' ⟨⟨dq, osq⟩, rfl⟩ | rintro ⟨dq, osq⟩
  have hb7 := below_regrown W6 dq osq
  replace o5 := o5.step hb7
  replace o6 := o6.step hb7
  replace o7 := o7.step hb7
  replace b4 := bl_trans b4 hb7
  clear q50 c50 c51 o3 o10 hx4
  generalize grow (redrawn W6 dq) osq = W7 at *
  have c51 := o5.cell (i := 1) (v := .int .i64 0) rfl
  clear hb7
  have p7 := (Rest.setRowM W7 (w.heap.size + 1 + 1) zA9).own o7 (by omega)
  have HF6 := Lib.hid (And.intro (o6.setRow (cs' := zA9)) p7)
  have HB6 := Lib.hid b4
  go_wp2_with (first
    | (refine wpList_store_row rfl 30 _ _ rfl (w.heap.size + 1 + 1) zA9 rfl rfl 30 zA9 o6 (at_infoM _ _ _ _ _ _ _ _ _) rfl (at_oneV 0 false 0 0 none 0 0 none 0 0 none 0 0 0 none 0 0) ?_)
    | (refine wpList_store_row rfl 38 _ _ rfl (w.heap.size + 1 + 1 + 1) #[.int .i64 3, .int .i64 0, .int .i64 (mF xs), .slice none 0 0, .int .i64 3] rfl rfl 38 zV5 p7 (vd_infoM _ _ _ _ _) rfl (vd_oneM _ _ _ _) ?_))
  have F1 := (Rest.setRowM (W7.setRow (w.heap.size + 1 + 1) zA9) (w.heap.size + 1 + 1 + 1) #[.int .i64 3, .int .i64 0, .int .i64 (mF xs), .slice none 0 0, .int .i64 3]).own HF6.out.1 (by omega)
  have F2 := HF6.out.2.setRow (cs' := #[.int .i64 3, .int .i64 0, .int .i64 (mF xs), .slice none 0 0, .int .i64 3])
  refine bodyPost_ret (results_mp2 (p := 6) (q := 7) (fn := Tryd.f19) rfl _ _ (w.heap.size + 1 + 1) 30 zA9 _ (w.heap.size + 1 + 1 + 1) 38 #[.int .i64 3, .int .i64 0, .int .i64 (mF xs), .slice none 0 0, .int .i64 3] _ rfl F1 at_descM rfl (at_infoM _ _ _ _ _ _ _ _ _) rfl F2 vd_descM rfl (vd_infoM _ _ _ _ _)) rfl ⟨bl_setRow (bl_setRow HB6.out (by omega)) (by omega), .inl ⟨_, rfl, hmf⟩⟩
set_option maxRecDepth 100000 in
set_option maxHeartbeats 6400000 in
theorem rmread_hop2 (a0 a1 a2 a3 a4 a5 : Bool) (A : Option Addr) (c : Nat) (xs : List Int) (w : World) (hx : Bytes w w.heap.size A xs.length xs) (hc : xs.length ≤ c) (hn : xs.length ≤ 500) (h3 : ¬ xs.length < 3) (hyes : famB a2 a3 (mF xs) = true) (h4 : ¬ xs.length < 4) (hh : hopB (mF xs) (mN xs) = false) :
    Calls Tryd.prog 19 #[.agg #[.bool a0, .bool a1, .bool a2, .bool a3, .bool a4, .bool a5], .int .i64 14, .agg #[.slice A xs.length c, .int .i64 0]] w fun e w' => Below w.heap.size w w' ∧ ((∃ V, e = .returned (.tuple #[.agg zA9, .agg V]) ∧ MFail a2 a3 a4 a5 xs 0 V) ∨ (∃ A', e = .returned (.tuple #[.agg A', .agg zV5]) ∧ MGood a2 a3 a4 a5 xs w' A')) := by
  have hmf : MFail a2 a3 a4 a5 xs 0 #[.int .i64 3, .int .i64 0, .int .i64 (mF xs), .slice none 0 0, .int .i64 3] := .inr (.inr (.inl ⟨by unfold mTag; rw [if_neg h3, hyes]; simp [hh], rfl⟩))
  have hf12 := famB_12 hyes
  have hMp := Lib.hid (fun W => rmp_any a0 a1 a2 a3 a4 a5 (mF xs) W)
  rw [hyes] at hMp
  obtain ⟨W4, hW4, o3, o5, o6, o7, b4, hs4⟩ := four_boxes w #[.bool a0, .bool a1, .bool a2, .bool a3, .bool a4, .bool a5] #[.slice A xs.length c, .int .i64 0] #[.int .i64 0, .bool false, .int .u32 0, .int .u32 0, .slice none 0 0, .slice none 0 0, .slice none 0 0, .int .i64 0, .slice none 0 0] #[.int .i64 0, .int .i64 0, .int .i64 0, .slice none 0 0, .int .i64 0] 23 48 30 38
  have hx4 := hx.below b4
  have c50 := o5.cell (i := 0) (v := .slice A xs.length c) rfl
  have c51 := o5.cell (i := 1) (v := .int .i64 0) rfl
  go_enter Tryd.func19, Tryd.ntmps19
  go_upto_region 1 with fail
  rw [← hW4]
  clear hW4
  obtain ⟨b, o, hA, hb, hz, hz0, hz1⟩ := hx4.at_ (show 2 < xs.length by omega)
  have HBig := Lib.hid (fun W (h : Bytes W w.heap.size A 2 (xs.take 2)) => rbig_any A 2 c (xs.take 2) W w.heap.size h (by omega))
  have HFm := Lib.hid (fun W => rmfamily_any (big (xs.take 2)) (nth xs 2) (big_two hx.2.1).1 (big_two hx.2.1).2 W)
  have hfr : Bytes W4.drew w.heap.size A 2 (xs.take 2) := (hx4.front (show 2 ≤ xs.length by omega)).drewN 1
  have hfam : Hid (famOf (big (xs.take 2)) (nth xs 2) = mF xs) := Lib.hid rfl
  rw [hfam.out] at HFm
  have hlt : ¬ (xs.length : Int) < 3 := by omega
  have hlt2 : (2 : Int) < (xs.length : Int) := by omega
  have hcc : (2 : Int) ≤ (c : Int) := by omega
  have hwz : IntKind.u32.wrap (nth xs 2) = nth xs 2 := by rw [IntKind.wrap_u32]; omega
  subst hA
  go_wp2_with fail
  have HS0 : W4.drew.cell? ⟨w.heap.size + 1, 0, none⟩ = some (.slice (some ⟨b, o, none⟩) xs.length c) ∧ W4.drew.cell? ⟨b, o + 2, none⟩ = some (.int .u8 (nth xs 2)) := ⟨c50, hz⟩
  go_region_held3 (fun W => W.cell? ⟨w.heap.size + 1, 0, none⟩ = some (.slice (some ⟨b, o, none⟩) xs.length c) ∧ W.cell? ⟨b, o + 2, none⟩ = some (.int .u8 (nth xs 2))) (with_reducible exact HS0) ((first
    | (go_at_call 55; (with_reducible refine (HBig.out _ hfr).mono ?_); rintro e w' ⟨rfl, rfl⟩)
    | (go_at_call 54; (with_reducible refine (HFm.out _).mono ?_); rintro e w' ⟨rfl, rfl⟩)))
  replace o3 := o3.drew
  replace o5 := o5.drew
  replace o6 := o6.drew
  replace o7 := o7.drew
  replace b4 := b4.drew
  replace hx4 := hx4.drewN 1
  replace hs4 : W4.drew.heap.size = w.heap.size + 1 + 1 + 1 + 1 := hs4
  clear HS0 hfr HBig HFm hfam c50 c51 hz
  generalize hW5 : W4.drew = W5 at *
  replace hx4 : Bytes W5 w.heap.size (some ⟨b, o, none⟩) xs.length xs := hW5 ▸ hx4
  clear hW5
  have q1 : (mF xs == 0) = false := by simp; omega
  obtain ⟨y0, y1, y2, y3, y4, y5⟩ : _ ∧ _ ∧ _ ∧ _ ∧ _ ∧ _ := ⟨o3.cell (i := 0) rfl, o3.cell (i := 1) rfl, o3.cell (i := 2) rfl, o3.cell (i := 3) rfl, o3.cell (i := 4) rfl, o3.cell (i := 5) rfl⟩
  go_wp2_with fail
  refine (hMp.out _).mono ?_
  rintro e w5 ⟨rfl, hb5⟩
  clear y0 y1 y2 y3 y4 y5
  have hb6 := bl_alloc hb5 (.cells #[.int .i64 14, .bool false, .int .u32 0, .int .u32 0, .slice none 0 0, .slice none 0 0, .slice none 0 0, .int .i64 (mF xs), .slice none 0 0] 30)
  have o10 := Own.new w5 30 #[.int .i64 14, .bool false, .int .u32 0, .int .u32 0, .slice none 0 0, .slice none 0 0, .slice none 0 0, .int .i64 (mF xs), .slice none 0 0]
  replace o3 := o3.step hb6
  replace o5 := o5.step hb6
  replace o6 := o6.step hb6
  replace o7 := o7.step hb6
  replace hx4 := hx4.below (hb6.mono (by omega))
  have hs5 := hb5.size
  replace b4 := bl_trans b4 hb6
  clear hb5 hb6 hMp
  go_wp2_with fail
  obtain ⟨W6, hW6⟩ : ∃ z, z = w5.alloc (.cells #[.int .i64 14, .bool false, .int .u32 0, .int .u32 0, .slice none 0 0, .slice none 0 0, .slice none 0 0, .int .i64 (mF xs), .slice none 0 0] 30) := ⟨_, rfl⟩
  have hs6 : W6.heap.size = w5.heap.size + 1 := by rw [hW6]; simp
  rw [← hW6] at o3 o5 o6 o7 o10 hx4 b4 ⊢
  clear hW6
  obtain ⟨g10, hg10⟩ : ∃ z, z = w5.heap.size := ⟨_, rfl⟩
  rw [← hg10] at o10 hs5 hs6 ⊢
  clear hg10
  have c50 : W6.drew.cell? ⟨w.heap.size + 1, 0, none⟩ = some (.slice (some ⟨b, o, none⟩) xs.length c) := o5.cell (i := 0) rfl
  have c51 : W6.drew.cell? ⟨w.heap.size + 1, 1, none⟩ = some (.int .i64 0) := o5.cell (i := 1) rfl
  have hcell : W6.drew.cell? ⟨b, o + 3, none⟩ = some (.int .u8 ((mN xs : Nat) : Int)) ∧ mN xs ≤ 255 := by
    obtain ⟨b', o', hA', _, hz', hz0', hz1'⟩ := hx4.at_ (show 3 < xs.length by omega)
    cases hA'
    have e : nth xs 3 = ((mN xs : Nat) : Int) := by unfold mN; omega
    rw [e] at hz'
    exact ⟨hz', by unfold mN; omega⟩
  obtain ⟨hz3, hN255⟩ := hcell
  have hHp := Lib.hid (fun W => rmhop_any (mF xs) (mN xs) W)
  have hlt3 : (3 : Int) < (xs.length : Int) := by omega
  have hwn : IntKind.i64.wrap ((mN xs : Nat) : Int) = ((mN xs : Nat) : Int) := by rw [IntKind.wrap_i64]; omega
  have hwn4 : IntKind.i64.wrap (4 + ((mN xs : Nat) : Int)) = 4 + ((mN xs : Nat) : Int) := by rw [IntKind.wrap_i64]; omega
  have hlt4 : ¬ (xs.length : Int) < 4 := by omega
  rw [hh] at hHp
  have q50 := cell_regrown (o5.cell (i := 0) (v := .slice (some ⟨b, o, none⟩) xs.length c) rfl)
  have q3 := cell_regrown (show W6.cell? ⟨b, o + 3, none⟩ = some (.int .u8 ((mN xs : Nat) : Int)) from hz3)
  have r1 := Lib.hid (quiet_of (w := W6) hHp.out)
  refine wp_region_quiet_below (by kernel_rfl) (by kernel_rfl) ?_
  repeat (first
    | go_big_quiet_skip
    | go_big_quiet_step (with_reducible exact r1.out _ _))
  refine wpQuiet_nil ?_
  first | rintro w' ⟨⟨dq, osq⟩, rfl⟩ | rintro ⟨dq, osq⟩
  have hb7 := below_regrown W6 dq osq
  replace o5 := o5.step hb7
  replace o6 := o6.step hb7
  replace o7 := o7.step hb7
  replace b4 := bl_trans b4 hb7
  clear q50 c50 c51 o3 o10 hx4 q3 r1 hz3 hHp
  generalize grow (redrawn W6 dq) osq = W7 at *
  have c51 := o5.cell (i := 1) (v := .int .i64 0) rfl
  clear hb7
  have p7 := (Rest.setRowM W7 (w.heap.size + 1 + 1) zA9).own o7 (by omega)
  have HF6 := Lib.hid (And.intro (o6.setRow (cs' := zA9)) p7)
  have HB6 := Lib.hid b4
  go_wp2_with (first
    | (refine wpList_store_row rfl 30 _ _ rfl (w.heap.size + 1 + 1) zA9 rfl rfl 30 zA9 o6 (at_infoM _ _ _ _ _ _ _ _ _) rfl (at_oneV 0 false 0 0 none 0 0 none 0 0 none 0 0 0 none 0 0) ?_)
    | (refine wpList_store_row rfl 38 _ _ rfl (w.heap.size + 1 + 1 + 1) #[.int .i64 3, .int .i64 0, .int .i64 (mF xs), .slice none 0 0, .int .i64 3] rfl rfl 38 zV5 p7 (vd_infoM _ _ _ _ _) rfl (vd_oneM _ _ _ _) ?_))
  have F1 := (Rest.setRowM (W7.setRow (w.heap.size + 1 + 1) zA9) (w.heap.size + 1 + 1 + 1) #[.int .i64 3, .int .i64 0, .int .i64 (mF xs), .slice none 0 0, .int .i64 3]).own HF6.out.1 (by omega)
  have F2 := HF6.out.2.setRow (cs' := #[.int .i64 3, .int .i64 0, .int .i64 (mF xs), .slice none 0 0, .int .i64 3])
  refine bodyPost_ret (results_mp2 (p := 6) (q := 7) (fn := Tryd.f19) rfl _ _ (w.heap.size + 1 + 1) 30 zA9 _ (w.heap.size + 1 + 1 + 1) 38 #[.int .i64 3, .int .i64 0, .int .i64 (mF xs), .slice none 0 0, .int .i64 3] _ rfl F1 at_descM rfl (at_infoM _ _ _ _ _ _ _ _ _) rfl F2 vd_descM rfl (vd_infoM _ _ _ _ _)) rfl ⟨bl_setRow (bl_setRow HB6.out (by omega)) (by omega), .inl ⟨_, rfl, hmf⟩⟩
set_option maxRecDepth 100000 in
set_option maxHeartbeats 6400000 in
theorem rmread_hop3 (a0 a1 a2 a3 a4 a5 : Bool) (A : Option Addr) (c : Nat) (xs : List Int) (w : World) (hx : Bytes w w.heap.size A xs.length xs) (hc : xs.length ≤ c) (hn : xs.length ≤ 500) (h3 : ¬ xs.length < 3) (hyes : famB a2 a3 (mF xs) = true) (h4 : ¬ xs.length < 4) (hh : hopB (mF xs) (mN xs) = true) (h5 : xs.length < 4 + mN xs) :
    Calls Tryd.prog 19 #[.agg #[.bool a0, .bool a1, .bool a2, .bool a3, .bool a4, .bool a5], .int .i64 14, .agg #[.slice A xs.length c, .int .i64 0]] w fun e w' => Below w.heap.size w w' ∧ ((∃ V, e = .returned (.tuple #[.agg zA9, .agg V]) ∧ MFail a2 a3 a4 a5 xs 0 V) ∨ (∃ A', e = .returned (.tuple #[.agg A', .agg zV5]) ∧ MGood a2 a3 a4 a5 xs w' A')) := by
  have hmf : MFail a2 a3 a4 a5 xs 0 #[.int .i64 3, .int .i64 0, .int .i64 (mF xs), .slice none 0 0, .int .i64 3] := .inr (.inr (.inl ⟨by unfold mTag; rw [if_neg h3, hyes]; simp [h5], rfl⟩))
  have hf12 := famB_12 hyes
  have hMp := Lib.hid (fun W => rmp_any a0 a1 a2 a3 a4 a5 (mF xs) W)
  rw [hyes] at hMp
  obtain ⟨W4, hW4, o3, o5, o6, o7, b4, hs4⟩ := four_boxes w #[.bool a0, .bool a1, .bool a2, .bool a3, .bool a4, .bool a5] #[.slice A xs.length c, .int .i64 0] #[.int .i64 0, .bool false, .int .u32 0, .int .u32 0, .slice none 0 0, .slice none 0 0, .slice none 0 0, .int .i64 0, .slice none 0 0] #[.int .i64 0, .int .i64 0, .int .i64 0, .slice none 0 0, .int .i64 0] 23 48 30 38
  have hx4 := hx.below b4
  have c50 := o5.cell (i := 0) (v := .slice A xs.length c) rfl
  have c51 := o5.cell (i := 1) (v := .int .i64 0) rfl
  go_enter Tryd.func19, Tryd.ntmps19
  go_upto_region 1 with fail
  rw [← hW4]
  clear hW4
  obtain ⟨b, o, hA, hb, hz, hz0, hz1⟩ := hx4.at_ (show 2 < xs.length by omega)
  have HBig := Lib.hid (fun W (h : Bytes W w.heap.size A 2 (xs.take 2)) => rbig_any A 2 c (xs.take 2) W w.heap.size h (by omega))
  have HFm := Lib.hid (fun W => rmfamily_any (big (xs.take 2)) (nth xs 2) (big_two hx.2.1).1 (big_two hx.2.1).2 W)
  have hfr : Bytes W4.drew w.heap.size A 2 (xs.take 2) := (hx4.front (show 2 ≤ xs.length by omega)).drewN 1
  have hfam : Hid (famOf (big (xs.take 2)) (nth xs 2) = mF xs) := Lib.hid rfl
  rw [hfam.out] at HFm
  have hlt : ¬ (xs.length : Int) < 3 := by omega
  have hlt2 : (2 : Int) < (xs.length : Int) := by omega
  have hcc : (2 : Int) ≤ (c : Int) := by omega
  have hwz : IntKind.u32.wrap (nth xs 2) = nth xs 2 := by rw [IntKind.wrap_u32]; omega
  subst hA
  go_wp2_with fail
  have HS0 : W4.drew.cell? ⟨w.heap.size + 1, 0, none⟩ = some (.slice (some ⟨b, o, none⟩) xs.length c) ∧ W4.drew.cell? ⟨b, o + 2, none⟩ = some (.int .u8 (nth xs 2)) := ⟨c50, hz⟩
  go_region_held3 (fun W => W.cell? ⟨w.heap.size + 1, 0, none⟩ = some (.slice (some ⟨b, o, none⟩) xs.length c) ∧ W.cell? ⟨b, o + 2, none⟩ = some (.int .u8 (nth xs 2))) (with_reducible exact HS0) ((first
    | (go_at_call 55; (with_reducible refine (HBig.out _ hfr).mono ?_); rintro e w' ⟨rfl, rfl⟩)
    | (go_at_call 54; (with_reducible refine (HFm.out _).mono ?_); rintro e w' ⟨rfl, rfl⟩)))
  replace o3 := o3.drew
  replace o5 := o5.drew
  replace o6 := o6.drew
  replace o7 := o7.drew
  replace b4 := b4.drew
  replace hx4 := hx4.drewN 1
  replace hs4 : W4.drew.heap.size = w.heap.size + 1 + 1 + 1 + 1 := hs4
  clear HS0 hfr HBig HFm hfam c50 c51 hz
  generalize hW5 : W4.drew = W5 at *
  replace hx4 : Bytes W5 w.heap.size (some ⟨b, o, none⟩) xs.length xs := hW5 ▸ hx4
  clear hW5
  have q1 : (mF xs == 0) = false := by simp; omega
  obtain ⟨y0, y1, y2, y3, y4, y5⟩ : _ ∧ _ ∧ _ ∧ _ ∧ _ ∧ _ := ⟨o3.cell (i := 0) rfl, o3.cell (i := 1) rfl, o3.cell (i := 2) rfl, o3.cell (i := 3) rfl, o3.cell (i := 4) rfl, o3.cell (i := 5) rfl⟩
  go_wp2_with fail
  refine (hMp.out _).mono ?_
  rintro e w5 ⟨rfl, hb5⟩
  clear y0 y1 y2 y3 y4 y5
  have hb6 := bl_alloc hb5 (.cells #[.int .i64 14, .bool false, .int .u32 0, .int .u32 0, .slice none 0 0, .slice none 0 0, .slice none 0 0, .int .i64 (mF xs), .slice none 0 0] 30)
  have o10 := Own.new w5 30 #[.int .i64 14, .bool false, .int .u32 0, .int .u32 0, .slice none 0 0, .slice none 0 0, .slice none 0 0, .int .i64 (mF xs), .slice none 0 0]
  replace o3 := o3.step hb6
  replace o5 := o5.step hb6
  replace o6 := o6.step hb6
  replace o7 := o7.step hb6
  replace hx4 := hx4.below (hb6.mono (by omega))
  have hs5 := hb5.size
  replace b4 := bl_trans b4 hb6
  clear hb5 hb6 hMp
  go_wp2_with fail
  obtain ⟨W6, hW6⟩ : ∃ z, z = w5.alloc (.cells #[.int .i64 14, .bool false, .int .u32 0, .int .u32 0, .slice none 0 0, .slice none 0 0, .slice none 0 0, .int .i64 (mF xs), .slice none 0 0] 30) := ⟨_, rfl⟩
  have hs6 : W6.heap.size = w5.heap.size + 1 := by rw [hW6]; simp
  rw [← hW6] at o3 o5 o6 o7 o10 hx4 b4 ⊢
  clear hW6
  obtain ⟨g10, hg10⟩ : ∃ z, z = w5.heap.size := ⟨_, rfl⟩
  rw [← hg10] at o10 hs5 hs6 ⊢
  clear hg10
  have c50 : W6.drew.cell? ⟨w.heap.size + 1, 0, none⟩ = some (.slice (some ⟨b, o, none⟩) xs.length c) := o5.cell (i := 0) rfl
  have c51 : W6.drew.cell? ⟨w.heap.size + 1, 1, none⟩ = some (.int .i64 0) := o5.cell (i := 1) rfl
  have hcell : W6.drew.cell? ⟨b, o + 3, none⟩ = some (.int .u8 ((mN xs : Nat) : Int)) ∧ mN xs ≤ 255 := by
    obtain ⟨b', o', hA', _, hz', hz0', hz1'⟩ := hx4.at_ (show 3 < xs.length by omega)
    cases hA'
    have e : nth xs 3 = ((mN xs : Nat) : Int) := by unfold mN; omega
    rw [e] at hz'
    exact ⟨hz', by unfold mN; omega⟩
  obtain ⟨hz3, hN255⟩ := hcell
  have hHp := Lib.hid (fun W => rmhop_any (mF xs) (mN xs) W)
  have hlt3 : (3 : Int) < (xs.length : Int) := by omega
  have hwn : IntKind.i64.wrap ((mN xs : Nat) : Int) = ((mN xs : Nat) : Int) := by rw [IntKind.wrap_i64]; omega
  have hwn4 : IntKind.i64.wrap (4 + ((mN xs : Nat) : Int)) = 4 + ((mN xs : Nat) : Int) := by rw [IntKind.wrap_i64]; omega
  have hlt4 : ¬ (xs.length : Int) < 4 := by omega
  rw [hh] at hHp
  have hlt5 : (xs.length : Int) < 4 + ((mN xs : Nat) : Int) := by omega
  have HS1 := And.intro c50 hz3
  go_region_held3 (fun W => W.cell? ⟨w.heap.size + 1, 0, none⟩ = some (.slice (some ⟨b, o, none⟩) xs.length c) ∧ W.cell? ⟨b, o + 3, none⟩ = some (.int .u8 ((mN xs : Nat) : Int))) (with_reducible exact HS1) ((first
    | (go_at_call 56; (with_reducible refine (hHp.out _).mono ?_); rintro e w' ⟨rfl, rfl⟩)))
  replace o3 := o3.drew
  replace o5 := o5.drew
  replace o6 := o6.drew
  replace o7 := o7.drew
  replace o10 := o10.drew
  replace b4 := b4.drew
  replace hs6 : W6.drew.heap.size = g10 + 1 := hs6
  generalize hW7 : W6.drew = W7 at *
  replace hx4 : Bytes W7 w.heap.size (some ⟨b, o, none⟩) xs.length xs := hW7 ▸ hx4.drewN 1
  clear hW7
  clear HS1 hHp c50
  have p7 := (Rest.setRowM W7 (w.heap.size + 1 + 1) zA9).own o7 (by omega)
  have HF6 := Lib.hid (And.intro (o6.setRow (cs' := zA9)) p7)
  have HB6 := Lib.hid b4
  go_wp2_with (first
    | (refine wpList_store_row rfl 30 _ _ rfl (w.heap.size + 1 + 1) zA9 rfl rfl 30 zA9 o6 (at_infoM _ _ _ _ _ _ _ _ _) rfl (at_oneV 0 false 0 0 none 0 0 none 0 0 none 0 0 0 none 0 0) ?_)
    | (refine wpList_store_row rfl 38 _ _ rfl (w.heap.size + 1 + 1 + 1) #[.int .i64 3, .int .i64 0, .int .i64 (mF xs), .slice none 0 0, .int .i64 3] rfl rfl 38 zV5 p7 (vd_infoM _ _ _ _ _) rfl (vd_oneM _ _ _ _) ?_))
  have F1 := (Rest.setRowM (W7.setRow (w.heap.size + 1 + 1) zA9) (w.heap.size + 1 + 1 + 1) #[.int .i64 3, .int .i64 0, .int .i64 (mF xs), .slice none 0 0, .int .i64 3]).own HF6.out.1 (by omega)
  have F2 := HF6.out.2.setRow (cs' := #[.int .i64 3, .int .i64 0, .int .i64 (mF xs), .slice none 0 0, .int .i64 3])
  refine bodyPost_ret (results_mp2 (p := 6) (q := 7) (fn := Tryd.f19) rfl _ _ (w.heap.size + 1 + 1) 30 zA9 _ (w.heap.size + 1 + 1 + 1) 38 #[.int .i64 3, .int .i64 0, .int .i64 (mF xs), .slice none 0 0, .int .i64 3] _ rfl F1 at_descM rfl (at_infoM _ _ _ _ _ _ _ _ _) rfl F2 vd_descM rfl (vd_infoM _ _ _ _ _)) rfl ⟨bl_setRow (bl_setRow HB6.out (by omega)) (by omega), .inl ⟨_, rfl, hmf⟩⟩
end Go.Proofs.YtmlmgjdjbpipcaaDoor

/- peerageref12.Read at a reach: behind the next hop (written by gen/mqg.py) -/
namespace Go.Proofs.YtmlmgjdjbpipcaaDoor
open Go.RowKit Go.Sort

set_option maxRecDepth 100000 in
set_option maxHeartbeats 6400000 in
theorem rmread_res (a0 a1 a2 a3 a4 a5 : Bool) (A : Option Addr) (c : Nat) (xs : List Int) (w : World) (hx : Bytes w w.heap.size A xs.length xs) (hc : xs.length ≤ c) (hn : xs.length ≤ 500) (h3 : ¬ xs.length < 3) (hyes : famB a2 a3 (mF xs) = true) (h4 : ¬ xs.length < 4) (hh : hopB (mF xs) (mN xs) = true) (h5 : ¬ xs.length < 4 + mN xs) (h6 : Hid (xs.length = 4 + mN xs)) :
    Calls Tryd.prog 19 #[.agg #[.bool a0, .bool a1, .bool a2, .bool a3, .bool a4, .bool a5], .int .i64 14, .agg #[.slice A xs.length c, .int .i64 0]] w fun e w' => Below w.heap.size w w' ∧ ((∃ V, e = .returned (.tuple #[.agg zA9, .agg V]) ∧ MFail a2 a3 a4 a5 xs 0 V) ∨ (∃ A', e = .returned (.tuple #[.agg A', .agg zV5]) ∧ MGood a2 a3 a4 a5 xs w' A')) := by
  have hmf : MFail a2 a3 a4 a5 xs 0 #[.int .i64 3, .int .i64 0, .int .i64 (mF xs), .slice none 0 0, .int .i64 (4 + ((mN xs : Nat) : Int))] := .inr (.inr (.inr (.inl ⟨by unfold mTag; rw [if_neg h3, hyes, hh]; simp [h6.out], by simp⟩)))
  have hf12 := famB_12 hyes
  have hMp := Lib.hid (fun W => rmp_any a0 a1 a2 a3 a4 a5 (mF xs) W)
  rw [hyes] at hMp
  obtain ⟨W4, hW4, o3, o5, o6, o7, b4, hs4⟩ := four_boxes w #[.bool a0, .bool a1, .bool a2, .bool a3, .bool a4, .bool a5] #[.slice A xs.length c, .int .i64 0] #[.int .i64 0, .bool false, .int .u32 0, .int .u32 0, .slice none 0 0, .slice none 0 0, .slice none 0 0, .int .i64 0, .slice none 0 0] #[.int .i64 0, .int .i64 0, .int .i64 0, .slice none 0 0, .int .i64 0] 23 48 30 38
  have hx4 := hx.below b4
  have c50 := o5.cell (i := 0) (v := .slice A xs.length c) rfl
  have c51 := o5.cell (i := 1) (v := .int .i64 0) rfl
  go_enter Tryd.func19, Tryd.ntmps19
  go_upto_region 1 with fail
  rw [← hW4]
  clear hW4
  obtain ⟨b, o, hA, hb, hz, hz0, hz1⟩ := hx4.at_ (show 2 < xs.length by omega)
  have HBig := Lib.hid (fun W (h : Bytes W w.heap.size A 2 (xs.take 2)) => rbig_any A 2 c (xs.take 2) W w.heap.size h (by omega))
  have HFm := Lib.hid (fun W => rmfamily_any (big (xs.take 2)) (nth xs 2) (big_two hx.2.1).1 (big_two hx.2.1).2 W)
  have hfr : Bytes W4.drew w.heap.size A 2 (xs.take 2) := (hx4.front (show 2 ≤ xs.length by omega)).drewN 1
  have hfam : Hid (famOf (big (xs.take 2)) (nth xs 2) = mF xs) := Lib.hid rfl
  rw [hfam.out] at HFm
  have hlt : ¬ (xs.length : Int) < 3 := by omega
  have hlt2 : (2 : Int) < (xs.length : Int) := by omega
  have hcc : (2 : Int) ≤ (c : Int) := by omega
  have hwz : IntKind.u32.wrap (nth xs 2) = nth xs 2 := by rw [IntKind.wrap_u32]; omega
  subst hA
  go_wp2_with fail
  have HS0 : W4.drew.cell? ⟨w.heap.size + 1, 0, none⟩ = some (.slice (some ⟨b, o, none⟩) xs.length c) ∧ W4.drew.cell? ⟨b, o + 2, none⟩ = some (.int .u8 (nth xs 2)) := ⟨c50, hz⟩
  go_region_held3 (fun W => W.cell? ⟨w.heap.size + 1, 0, none⟩ = some (.slice (some ⟨b, o, none⟩) xs.length c) ∧ W.cell? ⟨b, o + 2, none⟩ = some (.int .u8 (nth xs 2))) (with_reducible exact HS0) ((first
    | (go_at_call 55; (with_reducible refine (HBig.out _ hfr).mono ?_); rintro e w' ⟨rfl, rfl⟩)
    | (go_at_call 54; (with_reducible refine (HFm.out _).mono ?_); rintro e w' ⟨rfl, rfl⟩)))
  replace o3 := o3.drew
  replace o5 := o5.drew
  replace o6 := o6.drew
  replace o7 := o7.drew
  replace b4 := b4.drew
  replace hx4 := hx4.drewN 1
  replace hs4 : W4.drew.heap.size = w.heap.size + 1 + 1 + 1 + 1 := hs4
  clear HS0 hfr HBig HFm hfam c50 c51 hz
  generalize hW5 : W4.drew = W5 at *
  replace hx4 : Bytes W5 w.heap.size (some ⟨b, o, none⟩) xs.length xs := hW5 ▸ hx4
  clear hW5
  have q1 : (mF xs == 0) = false := by simp; omega
  obtain ⟨y0, y1, y2, y3, y4, y5⟩ : _ ∧ _ ∧ _ ∧ _ ∧ _ ∧ _ := ⟨o3.cell (i := 0) rfl, o3.cell (i := 1) rfl, o3.cell (i := 2) rfl, o3.cell (i := 3) rfl, o3.cell (i := 4) rfl, o3.cell (i := 5) rfl⟩
  go_wp2_with fail
  refine (hMp.out _).mono ?_
  rintro e w5 ⟨rfl, hb5⟩
  clear y0 y1 y2 y3 y4 y5
  have hb6 := bl_alloc hb5 (.cells #[.int .i64 14, .bool false, .int .u32 0, .int .u32 0, .slice none 0 0, .slice none 0 0, .slice none 0 0, .int .i64 (mF xs), .slice none 0 0] 30)
  have o10 := Own.new w5 30 #[.int .i64 14, .bool false, .int .u32 0, .int .u32 0, .slice none 0 0, .slice none 0 0, .slice none 0 0, .int .i64 (mF xs), .slice none 0 0]
  replace o3 := o3.step hb6
  replace o5 := o5.step hb6
  replace o6 := o6.step hb6
  replace o7 := o7.step hb6
  replace hx4 := hx4.below (hb6.mono (by omega))
  have hs5 := hb5.size
  replace b4 := bl_trans b4 hb6
  clear hb5 hb6 hMp
  go_wp2_with fail
  obtain ⟨W6, hW6⟩ : ∃ z, z = w5.alloc (.cells #[.int .i64 14, .bool false, .int .u32 0, .int .u32 0, .slice none 0 0, .slice none 0 0, .slice none 0 0, .int .i64 (mF xs), .slice none 0 0] 30) := ⟨_, rfl⟩
  have hs6 : W6.heap.size = w5.heap.size + 1 := by rw [hW6]; simp
  rw [← hW6] at o3 o5 o6 o7 o10 hx4 b4 ⊢
  clear hW6
  obtain ⟨g10, hg10⟩ : ∃ z, z = w5.heap.size := ⟨_, rfl⟩
  rw [← hg10] at o10 hs5 hs6 ⊢
  clear hg10
  have c50 : W6.drew.cell? ⟨w.heap.size + 1, 0, none⟩ = some (.slice (some ⟨b, o, none⟩) xs.length c) := o5.cell (i := 0) rfl
  have c51 : W6.drew.cell? ⟨w.heap.size + 1, 1, none⟩ = some (.int .i64 0) := o5.cell (i := 1) rfl
  have hcell : W6.drew.cell? ⟨b, o + 3, none⟩ = some (.int .u8 ((mN xs : Nat) : Int)) ∧ mN xs ≤ 255 := by
    obtain ⟨b', o', hA', _, hz', hz0', hz1'⟩ := hx4.at_ (show 3 < xs.length by omega)
    cases hA'
    have e : nth xs 3 = ((mN xs : Nat) : Int) := by unfold mN; omega
    rw [e] at hz'
    exact ⟨hz', by unfold mN; omega⟩
  obtain ⟨hz3, hN255⟩ := hcell
  have hHp := Lib.hid (fun W => rmhop_any (mF xs) (mN xs) W)
  have hlt3 : (3 : Int) < (xs.length : Int) := by omega
  have hwn : IntKind.i64.wrap ((mN xs : Nat) : Int) = ((mN xs : Nat) : Int) := by rw [IntKind.wrap_i64]; omega
  have hwn4 : IntKind.i64.wrap (4 + ((mN xs : Nat) : Int)) = 4 + ((mN xs : Nat) : Int) := by rw [IntKind.wrap_i64]; omega
  have hlt4 : ¬ (xs.length : Int) < 4 := by omega
  rw [hh] at hHp
  have hN32 := hop_32 hh
  have hlt5 : ¬ (xs.length : Int) < 4 + ((mN xs : Nat) : Int) := by omega
  have HS1 := And.intro c50 hz3
  go_region_held3 (fun W => W.cell? ⟨w.heap.size + 1, 0, none⟩ = some (.slice (some ⟨b, o, none⟩) xs.length c) ∧ W.cell? ⟨b, o + 3, none⟩ = some (.int .u8 ((mN xs : Nat) : Int))) (with_reducible exact HS1) ((first
    | (go_at_call 56; (with_reducible refine (hHp.out _).mono ?_); rintro e w' ⟨rfl, rfl⟩)))
  replace hz3 : W6.drew.cell? ⟨b, o + 3, none⟩ = some (.int .u8 ((mN xs : Nat) : Int)) := hz3
  replace o3 := o3.drew
  replace o5 := o5.drew
  replace o6 := o6.drew
  replace o7 := o7.drew
  replace o10 := o10.drew
  replace b4 := b4.drew
  replace hs6 : W6.drew.heap.size = g10 + 1 := hs6
  generalize hW7 : W6.drew = W7 at *
  replace hx4 : Bytes W7 w.heap.size (some ⟨b, o, none⟩) xs.length xs := hW7 ▸ hx4.drewN 1
  clear hW7
  clear HS1 hHp
  have c100 := o10.cell (i := 6) (v := .slice none 0 0) rfl
  have f106 := o10.frozen 6
  have l10 := o10.lt
  have hc4 : (4 : Int) ≤ 4 + ((mN xs : Nat) : Int) := by omega
  have hcc2 : 4 + ((mN xs : Nat) : Int) ≤ (c : Int) := by omega
  have heq : ((xs.length : Int) == 4 + ((mN xs : Nat) : Int)) = true := by have := h6.out; simp; omega
  by_cases hce : c = 4
  · subst hce
    have p5 := o5.far (p := ⟨g10, 6, none⟩) (show w.heap.size + 1 ≠ g10 by omega) (.slice (some ⟨b, o, none⟩) (mN xs) 0)
    have p6 := o6.far (p := ⟨g10, 6, none⟩) (show w.heap.size + 1 + 1 ≠ g10 by omega) (.slice (some ⟨b, o, none⟩) (mN xs) 0)
    have px := o7.far (p := ⟨g10, 6, none⟩) (show w.heap.size + 1 + 1 + 1 ≠ g10 by omega) (.slice (some ⟨b, o, none⟩) (mN xs) 0)
    have b8 : Below w.heap.size w (W7.setCell ⟨g10, 6, none⟩ (.slice (some ⟨b, o, none⟩) (mN xs) 0)) := b4.trans ((Rest.setCell W7 ⟨g10, 6, none⟩ (.slice (some ⟨b, o, none⟩) (mN xs) 0)).to_below (by omega) (fun i hi e => by
      have e2 : i = g10 := e
      omega))
    have c50 := o5.cell (i := 0) (v := .slice (some ⟨b, o, none⟩) xs.length _) rfl
    have c51 := o5.cell (i := 1) (v := .int .i64 0) rfl
    have p7 := (Rest.setRowM (W7.setCell ⟨g10, 6, none⟩ (.slice (some ⟨b, o, none⟩) (mN xs) 0)) (w.heap.size + 1 + 1) zA9).own px (by omega)
    have HF6 := Lib.hid (And.intro (p6.setRow (cs' := zA9)) p7)
    have HB6 := Lib.hid b8
    go_wp2_with (first
      | (refine wpList_store_row rfl 30 _ _ rfl (w.heap.size + 1 + 1) zA9 rfl rfl 30 zA9 p6 (at_infoM _ _ _ _ _ _ _ _ _) rfl (at_oneV 0 false 0 0 none 0 0 none 0 0 none 0 0 0 none 0 0) ?_)
      | (refine wpList_store_row rfl 38 _ _ rfl (w.heap.size + 1 + 1 + 1) #[.int .i64 3, .int .i64 0, .int .i64 (mF xs), .slice none 0 0, .int .i64 (4 + ((mN xs : Nat) : Int))] rfl rfl 38 zV5 p7 (vd_infoM _ _ _ _ _) rfl (vd_oneM _ _ _ _) ?_))
    have F1 := (Rest.setRowM ((W7.setCell ⟨g10, 6, none⟩ (.slice (some ⟨b, o, none⟩) (mN xs) 0)).setRow (w.heap.size + 1 + 1) zA9) (w.heap.size + 1 + 1 + 1) #[.int .i64 3, .int .i64 0, .int .i64 (mF xs), .slice none 0 0, .int .i64 (4 + ((mN xs : Nat) : Int))]).own HF6.out.1 (by omega)
    have F2 := HF6.out.2.setRow (cs' := #[.int .i64 3, .int .i64 0, .int .i64 (mF xs), .slice none 0 0, .int .i64 (4 + ((mN xs : Nat) : Int))])
    refine bodyPost_ret (results_mp2 (p := 6) (q := 7) (fn := Tryd.f19) rfl _ _ (w.heap.size + 1 + 1) 30 zA9 _ (w.heap.size + 1 + 1 + 1) 38 #[.int .i64 3, .int .i64 0, .int .i64 (mF xs), .slice none 0 0, .int .i64 (4 + ((mN xs : Nat) : Int))] _ rfl F1 at_descM rfl (at_infoM _ _ _ _ _ _ _ _ _) rfl F2 vd_descM rfl (vd_infoM _ _ _ _ _)) rfl ⟨bl_setRow (bl_setRow HB6.out (by omega)) (by omega), .inl ⟨_, rfl, hmf⟩⟩
  · have hce2 : ¬ (c : Int) = 4 := by omega
    have hce3 : ¬ (c : Int) - 4 = 0 := by omega
    have hce4 : ¬ c - 4 = 0 := by omega
    have p5 := o5.far (p := ⟨g10, 6, none⟩) (show w.heap.size + 1 ≠ g10 by omega) (.slice (some ⟨b, o + 4, none⟩) (mN xs) (c - 4))
    have p6 := o6.far (p := ⟨g10, 6, none⟩) (show w.heap.size + 1 + 1 ≠ g10 by omega) (.slice (some ⟨b, o + 4, none⟩) (mN xs) (c - 4))
    have px := o7.far (p := ⟨g10, 6, none⟩) (show w.heap.size + 1 + 1 + 1 ≠ g10 by omega) (.slice (some ⟨b, o + 4, none⟩) (mN xs) (c - 4))
    have b8 : Below w.heap.size w (W7.setCell ⟨g10, 6, none⟩ (.slice (some ⟨b, o + 4, none⟩) (mN xs) (c - 4))) := b4.trans ((Rest.setCell W7 ⟨g10, 6, none⟩ (.slice (some ⟨b, o + 4, none⟩) (mN xs) (c - 4))).to_below (by omega) (fun i hi e => by
      have e2 : i = g10 := e
      omega))
    have c50 := o5.cell (i := 0) (v := .slice (some ⟨b, o, none⟩) xs.length _) rfl
    have c51 := o5.cell (i := 1) (v := .int .i64 0) rfl
    have p7 := (Rest.setRowM (W7.setCell ⟨g10, 6, none⟩ (.slice (some ⟨b, o + 4, none⟩) (mN xs) (c - 4))) (w.heap.size + 1 + 1) zA9).own px (by omega)
    have HF6 := Lib.hid (And.intro (p6.setRow (cs' := zA9)) p7)
    have HB6 := Lib.hid b8
    go_wp2_with (first
      | (refine wpList_store_row rfl 30 _ _ rfl (w.heap.size + 1 + 1) zA9 rfl rfl 30 zA9 p6 (at_infoM _ _ _ _ _ _ _ _ _) rfl (at_oneV 0 false 0 0 none 0 0 none 0 0 none 0 0 0 none 0 0) ?_)
      | (refine wpList_store_row rfl 38 _ _ rfl (w.heap.size + 1 + 1 + 1) #[.int .i64 3, .int .i64 0, .int .i64 (mF xs), .slice none 0 0, .int .i64 (4 + ((mN xs : Nat) : Int))] rfl rfl 38 zV5 p7 (vd_infoM _ _ _ _ _) rfl (vd_oneM _ _ _ _) ?_))
    have F1 := (Rest.setRowM ((W7.setCell ⟨g10, 6, none⟩ (.slice (some ⟨b, o + 4, none⟩) (mN xs) (c - 4))).setRow (w.heap.size + 1 + 1) zA9) (w.heap.size + 1 + 1 + 1) #[.int .i64 3, .int .i64 0, .int .i64 (mF xs), .slice none 0 0, .int .i64 (4 + ((mN xs : Nat) : Int))]).own HF6.out.1 (by omega)
    have F2 := HF6.out.2.setRow (cs' := #[.int .i64 3, .int .i64 0, .int .i64 (mF xs), .slice none 0 0, .int .i64 (4 + ((mN xs : Nat) : Int))])
    refine bodyPost_ret (results_mp2 (p := 6) (q := 7) (fn := Tryd.f19) rfl _ _ (w.heap.size + 1 + 1) 30 zA9 _ (w.heap.size + 1 + 1 + 1) 38 #[.int .i64 3, .int .i64 0, .int .i64 (mF xs), .slice none 0 0, .int .i64 (4 + ((mN xs : Nat) : Int))] _ rfl F1 at_descM rfl (at_infoM _ _ _ _ _ _ _ _ _) rfl F2 vd_descM rfl (vd_infoM _ _ _ _ _)) rfl ⟨bl_setRow (bl_setRow HB6.out (by omega)) (by omega), .inl ⟨_, rfl, hmf⟩⟩
end Go.Proofs.YtmlmgjdjbpipcaaDoor
