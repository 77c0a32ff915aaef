/- peerageref12.Bytes -/
import Derived.Test.YtmlmgjdjbpipcaaDoorMpC
import Derived.Test.YtmlmgjdjbpipcaaDoorMfCQ
import Derived.Deep.RegionHeld3
import Derived.Test.YtmlmgjdjbpipcaaDoorStepG
import Derived.Test.YtmlmgjdjbpipcaaDoorApAt
namespace Go.Proofs.YtmlmgjdjbpipcaaDoor
open Go.RowKit

theorem byte_row {W : World} {g base : Nat} {xs : List Int} (h : Own W g 5 (xs.map (Value.int .u8)).toArray) (hb : base ≤ g) (hm : xs.length ≤ maxLen) : W.ownsRow base 5 1 (.slice (some ⟨g, 0, none⟩) xs.length xs.length) xs.length (xs.map (Value.int .u8)) := Own.row h (by rw [List.length_map]) hb hm
set_option maxRecDepth 100000 in
theorem rcodes_at (f : Int) (w : World) (hf : f = 1 ∨ f = 2) :
    Calls Tryd.prog 30 #[.int .i64 f] w fun e w' => ∃ g, e = .returned (.tuple #[.slice (some ⟨g, 0, none⟩) 3 3, .bool true]) ∧ w.heap.size ≤ g ∧ Own w' g 5 ([0, f, 1].map (Value.int .u8)).toArray ∧ Below w.heap.size w w' := by
  rcases hf with rfl | rfl
  · have o := Own.new w 5 #[.int .u8 0, .int .u8 1, .int .u8 1]
    go_enter Tryd.func30, Tryd.ntmps30
    go_wp2
    go_ret2
    exact ⟨_, rfl, Nat.le_refl _, o, bl_alloc (bl_refl w) _⟩
  · have o := Own.new w 5 #[.int .u8 0, .int .u8 2, .int .u8 1]
    go_enter Tryd.func30, Tryd.ntmps30
    go_wp2
    go_ret2
    exact ⟨_, rfl, Nat.le_refl _, o, bl_alloc (bl_refl w) _⟩
/-- The value of an attribute of these types. -/
def mpForm (add : Bool) (a : At) (bs : List Int) (rs : List Rt) : List Int := [0, a.f, 1] ++ ((if a.k = 14 then (a.n3 : Int) :: (bs ++ [0]) else []) ++ formAll add rs)
theorem shB_parts {add : Bool} {a : At} {rs : List Rt} (h : shB add a rs = true) : (a.k = 14 ∨ a.k = 15) ∧ (a.f = 1 ∨ a.f = 2) ∧ bareM a = true ∧ rs.all (rtOk a.f add) = true ∧ (a.k = 14 → a.n3 ≤ 32) ∧ (a.k = 15 → a.n3 = 0) := by
  unfold shB at h
  simp only [Bool.and_eq_true] at h
  obtain ⟨h1, h2, h3, h4, h5⟩ := h
  have h1 : a.k = 14 ∨ a.k = 15 := by unfold hasB at h1; exact of_decide_eq_true h1
  refine ⟨h1, of_decide_eq_true h2, h3, h4, fun e => ?_, fun e => ?_⟩
  · rw [if_neg (by omega)] at h5
    unfold hopB at h5
    split at h5
    · have := of_decide_eq_true h5; omega
    · have := of_decide_eq_true h5; omega
  · rw [if_pos e] at h5
    exact of_decide_eq_true h5
theorem mp_types : (23 : TypeId) ≠ 5 ∧ (30 : TypeId) ≠ 5 := by decide
theorem own_keepM {w w' : World} {base n g : Nat} {v : Value} {xs : List Value} {T : TypeId} {cs : Array Value} (o : Own w g T cs) (hr : w.ownsRow base 5 1 v n xs) (hT : T ≠ 5) (hg : w.grownBy w' v.ownBlock) : Own w' g T cs :=
  (Rest.of_grown hg (P := fun j => v.ownBlock = some j) (fun _ h => h)).own o (fun e => (row_typed hr e).1.ne o.typed (Ne.symm hT) rfl)
theorem mpS_of {W : World} {b g2 : Nat} {S T : TypeId} {a0 a1 a2 a3 a4 a5 : Bool} {x0 x1 x2 x3 x4 x5 x6 x7 x8 : Value} (o1 : Own W b S #[.bool a0, .bool a1, .bool a2, .bool a3, .bool a4, .bool a5]) (o2 : Own W g2 T #[x0, x1, x2, x3, x4, x5, x6, x7, x8]) : W.cell? ⟨b, 0, none⟩ = some (.bool a0) ∧ W.cell? ⟨b, 1, none⟩ = some (.bool a1) ∧ W.cell? ⟨b, 2, none⟩ = some (.bool a2) ∧ W.cell? ⟨b, 3, none⟩ = some (.bool a3) ∧ W.cell? ⟨b, 4, none⟩ = some (.bool a4) ∧ W.cell? ⟨b, 5, none⟩ = some (.bool a5) ∧ W.cell? ⟨g2, 7, none⟩ = some x7 ∧ W.cell? ⟨g2, 8, none⟩ = some x8 :=
  ⟨o1.cell rfl, o1.cell rfl, o1.cell rfl, o1.cell rfl, o1.cell rfl, o1.cell rfl, o2.cell rfl, o2.cell rfl⟩
set_option maxRecDepth 100000 in
theorem rmbytes_no (a0 a1 a2 a3 a4 a5 : Bool) (a : At) (rs : List Rt) (w : World) (hr : Routes w w.heap.size a.A4 a.n4 rs) (hn : a.n4 ≤ 1000000) (hv : rmvB a2 a3 a4 a5 a rs = false) :
    Calls Tryd.prog 10 #[.agg #[.bool a0, .bool a1, .bool a2, .bool a3, .bool a4, .bool a5], .agg (atc a)] w fun e w' => e = .returned (.tuple #[.slice none 0 0, .bool false]) ∧ Below w.heap.size w w' := by
  have b1 := bl_alloc (bl_alloc (bl_refl w) (.cells #[.bool a0, .bool a1, .bool a2, .bool a3, .bool a4, .bool a5] 23)) (.cells (atc a) 30)
  have o1 := (Own.new w 23 #[.bool a0, .bool a1, .bool a2, .bool a3, .bool a4, .bool a5]).alloc (.cells (atc a) 30)
  have o2 := Own.new (w.alloc (.cells #[.bool a0, .bool a1, .bool a2, .bool a3, .bool a4, .bool a5] 23)) 30 (atc a)
  rw [show (w.alloc (.cells #[.bool a0, .bool a1, .bool a2, .bool a3, .bool a4, .bool a5] 23)).heap.size = w.heap.size + 1 by simp] at o2
  have HV := Lib.hid (rmvalid_any a0 a1 a2 a3 a4 a5 a rs _ ((hr.below b1).more b1.size) (by omega))
  rw [hv] at HV
  clear hr hv
  obtain ⟨k, p, N, M, A1, n1, c1, A2, n2, c2, A3, n3, c3, f, A4, n4, c4⟩ := a
  unfold atc at *
  dsimp only at *
  go_enter Tryd.func10, Tryd.ntmps10
  go_wp2_with (first | (refine wpList_load_row rfl 23 _ rfl w.heap.size rfl 23 #[.bool a0, .bool a1, .bool a2, .bool a3, .bool a4, .bool a5] (0, 0) (.struct (Tryd.prog.fieldsOf 23)) o1 (by kernel_rfl) rfl (by kernel_rfl) ?_) | (refine wpList_load_row rfl 30 _ rfl (w.heap.size + 1) rfl 30 #[.int .i64 k, .bool p, .int .u32 N, .int .u32 M, .slice A1 n1 c1, .slice A2 n2 c2, .slice A3 n3 c3, .int .i64 f, .slice A4 n4 c4] (0, 0) (.struct (Tryd.prog.fieldsOf 30)) o2 (by kernel_rfl) rfl (by kernel_rfl) ?_))
  refine HV.out.mono ?_
  rintro e w1 ⟨rfl, hb1⟩
  have hb2 := bl_trans b1 hb1
  go_wp2
  go_ret2
  exact ⟨rfl, hb2⟩
set_option maxRecDepth 100000 in
set_option maxHeartbeats 6400000 in
theorem rmbytes_yes (a0 a1 a2 a3 a4 a5 : Bool) (a : At) (bs : List Int) (rs : List Rt) (w : World) (hr : Routes w w.heap.size a.A4 a.n4 rs) (hB : Bytes w w.heap.size a.A3 a.n3 bs) (hn : a.n4 ≤ 1000000) (hv : rmvB a2 a3 a4 a5 a rs = true) :
    Calls Tryd.prog 10 #[.agg #[.bool a0, .bool a1, .bool a2, .bool a3, .bool a4, .bool a5], .agg (atc a)] w fun e w' => ∃ v, e = .returned (.tuple #[v, .bool true]) ∧ w'.ownsRow w.heap.size 5 1 v (mpForm (famB a4 a5 a.f) a bs rs).length ((mpForm (famB a4 a5 a.f) a bs rs).map (Value.int .u8)) ∧ Below w.heap.size w w' := by
  have hsh : shB (famB a4 a5 a.f) a rs = true := by unfold rmvB at hv; rw [Bool.and_eq_true] at hv; exact hv.2
  obtain ⟨hk, hf, _, hrs, h14, h15⟩ := shB_parts hsh
  have b1 := bl_alloc (bl_alloc (bl_refl w) (.cells #[.bool a0, .bool a1, .bool a2, .bool a3, .bool a4, .bool a5] 23)) (.cells (atc a) 30)
  have o1 := (Own.new w 23 #[.bool a0, .bool a1, .bool a2, .bool a3, .bool a4, .bool a5]).alloc (.cells (atc a) 30)
  have o2 := Own.new (w.alloc (.cells #[.bool a0, .bool a1, .bool a2, .bool a3, .bool a4, .bool a5] 23)) 30 (atc a)
  rw [show (w.alloc (.cells #[.bool a0, .bool a1, .bool a2, .bool a3, .bool a4, .bool a5] 23)).heap.size = w.heap.size + 1 by simp] at o2
  have HV := Lib.hid (rmvalid_any a0 a1 a2 a3 a4 a5 a rs _ ((hr.below b1).more b1.size) (by omega))
  rw [hv] at HV
  have hAdd := Lib.hid (radd_any a0 a1 a2 a3 a4 a5 a.f)
  have hNb := Lib.hid (fun (W : World) (hW : Below w.heap.size w W) => rnbytes_yes a.f (famB a4 a5 a.f) a.A4 a.n4 a.c4 rs W ((hr.below hW).more hW.size) hn hrs)
  have hCd := Lib.hid (fun W => rcodes_at a.f W hf)
  have hfl := formAll_len hrs
  have hfl2 := Lib.hid (show (formAll (famB a4 a5 a.f) rs).length ≤ 21 * rs.length from hfl)
  have hrl := Lib.hid hr.1
  have HMF : Hid (mpForm (famB a4 a5 a.f) a bs rs = [0, a.f, 1] ++ ((if a.k = 14 then (a.n3 : Int) :: (bs ++ [0]) else []) ++ formAll (famB a4 a5 a.f) rs)) := Lib.hid rfl
  have HByt := Lib.hid hB
  have HBl := Lib.hid hB.1
  have Hf := Lib.hid hf
  generalize mpForm (famB a4 a5 a.f) a bs rs = F at *
  generalize formAll (famB a4 a5 a.f) rs = G at *
  generalize famB a4 a5 a.f = D at *
  clear hr hv hsh hrs hfl hB hf
  obtain ⟨k, p, N, M, A1, n1, c1, A2, n2, c2, A3, n3, c3, f, A4, n4, c4⟩ := a
  unfold atc at *
  dsimp only at *
  rcases hk with rfl | rfl
  · have HM2 : Hid (F = [0, f, 1] ++ ((n3 : Int) :: (bs ++ [0]) ++ G)) := Lib.hid (by rw [HMF.out]; rfl)
    have hn32 := h14 rfl
    clear h14 h15 HMF
    go_enter Tryd.func10, Tryd.ntmps10
    go_wp2_with (first | (refine wpList_load_row rfl 23 _ rfl w.heap.size rfl 23 #[.bool a0, .bool a1, .bool a2, .bool a3, .bool a4, .bool a5] (0, 0) (.struct (Tryd.prog.fieldsOf 23)) o1 (by kernel_rfl) rfl (by kernel_rfl) ?_) | (refine wpList_load_row rfl 30 _ rfl (w.heap.size + 1) rfl 30 #[.int .i64 14, .bool p, .int .u32 N, .int .u32 M, .slice A1 n1 c1, .slice A2 n2 c2, .slice A3 n3 c3, .int .i64 f, .slice A4 n4 c4] (0, 0) (.struct (Tryd.prog.fieldsOf 30)) o2 (by kernel_rfl) rfl (by kernel_rfl) ?_))
    refine HV.out.mono ?_
    rintro e w1 ⟨rfl, hb1⟩
    have u1 := o1.step hb1
    have u2 := o2.step hb1
    have hb2 := bl_trans b1 hb1
    have hbw1 := Lib.hid hb2.size
    clear o1 o2 b1 hb1 HV
    obtain ⟨g2, hg2⟩ : ∃ z, z = w.heap.size + 1 := ⟨_, rfl⟩
    rw [← hg2] at u2 ⊢
    clear hg2
    obtain ⟨e0, e1, e2, e3, e4, e5, e6, e7, e8⟩ := at_cells u2
    have l2 := u2.lt
    go_wp2_with fail
    refine (hCd.out _).mono ?_
    rintro e w2 ⟨g, rfl, hgw, hog, hb3⟩
    have v1 := u1.step hb3
    have v2 := u2.step hb3
    have hb4 := bl_trans hb2 hb3
    clear e0 e1 e2 e3 e4 e5 e6 e7 e8 u1 u2 hb2 hb3
    obtain ⟨e0, e1, e2, e3, e4, e5, e6, e7, e8⟩ := at_cells v2
    have m2 := v2.lt
    have hw1 := hb4.size
    have hw0 : w.heap.size ≤ g := by have := hbw1.out; omega
    have hw3 := Lib.hid (show IntKind.u8.wrap (n3 : Int) = (n3 : Int) by rw [IntKind.wrap_u8]; omega)
    have HR := Lib.hid (byte_row (xs := [0, f, 1]) hog hw0 (by unfold maxLen; simp))
    have hbA := bl_alloc (bl_refl w2) (.cells #[.int .u8 (n3 : Int)] 5)
    have HRA := Lib.hid (own_belowG HR.out hbA)
    have oA := Own.new w2 5 #[.int .u8 (n3 : Int)]
    have vA1 := v1.step hbA
    have vA2 := v2.step hbA
    have hBA := bl_trans hb4 hbA
    have hsA := hBA.size
    clear hog hbA v1 v2 hb4
    go_wp2_with (first
      | (at_builtin; refine wpList_append_grow _ rfl _ _ rfl sl_bytes w.heap.size _ 3 _ rfl HRA.out (w2.heap.size + 1) (some ⟨w2.heap.size, 0, none⟩) 1 1 [.int .u8 (n3 : Int)] rfl rfl (Shows.of_owned (xs := [.int .u8 (n3 : Int)]) oA (Nat.lt_succ_self _)) (one8 [(n3 : Int)]) (by unfold maxLen; omega) (by omega) hsA ?_; intro v5 w5 hr5 hg5; have hb5 := hBA.grown hg5 hsA (fun j hj => own_base HRA.out j hj); have v51 := own_keepM vA1 HRA.out mp_types.1 hg5; have v52 := own_keepM vA2 HRA.out mp_types.2 hg5; obtain ⟨A5, c5, rfl⟩ := own_form hr5; have HR5 := Lib.hid hr5; have hs5 := hb5.size; obtain ⟨e0, e1, e2, e3, e4, e5, e6, e7, e8⟩ := at_cells v52; have m5 := v52.lt; have HX5 := Lib.hid ((HByt.out.below hb5).2.2); clear hr5 hg5 vA1 vA2 hBA hsA)
      | (at_builtin; refine wpList_append_grow _ rfl _ _ rfl sl_bytes w.heap.size _ (3 + 1) _ rfl HR5.out w.heap.size A3 n3 c3 (bs.map (Value.int .u8)) rfl (by rw [List.length_map, ← HBl.out, Nat.mul_one]) HX5.out (one8 bs) (by unfold maxLen; omega) (by omega) hs5 ?_; intro v6 w6 hr6 hg6; have hb6 := hb5.grown hg6 hs5 (fun j hj => own_base HR5.out j hj); have v61 := own_keepM v51 HR5.out mp_types.1 hg6; have v62 := own_keepM v52 HR5.out mp_types.2 hg6; obtain ⟨A6, c6, rfl⟩ := own_form hr6; have hb7 := bl_alloc hb6 (.cells #[.int .u8 0] 5); have HR7 := Lib.hid (own_belowG hr6 (bl_alloc (bl_refl w6) (.cells #[.int .u8 0] 5))); have o7 := Own.new w6 5 #[.int .u8 0]; have v71 := v61.step (bl_alloc (bl_refl w6) (.cells #[.int .u8 0] 5)); have v72 := v62.step (bl_alloc (bl_refl w6) (.cells #[.int .u8 0] 5)); have hs7 := hb7.size; clear e0 e1 e2 e3 e4 e5 e6 e7 e8 m5 v51 v52 hr6 hg6 hb5 v61 v62)
      | (at_builtin; refine wpList_append_grow _ rfl _ _ rfl sl_bytes w.heap.size _ (3 + 1 + n3) _ rfl HR7.out (w6.heap.size + 1) (some ⟨w6.heap.size, 0, none⟩) 1 1 [.int .u8 0] rfl rfl (Shows.of_owned (xs := [.int .u8 0]) o7 (Nat.lt_succ_self _)) (one8 [0]) (by unfold maxLen; omega) (by omega) hs7 ?_; intro v8 w8 hr8 hg8; have hb8 := hb7.grown hg8 hs7 (fun j hj => own_base HR7.out j hj); have v81 := own_keepM v71 HR7.out mp_types.1 hg8; have v82 := own_keepM v72 HR7.out mp_types.2 hg8; obtain ⟨A8, c8, rfl⟩ := own_form hr8; have HR8 := Lib.hid hr8; have hs8 := hb8.size; clear v71 v72 hb7 hr8 hg8 hs7))
    have HS0 := mpS_of v81.drew v82.drew
    go_region_held3 (fun W => W.cell? ⟨w.heap.size, 0, none⟩ = some (.bool a0) ∧ W.cell? ⟨w.heap.size, 1, none⟩ = some (.bool a1) ∧ W.cell? ⟨w.heap.size, 2, none⟩ = some (.bool a2) ∧ W.cell? ⟨w.heap.size, 3, none⟩ = some (.bool a3) ∧ W.cell? ⟨w.heap.size, 4, none⟩ = some (.bool a4) ∧ W.cell? ⟨w.heap.size, 5, none⟩ = some (.bool a5) ∧ W.cell? ⟨g2, 7, none⟩ = some (.int .i64 f) ∧ W.cell? ⟨g2, 8, none⟩ = some (.slice A4 n4 c4)) (with_reducible first | exact HS0 | exact HS1 | exact HS2) ((first
      | (go_at_call 32; (with_reducible refine (hAdd.out _).mono ?_); rintro e w3 ⟨rfl, hb5⟩; have HS1 := mpS_of (v81.drew.step hb5) (v82.drew.step hb5))
      | (go_at_call 31; (with_reducible refine (hNb.out _ (bl_trans hb8.drew hb5)).mono ?_); rintro e w4 ⟨v4, rfl, hrow4, hb6⟩; have HS2 := mpS_of ((v81.drew.step hb5).step hb6) ((v82.drew.step hb5).step hb6))))
    obtain ⟨A9, c9, rfl⟩ := own_form hrow4
    have hb7 : Below w.heap.size w w4 := bl_trans (bl_trans hb8.drew hb5) hb6
    have HR := Lib.hid (own_belowG (own_belowG (own_belowG HR8.out (bl_refl w8).drew) hb5) hb6)
    have HG := Lib.hid (Shows.of_own hrow4)
    have hGl : G.length ≤ 21 * 1000000 := by have := hfl2.out; have := hrl.out; omega
    have HGl := Lib.hid (show (G.map (Value.int .u8)).length = G.length * 1 by rw [List.length_map, Nat.mul_one])
    have hs4 := hb7.size
    clear HS0 HS1 HS2 v81 v82 hb8 hb5 hb6 hrow4
    go_wp2_with (at_builtin; refine wpList_append_grow _ rfl _ _ rfl sl_bytes w.heap.size _ (3 + 1 + n3 + 1) _ rfl HR.out w4.heap.size A9 G.length c9 (G.map (Value.int .u8)) rfl HGl.out HG.out (one8 G) (by unfold maxLen; omega) (by omega) hs4 ?_; intro v9 w9 hr9 hg9)
    have hb10 := hb7.grown hg9 hs4 (fun j hj => own_base HR.out j hj)
    go_ret2
    refine ⟨_, rfl, ?_, hb10⟩
    have hll : F.length = 3 + 1 + n3 + 1 + G.length := by
      rw [HM2.out]
      simp only [List.length_append, List.length_cons, List.length_nil]
      have := HBl.out
      omega
    have hmm : F.map (Value.int .u8) = [0, f, 1].map (Value.int .u8) ++ [.int .u8 (n3 : Int)] ++ bs.map (Value.int .u8) ++ [.int .u8 0] ++ G.map (Value.int .u8) := by
      rw [HM2.out]
      simp
    rw [hll, hmm]
    exact hr9
  · have HM2 : Hid (F = [0, f, 1] ++ G) := Lib.hid (by rw [HMF.out]; rfl)
    clear h14 h15 HMF
    go_enter Tryd.func10, Tryd.ntmps10
    go_wp2_with (first | (refine wpList_load_row rfl 23 _ rfl w.heap.size rfl 23 #[.bool a0, .bool a1, .bool a2, .bool a3, .bool a4, .bool a5] (0, 0) (.struct (Tryd.prog.fieldsOf 23)) o1 (by kernel_rfl) rfl (by kernel_rfl) ?_) | (refine wpList_load_row rfl 30 _ rfl (w.heap.size + 1) rfl 30 #[.int .i64 15, .bool p, .int .u32 N, .int .u32 M, .slice A1 n1 c1, .slice A2 n2 c2, .slice A3 n3 c3, .int .i64 f, .slice A4 n4 c4] (0, 0) (.struct (Tryd.prog.fieldsOf 30)) o2 (by kernel_rfl) rfl (by kernel_rfl) ?_))
    refine HV.out.mono ?_
    rintro e w1 ⟨rfl, hb1⟩
    have u1 := o1.step hb1
    have u2 := o2.step hb1
    have hb2 := bl_trans b1 hb1
    have hbw1 := Lib.hid hb2.size
    clear o1 o2 b1 hb1 HV
    obtain ⟨g2, hg2⟩ : ∃ z, z = w.heap.size + 1 := ⟨_, rfl⟩
    rw [← hg2] at u2 ⊢
    clear hg2
    obtain ⟨e0, e1, e2, e3, e4, e5, e6, e7, e8⟩ := at_cells u2
    have l2 := u2.lt
    go_wp2_with fail
    refine (hCd.out _).mono ?_
    rintro e w2 ⟨g, rfl, hgw, hog, hb3⟩
    have v1 := u1.step hb3
    have v2 := u2.step hb3
    have hb4 := bl_trans hb2 hb3
    clear e0 e1 e2 e3 e4 e5 e6 e7 e8 u1 u2 hb2 hb3
    obtain ⟨e0, e1, e2, e3, e4, e5, e6, e7, e8⟩ := at_cells v2
    have m2 := v2.lt
    have HS0 := mpS_of v1.drew v2.drew
    go_wp2_with fail
    clear e0 e1 e2 e3 e4 e5 e6 e7 e8
    go_region_held3 (fun W => W.cell? ⟨w.heap.size, 0, none⟩ = some (.bool a0) ∧ W.cell? ⟨w.heap.size, 1, none⟩ = some (.bool a1) ∧ W.cell? ⟨w.heap.size, 2, none⟩ = some (.bool a2) ∧ W.cell? ⟨w.heap.size, 3, none⟩ = some (.bool a3) ∧ W.cell? ⟨w.heap.size, 4, none⟩ = some (.bool a4) ∧ W.cell? ⟨w.heap.size, 5, none⟩ = some (.bool a5) ∧ W.cell? ⟨g2, 7, none⟩ = some (.int .i64 f) ∧ W.cell? ⟨g2, 8, none⟩ = some (.slice A4 n4 c4)) (with_reducible first | exact HS0 | exact HS1 | exact HS2) ((first
      | (go_at_call 32; (with_reducible refine (hAdd.out _).mono ?_); rintro e w3 ⟨rfl, hb5⟩; have HS1 := mpS_of (v1.drew.step hb5) (v2.drew.step hb5))
      | (go_at_call 31; (with_reducible refine (hNb.out _ (bl_trans hb4.drew hb5)).mono ?_); rintro e w4 ⟨v4, rfl, hrow4, hb6⟩; have HS2 := mpS_of ((v1.drew.step hb5).step hb6) ((v2.drew.step hb5).step hb6))))
    obtain ⟨A9, c9, rfl⟩ := own_form hrow4
    have hog4 := (hog.drew.step hb5).step hb6
    have hb7 : Below w.heap.size w w4 := bl_trans (bl_trans hb4.drew hb5) hb6
    have hw1 := hb4.size
    have hw0 : w.heap.size ≤ g := by have := hbw1.out; omega
    have HR := Lib.hid (byte_row (xs := [0, f, 1]) hog4 hw0 (by unfold maxLen; simp))
    have HG := Lib.hid (Shows.of_own hrow4)
    have hGl : G.length ≤ 21 * 1000000 := by have := hfl2.out; have := hrl.out; omega
    have HGl := Lib.hid (show (G.map (Value.int .u8)).length = G.length * 1 by rw [List.length_map, Nat.mul_one])
    have hs4 := hb7.size
    clear HS0 HS1 HS2 v1 v2 hog hb4 hb5 hb6 hrow4 hog4
    go_wp2_with (at_builtin; refine wpList_append_grow _ rfl _ _ rfl sl_bytes w.heap.size _ 3 _ rfl HR.out w4.heap.size A9 G.length c9 (G.map (Value.int .u8)) rfl HGl.out HG.out (one8 G) (by unfold maxLen; omega) (by omega) hs4 ?_; intro v5 w5 hr5 hg5)
    have hb8 := hb7.grown hg5 hs4 (fun j hj => own_base HR.out j hj)
    go_ret2
    refine ⟨_, rfl, ?_, hb8⟩
    rw [HM2.out, List.length_append, List.map_append]
    exact hr5
end Go.Proofs.YtmlmgjdjbpipcaaDoor
