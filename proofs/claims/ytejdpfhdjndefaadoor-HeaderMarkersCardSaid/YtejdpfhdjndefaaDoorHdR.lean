/- HeaderMarkers: the walk -/
import Derived.Test.YtejdpfhdjndefaaDoorHdQ
import Derived.Test.YtejdpfhdjndefaaDoorOctK
namespace Go.Proofs.YtejdpfhdjndefaaDoor
open Go.RowKit Extern.Stop

theorem okWide_arr {P : Program} {w : World} {r : Reach} {base : Nat} {t : TypeId} {v : Value} {n : Nat} {e : TypeId} (ht : P.underlying t = some (.array n e)) (h : Value.okWide P w r base t v) : ∃ cs, v = .agg cs ∧ cs.size = P.cellsOf t := by
  simp only [Value.okWide, ht] at h
  obtain ⟨cs, h1, h2, _⟩ := h
  exact ⟨cs, h1, h2⟩
theorem arr2 {C : Array Value} {x y : Value} (h : C.size = 2) (h0 : C.toList[0]? = some x) (h1 : C.toList[1]? = some y) : C = #[x, y] := by
  obtain ⟨l⟩ := C
  match l, h, h0, h1 with
  | [a, b], _, h0, h1 =>
    simp at h0 h1
    rw [h0, h1]
theorem hmark_worlds (a0 a1 a2 a3 a4 a5 : Bool) (x0 x1 : Int) (w : World) : ∃ V, V = (w.alloc (.cells #[.bool a0, .bool a1, .bool a2, .bool a3, .bool a4, .bool a5] 23)).alloc (.cells #[.int .u8 x0, .int .u8 x1] 48) ∧ Own V w.heap.size 23 #[.bool a0, .bool a1, .bool a2, .bool a3, .bool a4, .bool a5] ∧ Own V (w.heap.size + 1) 48 #[.int .u8 x0, .int .u8 x1] ∧ Below w.heap.size w V := by
  refine ⟨_, rfl, (Own.new w _ _).alloc _, ?_, bl_alloc (bl_alloc (bl_refl w) _) _⟩
  have h := Own.new (w.alloc (.cells #[.bool a0, .bool a1, .bool a2, .bool a3, .bool a4, .bool a5] 23)) 48 #[.int .u8 x0, .int .u8 x1]
  rw [show (w.alloc (.cells #[.bool a0, .bool a1, .bool a2, .bool a3, .bool a4, .bool a5] 23)).heap.size = w.heap.size + 1 by simp] at h
  exact h
set_option maxRecDepth 100000 in
set_option maxHeartbeats 3200000 in
theorem hmarks_all (a0 a1 a2 a3 a4 a5 : Bool) (A : Option Addr) (n c : Nat) (xs : List Int) (x0 x1 : Int) (w : World) (ht : HRows w) (hx : Bytes w w.heap.size A n xs) (hm : n ≤ maxLen) (r0 : 0 ≤ x0 ∧ x0 ≤ 255) (r1 : 0 ≤ x1 ∧ x1 ≤ 255) :
    Calls Tryd.prog 6 #[.agg #[.bool a0, .bool a1, .bool a2, .bool a3, .bool a4, .bool a5], .slice A n c, .agg #[.int .u8 x0, .int .u8 x1]] w fun e w' => e = .returned (.bool true) ∧ Below w.heap.size w w' := by
  unfold maxLen at hm
  obtain ⟨V, hV, oO, oA, hb0⟩ := hmark_worlds a0 a1 a2 a3 a4 a5 x0 x1 w
  have hx1 := (hx.below hb0).more hb0.size
  have ht1 := ht.below hb0
  have hi : ∃ i : Nat, x0 % 16 = (i : Int) ∧ i < 16 := ⟨(x0 % 16).toNat, by omega, by omega⟩
  obtain ⟨i, hi, hi16⟩ := hi
  have p0 := r0.1
  have p1 := r0.2
  have ew : IntKind.i64.wrap x0 = x0 := by rw [IntKind.wrap_i64]; omega
  have hr := Lib.hid hx.2.1
  have hR1 := Lib.hid r1
  have h16 : (i : Int) < 16 := by omega
  clear hx ht r0 r1
  go_enter Tryd.func6, Tryd.ntmps6
  go_wp2_with fail
  rw [← hV]
  clear hV
  have HS0 : V.drew.cell? ⟨w.heap.size + 1, 0, none⟩ = some (.int .u8 x0) ∧ V.drew.cell? ⟨w.heap.size + 1, 1, none⟩ = some (.int .u8 x1) := ⟨oA.cell rfl, oA.cell rfl⟩
  go_region_held3 (fun W => W.cell? ⟨w.heap.size + 1, 0, none⟩ = some (.int .u8 x0) ∧ W.cell? ⟨w.heap.size + 1, 1, none⟩ = some (.int .u8 x1)) (with_reducible exact HS0) (fail)
  have oU := oO.drew
  have hb1 := hb0.drew
  have htU := ht1.drew
  have hxU : Bytes V.drew V.drew.heap.size A n xs := hx1
  clear HS0 oO oA hb0 ht1 hx1
  generalize V.drew = U at *
  by_cases hlong : 300 < n ∨ n ≤ i ∨ x1 = 255
  · have hgg : (300 < n) ∨ (n ≤ 300 ∧ n ≤ i) ∨ (n ≤ 300 ∧ i < n ∧ x1 = 255) := by omega
    clear hlong
    rcases hgg with d0 | ⟨d0, d1⟩ | ⟨d0, d1, rfl⟩
    all_goals
      go_wp2_with fail
      refine (alive4_any _ htU).mono ?_
      rintro e w1 ⟨rfl, hb2⟩
      have hb3 := bl_trans hb1 hb2
      go_wp2
      go_ret
      exact ⟨rfl, hb3⟩
  · have hin : i < n := by omega
    have h300 : n ≤ 300 := by omega
    have d2 : (x1 == 255) = false := by simp; omega
    have hne : x1 ≠ 255 := by omega
    have HNE := Lib.hid hne
    have HXU := Lib.hid hxU.1
    clear hlong hne
    go_wp2_with fail
    refine (clone_any A n c xs _ hxU (by omega)).mono ?_
    rintro e w1 ⟨v, rfl, hown, hb2⟩
    obtain ⟨A1, c1, rfl, hc1, hs1⟩ := own_val hown
    have o1 := oU.step hb2
    have t1 := htU.below hb2
    have b1 := bl_trans hb1 hb2
    have hUw := hb1.size
    have hrow := own_base_le2 hown hUw
    have hwU := oU.lt
    have hUb : ∀ j, (Value.slice A1 n c1).ownBlock = some j → U.heap.size ≤ j := fun j hj => (hown.lt j hj).1
    clear oU htU hb1 hb2 hxU hs1
    go_wp2_with fail
    go_loopw [10] (fun kv wr => ∃ (m : Nat) (ys : List Int), m ≤ i ∧ kv = .int .i64 m ∧ ys.length = n ∧ (∀ y ∈ ys, 0 ≤ y ∧ y ≤ 255) ∧ (∀ j, j < m → nth ys j = 255) ∧ wr.ownsRow U.heap.size 5 1 (.slice A1 n c1) n (ys.map (Value.int .u8)) ∧ Below w.heap.size w wr ∧ HRows wr ∧ Own wr w.heap.size 23 #[.bool a0, .bool a1, .bool a2, .bool a3, .bool a4, .bool a5]) (fun kv _ => i - (intOf kv).toNat)
    case atStart => exact ⟨0, xs, Nat.zero_le _, rfl, HXU.out.symm, hr.out, fun j hj => absurd hj (Nat.not_lt_zero j), hown, b1, t1, o1⟩
    case round =>
      obtain ⟨m, ys, hmi, rfl, hyl, hyr, hya, hyo, hbr, htr, hor⟩ := hrel
      have HYL := Lib.hid hyl
      have HYR := Lib.hid hyr
      have HYA := Lib.hid hya
      clear hyl hyr hya hown hrow o1 t1 b1
      have hmn : m < n := by omega
      have hmnI : (m : Int) < (n : Int) := by omega
      obtain ⟨b, c', hA1, hbase, hbl, hcell, hfz, hst⟩ := own_store hyo hmn
      injection hA1 with hA1 _ hcc
      subst hA1 hcc
      have HST := Lib.hid hst
      have hbw : w.heap.size ≠ b := by omega
      clear hst
      by_cases hlt : m < i
      · go_wp2
        have h2 := HST.out 255
        go_roundw
        case rel =>
          refine ⟨m + 1, ys.set m 255, by omega, by go_num, by rw [List.length_set]; exact HYL.out, ?_, ?_, h2.1, bl_only hbr h2.2 (by omega), ?_, hor.grown h2.2 (by intro e; have := Option.some.inj e; omega)⟩
          · intro y hy
            rcases List.mem_or_eq_of_mem_set hy with h | rfl
            · exact HYR.out y h
            · omega
          · intro j hj
            rcases Nat.lt_succ_iff_lt_or_eq.1 hj with h | rfl
            · have := HYA.out j h
              unfold nth at this ⊢
              rw [List.getD_eq_getElem?_getD, List.getElem?_set_ne (by omega), ← List.getD_eq_getElem?_getD]
              exact this
            · unfold nth
              rw [List.getD_eq_getElem?_getD, List.getElem?_set_self (by have := HYL.out; omega)]
              rfl
          · exact ⟨fun q v hq => (cell_far4 (o := q) _ (by have := htr.2; have := hor.lt; omega)).trans (htr.1 q v hq), by simpa using htr.2⟩
        case measure => simp [intOf]; omega
      · have hmi2 : m = i := by omega
        subst hmi2
        have h2 := HST.out x1
        have hbS : Below w.heap.size w (wr.setCell ⟨b, m, none⟩ (.int .u8 x1)) := bl_only hbr h2.2 (by omega)
        have hoS : Own (wr.setCell ⟨b, m, none⟩ (.int .u8 x1)) w.heap.size 23 #[.bool a0, .bool a1, .bool a2, .bool a3, .bool a4, .bool a5] := hor.grown h2.2 (by intro e; have := Option.some.inj e; omega)
        have htS : HRows (wr.setCell ⟨b, m, none⟩ (.int .u8 x1)) := ⟨fun q v hq => (cell_far4 (o := q) _ (by have := htr.2; have := hor.lt; omega)).trans (htr.1 q v hq), by simpa using htr.2⟩
        obtain ⟨A9, c9, e9, hc9, hs9⟩ := own_val h2.1
        injection e9 with e9a _ e9c
        subst e9a e9c
        have hzs : ∀ j, j < m → nth (ys.set m x1) j = 255 := fun j hj => by
          have := HYA.out j hj
          unfold nth at this ⊢
          rw [List.getD_eq_getElem?_getD, List.getElem?_set_ne (by omega), ← List.getD_eq_getElem?_getD]
          exact this
        have hzm : nth (ys.set m x1) m ≠ 255 := by
          unfold nth
          rw [List.getD_eq_getElem?_getD, List.getElem?_set_self (by have := HYL.out; omega)]
          exact HNE.out
        have hBS : Bytes (wr.setCell ⟨b, m, none⟩ (.int .u8 x1)) (wr.setCell ⟨b, m, none⟩ (.int .u8 x1)).heap.size (some ⟨b, 0, none⟩) n (ys.set m x1) := by
          refine ⟨by rw [List.length_set]; exact HYL.out.symm, fun y hy => ?_, hs9⟩
          rcases List.mem_or_eq_of_mem_set hy with h | rfl
          · exact HYR.out y h
          · exact hR1.out
        have HZS := Lib.hid hzs
        have HZM := Lib.hid hzm
        obtain ⟨k0, k1, k2, k3, k4, k5⟩ := own_six4 hoS
        have HBS := Lib.hid hBS
        have HTS := Lib.hid htS
        have HBB := Lib.hid hbS
        have HOS := Lib.hid hoS
        clear hzs hzm h2 HST hor htr hbr hyo hs9 HYA HYR hBS htS hbS hoS hc9
        go_wp2_with fail
        refine (hparse_mark a0 a1 a2 a3 a4 a5 _ n _ (ys.set m x1) _ HBS.out hc1 (by omega) m hi16 hin HZS.out HZM.out).mono ?_
        rintro e w2 ⟨G, rfl, hb3⟩
        have hba := bl_alloc (bl_alloc (bl_refl w2) (.cells #[.int .i64 0, .int .i64 0] 27)) (.cells #[.int .i64 4, .int .i64 1, .int .i64 1, .slice (some ⟨G, 0, none⟩) 0 0, .int .i64 m] 29)
        have hb4 := bl_trans (bl_trans HBB.out hb3) hba
        have ht4 := (HTS.out.below hb3).below hba
        have g1 := (Own.new w2 27 #[.int .i64 0, .int .i64 0]).alloc (.cells #[.int .i64 4, .int .i64 1, .int .i64 1, .slice (some ⟨G, 0, none⟩) 0 0, .int .i64 m] 29)
        have g2 := Own.new (w2.alloc (.cells #[.int .i64 0, .int .i64 0] 27)) 29 #[.int .i64 4, .int .i64 1, .int .i64 1, .slice (some ⟨G, 0, none⟩) 0 0, .int .i64 m]
        rw [show (w2.alloc (.cells #[.int .i64 0, .int .i64 0] 27)).heap.size = w2.heap.size + 1 by simp] at g2
        have heq := hd_eql_same 0 0
        clear k0 k1 k2 k3 k4 k5 HBB HTS HOS HBS hb3 hba
        go_wp2_with fail
        refine (alive4_any _ ht4).mono ?_
        rintro e w3 ⟨rfl, hb5⟩
        have hb6 := bl_trans hb4 hb5
        have f1 := g1.step hb5
        have f2 := g2.step hb5
        have q0 := f1.cell (i := 0) (v := .int .i64 0) rfl
        have q1 := f1.cell (i := 1) (v := .int .i64 0) rfl
        obtain ⟨z0, z1, z2, z3, z4⟩ := own_five_cells f2
        clear hb4 hb5 ht4 g1 g2 f1 f2
        go_wp2_with fail
        refine (vsame_same 4 1 1 m (some ⟨G, 0, none⟩) none 0 0 0 0 [] _ (Bytes.nil _ _ _) (Bytes.nil _ _ _)).mono ?_
        rintro e w4 ⟨rfl, hb7⟩
        have hb8 := bl_trans hb6 hb7
        go_wp2
        go_ret
        exact ⟨rfl, hb8⟩
end Go.Proofs.YtejdpfhdjndefaaDoor
