/- peerageref16.Bytes -/
import Derived.Test.YtniheakafkakhaaDoorCpC
namespace Go.Proofs.YtniheakafkakhaaDoor
open Go.RowKit

theorem map8_append (xs ys : List Int) : (xs ++ ys).map (Value.int .u8) = xs.map (Value.int .u8) ++ ys.map (Value.int .u8) := List.map_append
set_option maxRecDepth 100000 in
set_option maxHeartbeats 6400000 in
theorem rcbytes_any (A : Option Addr) (n c : Nat) (ss : List Cp) (w : World) (h : Caps w w.heap.size A n ss) (hn : n ≤ 1000) (hs : ∀ s ∈ ss, s.n ≤ 1000) :
    Calls Tryd.prog 73 #[.slice A n c] w fun e w' => CBytesR ss w e w' := by
  have HN := Lib.hid h.1
  have HX := Lib.hid h
  have HV := Lib.hid (rcvalid_any A n c ss w h (by omega))
  have HS := Lib.hid hs
  clear h hs
  cases ho : ss.all cpOk with
  | false =>
    have HO := Lib.hid ho
    rw [ho] at HV
    clear ho
    go_enter Tryd.func73, Tryd.ntmps73
    go_wp2_with fail
    refine HV.out.mono ?_
    rintro e w1 ⟨rfl, rfl⟩
    go_wp2
    go_ret2
    exact ⟨none, 0, 0, by rw [HO.out]; rfl, by rw [HO.out]; exact Bytes.nil _ _ _, Nat.le_refl _, bl_refl _⟩
  | true =>
    have HO := Lib.hid ho
    rw [ho] at HV
    clear ho
    go_enter Tryd.func73, Tryd.ntmps73
    go_wp2_with fail
    refine HV.out.mono ?_
    rintro e w1 ⟨rfl, rfl⟩
    go_wp2_with fail
    go_loopw [4, 5] (fun ov i wr => ∃ (k : Nat) (m : Nat), k ≤ n ∧ i = .int .i64 k ∧ m ≤ k * 1002 ∧ wr.ownsRow w.heap.size 5 1 ov m ((cpsForm (ss.take k)).map (Value.int .u8)) ∧ Below w.heap.size w wr) (fun _ i _ => n - (intOf i).toNat)
    case atStart => exact ⟨0, 0, Nat.zero_le _, rfl, Nat.le_refl _, by simpa [cpsForm] using World.ownsRow_nil _ _ _ _, bl_refl _⟩
    case round =>
      obtain ⟨k, m, hk, rfl, hm, hrow, hb⟩ := hrel
      by_cases hlt : k < n
      · obtain ⟨b, o, rfl, hbB, d0, d1⟩ := (HX.out.below hb).at_ hlt
        have hkl := Lib.hid (show k < ss.length by have := HN.out; omega)
        have hst := Lib.hid (show (cpsForm (ss.take (k + 1))).map (Value.int .u8) = ((cpsForm (ss.take k)).map (Value.int .u8) ++ [.int .u8 (cpth ss k).k, .int .u8 (cpth ss k).n]) ++ (cpth ss k).xs.map (Value.int .u8) by rw [take_cpth hkl.out, cpsForm_snoc]; simp [cpForm])
        have hok := cpOk_iff.1 (List.all_eq_true.1 HO.out _ (cpth_mem hkl.out))
        have hD := (HX.out.2.1 _ (cpth_mem hkl.out)).1
        have hsn := HS.out _ (cpth_mem hkl.out)
        generalize cpth ss k = s at *
        obtain ⟨sk, sA, sn, sc, sx⟩ := s
        dsimp only at d0 d1 hok hD hst hsn
        obtain ⟨ho1, ho2, ho3⟩ := hok
        have hbs := hb.size
        obtain ⟨A0, c0, rfl⟩ := own_form hrow
        have HRow := Lib.hid hrow
        have HB := Lib.hid hb
        have HD := Lib.hid hD
        have hkm : (k + 1) * 1002 ≤ 1000 * 1002 := Nat.mul_le_mul (by omega) (Nat.le_refl _)
        have hkm2 : (k + 1) * 1002 = k * 1002 + 1002 := Nat.succ_mul _ _
        have hwk := Lib.hid (show IntKind.u8.wrap sk = sk by rw [IntKind.wrap_u8]; omega)
        have hwn := Lib.hid (show IntKind.u8.wrap (sn : Int) = (sn : Int) by rw [IntKind.wrap_u8]; omega)
        clear hrow hb hD
        go_wp2_with fail
        go_region_law ((first
          | (refine step_append_at _ rfl _ _ rfl sl_bytes w.heap.size _ m _ rfl (own_belowG HRow.out (show Below wr.heap.size wr (wr.alloc (.cells #[.int .u8 (IntKind.u8.wrap sk), .int .u8 (IntKind.u8.wrap (sn : Int))] 5)).drew from bl_drewN (bl_alloc (bl_refl wr) _) 1)) (wr.heap.size + 1) (some ⟨wr.heap.size, 0, none⟩) 2 2 [.int .u8 (IntKind.u8.wrap sk), .int .u8 (IntKind.u8.wrap (sn : Int))] rfl rfl (Shows.of_owned (xs := [.int .u8 (IntKind.u8.wrap sk), .int .u8 (IntKind.u8.wrap (sn : Int))]) (Own.new wr 5 #[.int .u8 (IntKind.u8.wrap sk), .int .u8 (IntKind.u8.wrap (sn : Int))]).drew (Nat.lt_succ_self _)) (one8 [IntKind.u8.wrap sk, IntKind.u8.wrap (sn : Int)]) (by unfold maxLen; omega) (by omega) (by simp; omega) ?_; intro v3 w3 hr3 hg3 _)))
        all_goals
          rw [hwk.out, hwn.out] at hr3
          obtain ⟨A3, c3, rfl⟩ := own_form hr3
          have hb3 : Below w.heap.size w w3 := (show Below w.heap.size w (wr.alloc (.cells #[.int .u8 (IntKind.u8.wrap sk), .int .u8 (IntKind.u8.wrap (sn : Int))] 5)).drew from bl_drewN (HB.out.alloc HB.out.size _) 1).grown hg3 (by simp; omega) (fun j hj => own_base HRow.out j hj)
          have hs3 := hb3.size
          have hx3 := Lib.hid ((HD.out.below hb3).2.2)
          have e1' := HX.out
          obtain ⟨f0, f1⟩ : w3.cell? ⟨b, o + k * 2, none⟩ = some (.int .i64 sk) ∧ w3.cell? ⟨b, o + k * 2 + 1, none⟩ = some (.slice sA sn sc) := by
            have h0 := hb3.cell (p := ⟨b, o + k * 2, none⟩) hbB
            have h1 := hb3.cell (p := ⟨b, o + k * 2 + 1, none⟩) hbB
            have h2 := HB.out.cell (p := ⟨b, o + k * 2, none⟩) hbB
            have h3 := HB.out.cell (p := ⟨b, o + k * 2 + 1, none⟩) hbB
            exact ⟨h0.trans (h2.symm.trans d0), h1.trans (h3.symm.trans d1)⟩
          have HR3 := Lib.hid hr3
          have HB3 := Lib.hid hb3
          have hxl := Lib.hid HD.out.1
          clear hr3 hg3 hb3 d0 d1 e1'
          go_wp2_with (at_builtin; refine wpList_append_grow _ rfl _ _ rfl sl_bytes w.heap.size _ (m + 2) _ rfl HR3.out w.heap.size sA sn sc (sx.map (Value.int .u8)) rfl (by rw [List.length_map, ← hxl.out, Nat.mul_one]) hx3.out (one8 sx) (by unfold maxLen; omega) (by omega) hs3 ?_; intro v4 w4 hr4 hg4)
          have hb4 := HB3.out.grown hg4 hs3 (fun j hj => own_base HR3.out j hj)
          go_roundw
          case rel => exact ⟨k + 1, m + 2 + sn, by omega, by go_num, by omega, by rw [hst.out]; exact hr4, hb4⟩
          case measure => simp [intOf]; omega
      · obtain rfl : n = k := by omega
        have hlen := cpsForm_len (M := 1000) (L := ss) (fun s m => ⟨(HX.out.2.1 s m).1.1, HS.out s m⟩)
        rw [List.take_of_length_le (by rw [← HN.out]; exact Nat.le_refl _)] at hrow
        obtain ⟨A0, c0, rfl⟩ := own_form hrow
        have hrg : Hid (∀ x ∈ cpsForm ss, 0 ≤ x ∧ x ≤ 255) := Lib.hid (fun x hx => by
          obtain ⟨s, hs, hxs⟩ := List.mem_flatMap.1 hx
          obtain ⟨h1, h2, h3⟩ := cpOk_iff.1 (List.all_eq_true.1 HO.out s hs)
          simp only [cpForm, List.mem_cons] at hxs
          rcases hxs with rfl | rfl | hxs
          · exact ⟨h1, h2⟩
          · omega
          · exact (HX.out.2.1 s hs).1.2.1 x hxs)
        have HR := Lib.hid hrow
        clear hrow hlen
        go_wp2
        go_ret2
        refine ⟨A0, m, c0, by rw [HO.out]; rfl, ?_, ?_, hb⟩
        · rw [if_pos HO.out]
          exact ⟨by have := HR.out.1; simpa using this.symm, hrg.out, Shows.of_own HR.out⟩
        · obtain ⟨_, _, e, h, _⟩ := own_val HR.out
          injection e with _ _ e
          omega
end Go.Proofs.YtniheakafkakhaaDoor
