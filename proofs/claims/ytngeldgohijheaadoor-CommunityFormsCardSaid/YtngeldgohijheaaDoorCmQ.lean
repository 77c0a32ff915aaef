/- peerageref09.Bytes, Read at good inputs; Read at the others -/
import Derived.Test.YtngeldgohijheaaDoorCmR
import Derived.Test.YtngeldgohijheaaDoorCmB
import Derived.Deep.RegionLaw
namespace Go.Proofs.YtngeldgohijheaaDoor
open Go.RowKit Go.Sort

set_option maxRecDepth 100000 in
set_option maxHeartbeats 3200000 in
theorem rcmbytes_yes (a : At) (ls : List Int) (w : World) (hU : U32s w w.heap.size a.A2 a.n2 ls) (hR : U32L ls) (hn : a.n2 ≤ 1000) (hv : cmOk a = true) :
    Calls Tryd.prog 19 #[.agg (atc a)] w fun e w' => ∃ A c, e = .returned (.tuple #[.slice A (cmForm ls).length c, .bool true]) ∧ Bytes w' w'.heap.size A (cmForm ls).length (cmForm ls) ∧ Below w.heap.size w w' := by
  have hV := Lib.hid (fun W => rcmvalid_any a W (by unfold maxLen; omega))
  rw [hv] at hV
  have HO := Lib.hid (fun x (h0 : 0 ≤ x) (h1 : x < 4294967296) W => of_any 4 x W (by omega) (by omega) h0 h1)
  rw [show (4 : Int).toNat = 4 from rfl] at HO
  have HU := Lib.hid hU
  have HN := Lib.hid hU.1
  have HR := Lib.hid hR
  have HFl := Lib.hid (cmForm_len ls)
  clear hv hU hR
  obtain ⟨k, p, N, M, A1, n1, c1, A2, n2, c2, A3, n3, c3, f, A4, n4, c4⟩ := a
  unfold atc at *
  dsimp only at *
  have hb0 := bl_alloc (bl_refl w) (.cells #[.int .i64 k, .bool p, .int .u32 N, .int .u32 M, .slice A1 n1 c1, .slice A2 n2 c2, .slice A3 n3 c3, .int .i64 f, .slice A4 n4 c4] 29)
  have o0 := Own.new w 29 #[.int .i64 k, .bool p, .int .u32 N, .int .u32 M, .slice A1 n1 c1, .slice A2 n2 c2, .slice A3 n3 c3, .int .i64 f, .slice A4 n4 c4]
  go_enter Tryd.func19, Tryd.ntmps19
  go_wp2_with fail
  refine (hV.out _).mono ?_
  rintro e w1 ⟨rfl, hb1⟩
  have o1 := o0.step hb1
  have hb2 := bl_trans hb0 hb1
  have hs1 := hb2.size
  go_wp2_with fail
  go_loopw [4, 5] (fun v i wr => ∃ (j q : Nat) (A' : Option Addr) (c' : Nat), Hid (q = 4 * j) ∧ q ≤ 4000 ∧ j ≤ n2 ∧ i = .int .i64 j ∧ v = .slice A' q c' ∧ wr.ownsRow (w.heap.size + 1) 5 1 (.slice A' q c') q (((ls.take j).flatMap (digitsOf 4)).map (Value.int .u8)) ∧ Own wr w.heap.size 29 #[.int .i64 k, .bool p, .int .u32 N, .int .u32 M, .slice A1 n1 c1, .slice A2 n2 c2, .slice A3 n3 c3, .int .i64 f, .slice A4 n4 c4] ∧ Below w.heap.size w wr) (fun _ i _ => n2 - (intOf i).toNat)
  case atStart => exact ⟨0, 0, none, 0, Lib.hid rfl, by omega, Nat.zero_le _, rfl, rfl, World.ownsRow_nil _ _ _ _, o1, hb2⟩
  case round =>
    obtain ⟨j, q, A', c', HQ, hq4, hj, rfl, rfl, hrow, oq, hbq⟩ := hrel
    clear o1 o0 hb0 hb1 hb2 hs1
    have e5 := oq.cell (i := 5) rfl
    have hlo := oq.lt
    by_cases hlt : j < n2
    · obtain ⟨b, o, rfl, hbB, e1⟩ := (HU.out.below hbq).at_ hlt
      have hq1 := Lib.hid (show j < ls.length by rw [← HN.out]; exact hlt)
      have hD := Lib.hid (show ((ls.take (j + 1)).flatMap (digitsOf 4)).map (Value.int .u8) = ((ls.take j).flatMap (digitsOf 4)).map (Value.int .u8) ++ (digitsOf 4 (nth ls j)).map (Value.int .u8) by rw [digs_step hq1.out, List.map_append])
      have hxr := HR.out _ (nth_mem hq1.out)
      have hP := Lib.hid (fun W => HO.out (nth ls j) hxr.1 hxr.2 W)
      generalize nth ls j = x at *
      have hq5 : q + 4 ≤ 4000 := by have := HQ.out; omega
      clear hxr
      go_wp2_with fail
      refine (hP.out _).mono ?_
      rintro e w6 ⟨v1, rfl, ho1, hb6⟩
      obtain ⟨B1, k1, rfl, hk1, hs1⟩ := own_val ho1
      have row6 := own_belowG hrow hb6
      have oq6 := oq.step hb6
      have hb66 := bl_trans hbq hb6
      have hs6 := hb66.size
      have hlo6 := oq6.lt
      clear hrow oq hbq hb6 ho1
      go_wp2_with (at_builtin; refine wpList_append_grow _ rfl _ _ rfl sl_bytes (w.heap.size + 1) _ q _ rfl row6 _ B1 4 k1 _ rfl (by rw [List.length_map, digitsOf_len]) hs1 (one8 _) (by unfold maxLen; omega) (by omega) (by omega) ?_; intro v7 w7 ho7 hg7; obtain ⟨A7, c7, rfl⟩ := own_form ho7)
      have oq7 := oq6.grown hg7 (fun e => by have := own_base row6 _ e.symm; omega)
      have hb7 := hb66.grown hg7 (by omega) (fun j hj => by have := own_base row6 _ hj; omega)
      rw [← hD.out] at ho7
      go_roundw
      case rel => exact ⟨j + 1, q + 4, A7, c7, Lib.hid (by rw [HQ.out]; omega), hq5, by omega, by go_num, rfl, ho7, oq7, hb7⟩
      case measure => simp [intOf]; omega
    · have hjn := Lib.hid (show j = ls.length by have := HN.out; omega)
      have hL := Lib.hid (show q = (cmForm ls).length by rw [HQ.out, HFl.out, hjn.out])
      obtain ⟨_, _, e, hcc, hs⟩ := own_val hrow
      injection e with e1' _ e2'
      subst e1' e2'
      have hby : Bytes wr wr.heap.size A' q (cmForm ls) := ⟨hL.out, (fun x hx => by
        obtain ⟨y, _, hy⟩ := List.mem_flatMap.1 hx
        exact digitsOf_range 4 y x hy), by
        have e9 : (ls.take j).flatMap (digitsOf 4) = cmForm ls := by rw [hjn.out, List.take_length]; rfl
        rw [e9] at hs
        exact hs⟩
      clear hs hrow hjn
      go_wp2
      go_ret2
      refine ⟨A', ⟨c', ?_⟩, ?_, hbq⟩
      · rw [← hL.out]; rfl
      · rw [← hL.out]; exact hby
end Go.Proofs.YtngeldgohijheaaDoor
