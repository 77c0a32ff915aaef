/- peerageref08.Bytes -/
import Derived.Test.YtkcejeogacobiaaDoorAwA
import Derived.Test.YtkcejeogacobiaaDoorStepG
namespace Go.Proofs.YtkcejeogacobiaaDoor
open Go.RowKit Go.Sort

set_option maxRecDepth 100000 in
theorem ragbytes_no (wd : Int) (a : At) (w : World) (hN2 : a.N < 4294967296) (hv : agVal wd a = false) :
    Calls Tryd.prog 40 #[.int .i64 wd, .agg (atc a)] w fun e w' => e = .returned (.tuple #[.slice none 0 0, .bool false]) ∧ Below w.heap.size w w' := by
  have hV := Lib.hid (fun W => ragvalid_any wd a W hN2)
  rw [hv] at hV
  clear hv
  obtain ⟨k, p, N, M, A1, n1, c1, A2, n2, c2, A3, n3, c3, f, A4, n4, c4⟩ := a
  unfold atc at *
  dsimp only at *
  have hb0 := bl_alloc (bl_refl w) (.cells #[.int .i64 k, .bool p, .int .u32 N, .int .u32 M, .slice A1 n1 c1, .slice A2 n2 c2, .slice A3 n3 c3, .int .i64 f, .slice A4 n4 c4] 29)
  go_enter Tryd.func40, Tryd.ntmps40
  go_wp2_with fail
  refine (hV.out _).mono ?_
  rintro e w1 ⟨rfl, hb1⟩
  go_wp2
  go_ret2
  exact ⟨rfl, bl_trans hb0 hb1⟩
theorem shows_len {w : World} {base : Nat} {n : Nat} {v : Value} {xs : List Value} {e : TypeId} (h : w.ownsRow base e 1 v n xs) : xs.length = n := by have := h.1; omega
set_option maxRecDepth 100000 in
set_option maxHeartbeats 3200000 in
theorem ragbytes_yes (wd : Int) (a : At) (w : World) (hN : 0 ≤ a.N) (hN2 : a.N < 4294967296) (hM : 0 ≤ a.M) (hM2 : a.M < 4294967296) (hv : agVal wd a = true) (s : Nat) (hs : agSize wd a.k = (s : Int)) (hs2 : s = 2 ∨ s = 4) :
    Calls Tryd.prog 40 #[.int .i64 wd, .agg (atc a)] w fun e w' => ∃ A c, e = .returned (.tuple #[.slice A (s + 4) c, .bool true]) ∧ Bytes w' w'.heap.size A (s + 4) (agForm s a.N a.M) ∧ Below w.heap.size w w' := by
  have hV := Lib.hid (fun W => ragvalid_any wd a W hN2)
  rw [hv] at hV
  have hS := Lib.hid (ragsize_any wd a.k)
  rw [hs] at hS
  have i1 : 1 ≤ (s : Int) := by omega
  have i4 : (s : Int) ≤ 4 := by omega
  have HF := Lib.hid (show (agForm s a.N a.M).map (Value.int .u8) = (digitsOf s a.N).map (Value.int .u8) ++ (digitsOf 4 a.M).map (Value.int .u8) by unfold agForm; rw [List.map_append])
  have HL := Lib.hid (agForm_len s a.N a.M)
  have HR := Lib.hid (show ∀ x ∈ agForm s a.N a.M, 0 ≤ x ∧ x ≤ 255 by
    intro x hx
    rcases List.mem_append.1 hx with h | h
    · exact digitsOf_range _ _ x h
    · exact digitsOf_range _ _ x h)
  have hO1 := Lib.hid (fun W => of_any (s : Int) a.N W i1 i4 hN hN2)
  have hO2 := Lib.hid (fun W => of_any 4 a.M W (by omega) (by omega) hM hM2)
  rw [Int.toNat_natCast] at hO1
  rw [show (4 : Int).toNat = 4 from rfl] at hO2
  have hs4 : s ≤ 4 := by omega
  clear hv hs hs2 hN hN2 hM hM2
  obtain ⟨k, p, N, M, A1, n1, c1, A2, n2, c2, A3, n3, c3, f, A4, n4, c4⟩ := a
  unfold atc at *
  dsimp only at *
  have hb0 := bl_alloc (bl_refl w) (.cells #[.int .i64 k, .bool p, .int .u32 N, .int .u32 M, .slice A1 n1 c1, .slice A2 n2 c2, .slice A3 n3 c3, .int .i64 f, .slice A4 n4 c4] 29)
  have o0 := Own.new w 29 #[.int .i64 k, .bool p, .int .u32 N, .int .u32 M, .slice A1 n1 c1, .slice A2 n2 c2, .slice A3 n3 c3, .int .i64 f, .slice A4 n4 c4]
  go_enter Tryd.func40, Tryd.ntmps40
  go_wp2_with fail
  refine (hV.out _).mono ?_
  rintro e w1 ⟨rfl, hb1⟩
  have o1 := o0.step hb1
  have hb2 := bl_trans hb0 hb1
  clear hb0 hb1 o0
  go_wp2_with fail
  have HS0 : w1.drew.cell? ⟨w.heap.size, 0, none⟩ = some (.int .i64 k) ∧ w1.drew.cell? ⟨w.heap.size, 2, none⟩ = some (.int .u32 N) ∧ w1.drew.cell? ⟨w.heap.size, 3, none⟩ = some (.int .u32 M) := ⟨o1.drew.cell (i := 0) rfl, o1.drew.cell (i := 2) rfl, o1.drew.cell (i := 3) rfl⟩
  go_region_held3 (fun W => W.cell? ⟨w.heap.size, 0, none⟩ = some (.int .i64 k) ∧ W.cell? ⟨w.heap.size, 2, none⟩ = some (.int .u32 N) ∧ W.cell? ⟨w.heap.size, 3, none⟩ = some (.int .u32 M)) (with_reducible first | exact HS0 | exact HS2 | exact HS3 | exact HS4) ((first
    | (go_at_call 78; (with_reducible refine (hS.out _).mono ?_); rintro e w' ⟨rfl, rfl⟩)
    | (go_at_call 74; (with_reducible refine (hO1.out _).mono ?_); rintro e w2 ⟨v1, rfl, ho1, hb3⟩; obtain ⟨B1, k1, rfl, hk1, _⟩ := own_val ho1; have o2 := o1.drew.step hb3; have hb4 := bl_trans hb2.drew hb3; have HS2 : w2.cell? ⟨w.heap.size, 0, none⟩ = some (.int .i64 k) ∧ w2.cell? ⟨w.heap.size, 2, none⟩ = some (.int .u32 N) ∧ w2.cell? ⟨w.heap.size, 3, none⟩ = some (.int .u32 M) := ⟨o2.cell (i := 0) rfl, o2.cell (i := 2) rfl, o2.cell (i := 3) rfl⟩)
    | (go_at_call 74; (with_reducible refine (hO2.out _).mono ?_); rintro e w3 ⟨v2, rfl, ho2, hb5⟩; obtain ⟨B2, k2, rfl, hk2, hs2⟩ := own_val ho2; have o3 := o2.step hb5; have hb6 := bl_trans hb4 hb5; have ho3 := own_leG (own_belowG ho1 hb5) (show w.heap.size ≤ _ from hb2.drew.size); have HS3 : w3.cell? ⟨w.heap.size, 0, none⟩ = some (.int .i64 k) ∧ w3.cell? ⟨w.heap.size, 2, none⟩ = some (.int .u32 N) ∧ w3.cell? ⟨w.heap.size, 3, none⟩ = some (.int .u32 M) := ⟨o3.cell (i := 0) rfl, o3.cell (i := 2) rfl, o3.cell (i := 3) rfl⟩)
    | (apply step_append_grow; (case hop => rfl); (case hS => exact sl_bytes); (case hv => rfl); (case hown => exact ho3); (case hx => rfl); (case hs => exact hs2); (case hg => rfl); (case hn => (rw [List.length_map, digitsOf_len])); (case h1c => exact one8 _); (case h63 => (unfold maxLen; omega)); (case hbytes => omega); (case hbase => exact hb6.size); intro v3 w4 ho4 hg4; have hb7 := hb6.grown hg4 hb6.size (own_base ho3); have o4 := o3.grown hg4 (fun e => absurd (own_base (own_belowG ho1 hb5) _ e.symm) (by have := o1.drew.lt; omega)); have HS4 : w4.cell? ⟨w.heap.size, 0, none⟩ = some (.int .i64 k) ∧ w4.cell? ⟨w.heap.size, 2, none⟩ = some (.int .u32 N) ∧ w4.cell? ⟨w.heap.size, 3, none⟩ = some (.int .u32 M) := ⟨o4.cell (i := 0) rfl, o4.cell (i := 2) rfl, o4.cell (i := 3) rfl⟩)))
  go_wp2
  go_ret2
  obtain ⟨B3, k3, rfl, hk3, hs3⟩ := own_val ho4
  refine ⟨B3, k3, rfl, ⟨HL.out.symm, HR.out, ?_⟩, hb7⟩
  rw [HF.out]
  exact hs3
end Go.Proofs.YtkcejeogacobiaaDoor
