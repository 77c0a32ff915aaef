/- aggregate.Bytes -/
import Derived.Test.YtkcejeogacobiaaDoorAgB
import Derived.Test.YtkcejeogacobiaaDoorPfxB
namespace Go.Proofs.YtkcejeogacobiaaDoor
open Go.RowKit

theorem agval_parts {wd : Int} {a : At} (h : agVal wd a = true) : agHnd wd a.k = true ∧ bareB a = true ∧ a.N < 256 ^ (agSize wd a.k).toNat := by
  unfold agVal at h
  simpa [and_assoc] using h
def agForm (s : Nat) (N M : Int) : List Int := digitsOf s N ++ digitsOf 4 M
theorem agForm_len (s : Nat) (N M : Int) : (agForm s N M).length = s + 4 := by unfold agForm; rw [List.length_append, digitsOf_len, digitsOf_len]
set_option maxRecDepth 100000 in
set_option maxHeartbeats 1600000 in
theorem agbytes_yes (wd : Int) (a : At) (w : World) (hN : 0 ≤ a.N) (hN2 : a.N < 4294967296) (hM : 0 ≤ a.M) (hM2 : a.M < 4294967296) (hv : agVal wd a = true) (s : Nat) (hs : agSize wd a.k = (s : Int)) (hs2 : s = 2 ∨ s = 4) :
    Calls Tryd.prog 36 #[.int .i64 wd, .agg (atc a)] w fun e w' => ∃ A, e = .returned (.tuple #[.slice A (s + 4) (s + 4), .bool true]) ∧ Bytes w' w'.heap.size A (s + 4) (agForm s a.N a.M) ∧ Below w.heap.size w w' := by
  have hV := Lib.hid (fun W => agvalid_any wd a W hN hN2)
  rw [hv] at hV
  have hS := Lib.hid (agsize_any wd a.k)
  rw [hs] at hS
  have hfit : a.N < 256 ^ s := by have := (agval_parts hv).2.2; rwa [hs, Int.toNat_natCast] at this
  have hPut : Hid (∀ W, Calls Tryd.prog 69 #[.int .i64 s, .int .u32 a.N] W fun e w' => e = .returned (.tuple #[.slice (some ⟨W.heap.size, 0, none⟩) s s, .bool true]) ∧ Own w' W.heap.size 5 ((digitsOf s a.N).map (Value.int .u8)).toArray ∧ Below W.heap.size W w') := Lib.hid (fun W => by
    have := put_yes s a.N W (by omega) (by omega) hN (by rw [Int.toNat_natCast]; exact hfit)
    rwa [Int.toNat_natCast] at this)
  have hPut4 : Hid (∀ W, Calls Tryd.prog 69 #[.int .i64 4, .int .u32 a.M] W fun e w' => e = .returned (.tuple #[.slice (some ⟨W.heap.size, 0, none⟩) 4 4, .bool true]) ∧ Own w' W.heap.size 5 ((digitsOf 4 a.M).map (Value.int .u8)).toArray ∧ Below W.heap.size W w') := Lib.hid (fun W => put_yes 4 a.M W (by omega) (by omega) hM (by simpa using hM2))
  have hs4 : s ≤ 4 := by omega
  clear hfit hv hN hN2 hM hM2 hs hs2
  obtain ⟨k, p, N, M, A1, n1, c1, A2, n2, c2, A3, n3, c3, f, A4, n4, c4⟩ := a
  unfold atc at *
  dsimp only at *
  have hb0 := bl_alloc (bl_refl w) (.cells #[.int .i64 k, .bool p, .int .u32 N, .int .u32 M, .slice A1 n1 c1, .slice A2 n2 c2, .slice A3 n3 c3, .int .i64 f, .slice A4 n4 c4] 29)
  have o0 := Own.new w 29 #[.int .i64 k, .bool p, .int .u32 N, .int .u32 M, .slice A1 n1 c1, .slice A2 n2 c2, .slice A3 n3 c3, .int .i64 f, .slice A4 n4 c4]
  go_enter Tryd.func36, Tryd.ntmps36
  go_wp2_with fail
  refine (hV.out _).mono ?_
  rintro e w1 ⟨rfl, hb1⟩
  have o1 := o0.step hb1
  have hb2 := bl_trans hb0 hb1
  clear hb0 hb1 o0
  go_wp2_with fail
  have HPV := Lib.hid (hPut.out w1.drew)
  have HS0 : w1.drew.cell? ⟨w.heap.size, 0, none⟩ = some (.int .i64 k) ∧ w1.drew.cell? ⟨w.heap.size, 2, none⟩ = some (.int .u32 N) := ⟨o1.drew.cell (i := 0) rfl, o1.drew.cell (i := 2) rfl⟩
  go_region_held3 (fun W => W.cell? ⟨w.heap.size, 0, none⟩ = some (.int .i64 k) ∧ W.cell? ⟨w.heap.size, 2, none⟩ = some (.int .u32 N)) (with_reducible first | exact HS0 | exact HS2) ((first
    | (go_at_call 76; (with_reducible refine (hS.out _).mono ?_); rintro e w' ⟨rfl, rfl⟩)
    | (go_at_call 69; (with_reducible refine HPV.out.mono ?_); rintro e w2 ⟨rfl, ho, hb3⟩; have o2 := o1.drew.step hb3; have HS2 : w2.cell? ⟨w.heap.size, 0, none⟩ = some (.int .i64 k) ∧ w2.cell? ⟨w.heap.size, 2, none⟩ = some (.int .u32 N) := ⟨o2.cell (i := 0) rfl, o2.cell (i := 2) rfl⟩)))
  have hb4 := bl_trans hb2.drew hb3
  have f3 := o2.cell (i := 3) (v := .int .u32 M) rfl
  have ho1 : Own w2 w1.heap.size 5 ((digitsOf s N).map (Value.int .u8)).toArray := ho
  clear HS0 HS2 HPV hPut hS hV hb2 hb3 o1 o2 ho
  generalize w1.heap.size = g1 at *
  go_wp2_with fail
  refine (hPut4.out _).mono ?_
  rintro e w3 ⟨rfl, ho3, hb5⟩
  have o4 := ho1.step hb5
  have hb6 := bl_trans hb4 hb5
  clear ho1 hPut4 f3
  go_wp2_with fail
  have hbc := bl_alloc (bl_refl w3) (.cells #[.slice (some ⟨g1, 0, none⟩) s s, .slice (some ⟨w2.heap.size, 0, none⟩) 4 4] 22)
  have q1 := o4.step hbc
  have q2 := ho3.step hbc
  have b1 := Bytes.of_owned (xs := digitsOf s N) q1 (digitsOf_range _ _) q1.lt
  have b2 := Bytes.of_owned (xs := digitsOf 4 M) q2 (digitsOf_range _ _) q2.lt
  rw [digitsOf_len] at b1 b2
  have on := Own.new w3 22 #[.slice (some ⟨g1, 0, none⟩) s s, .slice (some ⟨w2.heap.size, 0, none⟩) 4 4]
  have hpt := parts_two (c1 := s) (c2 := 4) on b1 b2
  have hfl : flat [⟨some ⟨g1, 0, none⟩, s, s, digitsOf s N⟩, ⟨some ⟨w2.heap.size, 0, none⟩, 4, 4, digitsOf 4 M⟩] = agForm s N M := by simp [flat, agForm]
  have HL := Lib.hid (agForm_len s N M)
  refine (cat_own (c := 2) hpt (by omega) (by rw [hfl, HL.out]; omega)).mono ?_
  rw [hfl, HL.out]
  rintro e w4 ⟨rfl, ho5, hb7⟩
  have hB := Bytes.of_owned (xs := agForm s N M) ho5 (by intro x hx; unfold agForm at hx; rcases List.mem_append.1 hx with h | h <;> exact digitsOf_range _ _ x h) ho5.lt
  rw [HL.out, show (w3.alloc (.cells #[.slice (some ⟨g1, 0, none⟩) s s, .slice (some ⟨w2.heap.size, 0, none⟩) 4 4] 22)).heap.size = w3.heap.size + 1 by simp] at hB
  have hb8 := bl_trans (bl_trans hb6 hbc) hb7
  go_wp2
  go_ret2
  exact ⟨_, rfl, hB, hb8⟩
set_option maxRecDepth 100000 in
theorem agbytes_no (wd : Int) (a : At) (w : World) (hN : 0 ≤ a.N) (hN2 : a.N < 4294967296) (hv : agVal wd a = false) :
    Calls Tryd.prog 36 #[.int .i64 wd, .agg (atc a)] w fun e w' => e = .returned (.tuple #[.slice none 0 0, .bool false]) ∧ Below w.heap.size w w' := by
  have hV := Lib.hid (fun W => agvalid_any wd a W hN hN2)
  rw [hv] at hV
  clear hv hN hN2
  obtain ⟨k, p, N, M, A1, n1, c1, A2, n2, c2, A3, n3, c3, f, A4, n4, c4⟩ := a
  unfold atc at *
  dsimp only at *
  have hb0 := bl_alloc (bl_refl w) (.cells #[.int .i64 k, .bool p, .int .u32 N, .int .u32 M, .slice A1 n1 c1, .slice A2 n2 c2, .slice A3 n3 c3, .int .i64 f, .slice A4 n4 c4] 29)
  go_enter Tryd.func36, Tryd.ntmps36
  go_wp2_with fail
  refine (hV.out _).mono ?_
  rintro e w1 ⟨rfl, hb1⟩
  have hb2 := bl_trans hb0 hb1
  go_wp2
  go_ret2
  exact ⟨rfl, hb2⟩
end Go.Proofs.YtkcejeogacobiaaDoor
