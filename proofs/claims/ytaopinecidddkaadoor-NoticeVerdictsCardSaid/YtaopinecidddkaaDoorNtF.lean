/- notice.Text and its reference; alive of layer 18 -/
import Derived.Test.YtaopinecidddkaaDoorNtD
namespace Go.Proofs.YtaopinecidddkaaDoor
open Go.RowKit Go.Sort

def ntHead (c s : Int) : ByteArray := ntName c s ++ ⟨#[32]⟩ ++ decB c ++ ⟨#[47]⟩ ++ decB s
/-- The text of a valid notice. -/
def ntText (c s : Int) (xs : List Int) : ByteArray := if xs = [] then ntHead c s else ntHead c s ++ (⟨#[32]⟩ ++ hexB xs)
theorem ntName_size (c s : Int) : (ntName c s).size ≤ 30 := by
  unfold ntName
  split
  · rename_i h
    have h1 := nameAt_size (c := c.toNat) (k := 0) (by omega) (by omega)
    rw [ByteArray.size_append]
    unfold nameTail
    split
    · rename_i h2
      have h3 := nameAt_size (c := c.toNat) (k := s.toNat) (by omega) (by omega)
      rw [ByteArray.size_append]
      show _ + (1 + _) ≤ 30
      omega
    · show _ + 0 ≤ 30
      omega
  · decide
theorem ntHead_size {c s : Int} (hc : c ≤ 255) (hs : s ≤ 255) : (ntHead c s).size ≤ 80 := by
  have h1 := decB_size (n := c) (by omega)
  have h2 := decB_size (n := s) (by omega)
  have h3 := ntName_size c s
  unfold ntHead
  simp only [ByteArray.size_append]
  show (ntName c s).size + 1 + (decB c).size + 1 + (decB s).size ≤ 80
  omega
set_option maxRecDepth 100000 in
theorem nttext_no (c s : Int) (A : Option Addr) (n cp : Nat) (w : World) (hk : ntOk c s n = false) :
    Calls Tryd.prog 50 #[.agg #[.int .i64 c, .int .i64 s, .slice A n cp]] w fun e w' => e = .returned (.string ⟨#[]⟩) ∧ Below w.heap.size w w' := by
  have hb := bl_alloc (bl_refl w) (.cells #[.int .i64 c, .int .i64 s, .slice A n cp] 30)
  have HK := Lib.hid hk
  clear hk
  go_enter Tryd.func50, Tryd.ntmps50
  go_wp2_with fail
  refine (ntvalid_any c s A n cp _).mono ?_
  rw [HK.out]
  rintro e w1 ⟨rfl, hb1⟩
  go_wp2
  go_ret
  exact ⟨rfl, bl_trans hb hb1⟩
set_option maxRecDepth 100000 in
set_option maxHeartbeats 1600000 in
theorem nttext_yes (c s : Int) (A : Option Addr) (n cp : Nat) (xs : List Int) (w : World) (ht : Tens w) (hN : NNames w) (hx : Bytes w w.heap.size A n xs) (hk : ntOk c s n = true) :
    Calls Tryd.prog 50 #[.agg #[.int .i64 c, .int .i64 s, .slice A n cp]] w fun e w' => e = .returned (.string (ntText c s xs)) ∧ Below w.heap.size w w' := by
  obtain ⟨⟨c0, c1⟩, ⟨s0, s1⟩, hn⟩ := ntOk_iff.1 hk
  have HK := Lib.hid hk
  have HX := Lib.hid hx
  have z1 := ntName_size c s
  have z2 := decB_size (n := c) (by omega)
  have z3 := decB_size (n := s) (by omega)
  have z4 := ntHead_size c1 s1
  have z5 : (hexB xs).size ≤ 2000000 := by rw [hexB_size]; have := hx.1; omega
  clear hk hx
  have hb := bl_alloc (bl_refl w) (.cells #[.int .i64 c, .int .i64 s, .slice A n cp] 30)
  have o0 := Own.new w 30 #[.int .i64 c, .int .i64 s, .slice A n cp]
  have n1 : ¬ 9223372036854775807 < (ntName c s).size + 1 := by omega
  have n2 : ¬ 9223372036854775807 < (ntName c s).size + 1 + (decB c).size := by omega
  have n3 : ¬ 9223372036854775807 < (ntName c s).size + 1 + (decB c).size + 1 := by omega
  have n4 : ¬ 9223372036854775807 < (ntName c s).size + 1 + (decB c).size + 1 + (decB s).size := by omega
  go_enter Tryd.func50, Tryd.ntmps50
  go_wp2_with fail
  refine (ntvalid_any c s A n cp _).mono ?_
  rw [HK.out]
  rintro e w1 ⟨rfl, hb1⟩
  have o1 := o0.step hb1
  obtain ⟨d0, d1, d2⟩ := nt_cells o1
  have hb2 := bl_trans hb hb1
  have ht1 := ht.below hb2
  have hN1 := hN.below hb2
  clear hb hb1 o0
  go_wp2_with fail
  have a1 := Lib.hid (rg_of (w := w1) (fun W hW => ntname_any c s W (hN1.below hW)))
  have a2 := Lib.hid (rg_of (w := w1) (fun W hW => itoa_any c c0 (by omega) W (ht1.below hW)))
  have a3 := Lib.hid (rg_of (w := w1) (fun W hW => itoa_any s s0 (by omega) W (ht1.below hW)))
  have q0 := cell_regrown d0
  have q1 := cell_regrown d1
  refine wp_region_quiet_below (by kernel_rfl) (by kernel_rfl) ?_
  repeat (go_big_quiet_step (first | exact a1.out _ _ | exact a2.out _ _ | exact a3.out _ _))
  refine wpQuiet_nil ?_
  rintro _ ⟨⟨dq, osq⟩, rfl⟩
  have hg := below_regrown w1 dq osq
  have o2 := o1.step hg
  have hb3 := bl_trans hb2 hg
  generalize grow (redrawn w1 dq) osq = w2 at *
  clear d0 d1 d2 q0 q1 a1 a2 a3 o1 ht1 hN1 hb2 hg n1 n2 n3 n4
  obtain ⟨d0, d1, d2⟩ := nt_cells o2
  have hx2 := (HX.out.below hb3).more hb3.size
  have hN2 : Hid (ntName c s ++ ⟨#[32]⟩ ++ decB c ++ ⟨#[47]⟩ ++ decB s = ntHead c s) := Lib.hid rfl
  have HT : Hid (ntText c s xs = if xs = [] then ntHead c s else ntHead c s ++ (⟨#[32]⟩ ++ hexB xs)) := Lib.hid rfl
  rw [hN2.out]
  generalize ntHead c s = V at *
  clear hN2
  by_cases hn0 : n = 0
  · have hxs : xs = [] := List.length_eq_zero_iff.1 (by rw [← HX.out.1]; exact hn0)
    subst hn0
    have HT2 := Lib.hid (show ntText c s xs = V by rw [HT.out, if_pos hxs])
    clear hxs
    go_wp2
    go_ret
    exact ⟨by rw [HT2.out]; rfl, hb3⟩
  · have m0 : ¬ 9223372036854775807 < 1 + (hexB xs).size := by omega
    have m1 : ¬ 9223372036854775807 < V.size + (1 + (hexB xs).size) := by omega
    have hn1 : (0 : Int) < (n : Int) := by omega
    have hxs : xs ≠ [] := by rintro rfl; exact hn0 (by rw [HX.out.1]; rfl)
    have HT2 := Lib.hid (show ntText c s xs = V ++ (⟨#[32]⟩ ++ hexB xs) by rw [HT.out, if_neg hxs])
    clear hxs HT
    go_wp2_with fail
    refine (hex_any A n cp xs _ hx2 (by omega)).mono ?_
    rintro e w3 ⟨rfl, hb4⟩
    go_wp2
    go_ret
    exact ⟨by rw [HT2.out]; rfl, bl_trans hb3 hb4⟩
theorem text_ex : ntText 3 10 [1] = ⟨#[117, 112, 100, 97, 116, 101, 47, 110, 101, 116, 119, 111, 114, 107, 32, 51, 47, 49, 48, 32, 48, 49]⟩ := by decide +kernel
set_option maxRecDepth 100000 in
theorem alive18_any (w : World) (ht : Tens w) (hN : NNames w) : Calls Tryd.prog 10 #[] w fun e w' => e = .returned (.bool true) ∧ Below w.heap.size w w' := by
  have hb := bl_alloc (bl_refl w) (.cells #[.int .u8 1] 5)
  have o0 := Own.new w 5 #[.int .u8 1]
  have hx := Bytes.of_owned (xs := [1]) o0 (by intro x hx; simp at hx; omega) o0.lt
  have HE := Lib.hid text_ex
  go_enter Tryd.func10, Tryd.ntmps10
  go_wp2_with fail
  refine (nttext_yes 3 10 _ _ _ [1] _ (ht.below hb) (hN.below hb) hx (by decide)).mono ?_
  rw [HE.out]
  rintro e w1 ⟨rfl, hb1⟩
  go_wp2
  go_ret
  exact ⟨rfl, bl_trans hb hb1⟩
end Go.Proofs.YtaopinecidddkaaDoor
