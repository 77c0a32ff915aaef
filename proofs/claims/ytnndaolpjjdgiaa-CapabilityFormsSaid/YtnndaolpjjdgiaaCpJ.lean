/- CapabilityForms: the walk -/
import Derived.Test.YtnndaolpjjdgiaaCpI
namespace Go.Proofs.Ytnndaolpjjdgiaa
open Go.RowKit

set_option maxRecDepth 100000 in
set_option maxHeartbeats 6400000 in
theorem cforms_main (A : Option Addr) (n c : Nat) (ss : List Cp) (w : World) (h : Caps w w.heap.size A n ss) (hm : n ≤ maxLen) :
    Calls Try.prog 3 #[.slice A n c] w fun e w' => e = .returned (.bool true) ∧ Below w.heap.size w w' := by
  have HN := Lib.hid h.1
  have HX := Lib.hid h
  have HF := Lib.hid (few16_any A n c ss w h hm)
  clear h hm
  cases hf : fewCp ss with
  | false =>
    rw [hf] at HF
    clear hf
    go_enter Try.func3, Try.ntmps3
    go_wp2_with fail
    refine HF.out.mono ?_
    rintro e w' ⟨rfl, rfl⟩
    go_wp2_with fail
    refine (alive16_any _).mono ?_
    rintro e w1 ⟨rfl, hb⟩
    go_wp2
    go_ret
    exact ⟨rfl, hb⟩
  | true =>
    rw [hf] at HF
    unfold fewCp at hf
    rw [Bool.and_eq_true, decide_eq_true_eq, List.all_eq_true] at hf
    have HS := Lib.hid (show ∀ s ∈ ss, s.n ≤ 1000 from fun s m => by have := of_decide_eq_true (hf.1 s m); omega)
    have hn40 : n ≤ 40 := by have := hf.2; have := HN.out; omega
    have HGv := Lib.hid (fun W (h : Below w.heap.size w W) => given_any A n c ss W ((HX.out.below h).more h.size) (by omega))
    have HBy := Lib.hid (fun (A' : Option Addr) (c' : Nat) W (h : Caps W W.heap.size A' n ss) => cbytes_any A' n c' ss W h (by omega) HS.out)
    have HVa := Lib.hid (fun (A' : Option Addr) (c' : Nat) W (h : Caps W W.heap.size A' n ss) => cvalid_any A' n c' ss W h (by omega) (fun s m => by have := HS.out s m; omega))
    have HRB := Lib.hid (fun W (h : Below w.heap.size w W) => rcbytes_any A n c ss W ((HX.out.below h).more h.size) (by omega) HS.out)
    have hxl : ∀ s ∈ ss, s.n = s.xs.length := fun s m => (HX.out.2.1 s m).1.1
    have hlen := cpsForm_len (M := 1000) (L := ss) (fun s m => ⟨hxl s m, HS.out s m⟩)
    have hle : ss.length * (1000 + 2) ≤ 40 * 1002 := Nat.mul_le_mul (by have := hf.2; omega) (Nat.le_refl _)
    have HLn := Lib.hid (show ss.all cpOk = true → (cpsForm ss).length ≤ 20000 from fun ho => by
      have h3 := cpsForm_len (M := 255) (L := ss) (fun s m => ⟨hxl s m, (cpOk_iff.1 (List.all_eq_true.1 ho s m)).2.2⟩)
      have h4 : ss.length * (255 + 2) ≤ 40 * 257 := Nat.mul_le_mul (by have := hf.2; omega) (Nat.le_refl _)
      omega)
    have HInv := Lib.hid (show ss.all cpOk = true → readC ((cpsForm ss).length + 1) (cpsForm ss) = some (ss.map cpK) from fun ho => by
      rw [cpsForm_k hxl]
      exact readC_inv _ _ (Nat.lt_succ_self _) (good_of_ok hxl ho))
    clear hf hxl hlen hle
    go_enter Try.func3, Try.ntmps3
    go_wp2_with fail
    refine HF.out.mono ?_
    rintro e w' ⟨rfl, rfl⟩
    go_wp2_with fail
    refine (HGv.out w (bl_refl _)).mono ?_
    rintro e w1 ⟨A1, c1, rfl, hC1, hb1⟩
    go_wp2_with fail
    refine (HBy.out A1 c1 w1 hC1).mono ?_
    rintro e w2 ⟨A2, n2, c2, rfl, hB2, hc2, hb2⟩
    have hb3 := bl_trans hb1 hb2
    clear hC1 hb1 hb2 HF
    go_wp2_with fail
    refine (HRB.out w2 hb3).mono ?_
    rintro e w3 ⟨A3, n3, c3, rfl, hB3, hc3, hb4⟩
    have hb5 := bl_trans hb3 hb4
    have hB2' := (hB2.below hb4).more hb4.size
    clear hB2 hb3 hb4 hc3
    go_wp2_with fail
    refine (HGv.out w3 hb5).mono ?_
    rintro e w4 ⟨A4, c4, rfl, hC4, hb6⟩
    have hb7 := bl_trans hb5 hb6
    have hB2 := (hB2'.below hb6).more hb6.size
    have hB3' := (hB3.below hb6).more hb6.size
    clear hB2' hB3 hb5 hb6
    go_wp2_with fail
    refine (HVa.out A4 c4 w4 hC4).mono ?_
    rintro e w5 ⟨rfl, hb8⟩
    have hb9 := bl_trans hb7 hb8
    have HB2 := Lib.hid ((hB2.below hb8).more hb8.size)
    have HB3 := Lib.hid ((hB3'.below hb8).more hb8.size)
    have hnn : n2 = (if ss.all cpOk = true then cpsForm ss else []).length := hB2.1
    have hnn3 : n3 = (if ss.all cpOk = true then cpsForm ss else []).length := hB3'.1
    have HNN := Lib.hid (And.intro hnn hnn3)
    clear hB2 hB3' hC4 hb7 hb8 hnn hnn3 HGv HBy HVa HRB
    cases ho : ss.all cpOk with
    | false =>
      have HO := Lib.hid ho
      rw [if_neg (by rw [ho]; decide)] at HB2 HB3 HNN
      have HE := Lib.hid (bytesEq_any A2 A3 n2 n3 c2 c3 [] [] w5 _ _ HB2.out HB3.out (by have := HNN.out.1; simp at this; omega) (by have := HNN.out.2; simp at this; omega))
      rw [decide_eq_true rfl] at HE
      have HR := Lib.hid (fun W (h : Below w5.heap.size w5 W) => cread_any A2 n2 c2 [] W ((HB2.out.below h).more h.size) (by have := HNN.out.1; simp at this; omega))
      clear ho
      go_wp2_with fail
      refine HE.out.mono ?_
      rintro e w6 ⟨rfl, m, rfl⟩
      have hb10 : Below w5.heap.size w5 (w5.drewN m) := bl_drewN (bl_refl _) m
      go_wp2_with fail
      refine (HR.out _ hb10).mono ?_
      rintro e w7 ⟨v, L, q, rfl, hrow, hG, hb11⟩
      obtain ⟨A7, c7, rfl⟩ := hrow.form
      have hb12 := bl_trans hb9 (bl_trans hb10 hb11)
      clear hrow hG hb10 hb11 hb9
      go_wp2_with fail
      refine (alive16_any _).mono ?_
      rintro e w8 ⟨rfl, hb13⟩
      have hb14 := bl_trans hb12 hb13
      clear hb12 hb13
      go_wp2
      go_ret
      exact ⟨rfl, hb14⟩
    | true =>
      have HO := Lib.hid ho
      rw [if_pos ho] at HB2 HB3 HNN
      have hl2 := HLn.out ho
      have HL2 := Lib.hid hl2
      have HE := Lib.hid (bytesEq_any A2 A3 n2 n3 c2 c3 (cpsForm ss) (cpsForm ss) w5 _ _ HB2.out HB3.out (by have := HNN.out.1; omega) (by have := HNN.out.2; omega))
      rw [decide_eq_true rfl] at HE
      have HR := Lib.hid (fun W (h : Below w5.heap.size w5 W) => cread_any A2 n2 c2 (cpsForm ss) W ((HB2.out.below h).more h.size) (by have := HNN.out.1; omega))
      have hinv := HInv.out ho
      rw [hinv] at HR
      clear ho hl2 hinv
      go_wp2_with fail
      refine HE.out.mono ?_
      rintro e w6 ⟨rfl, m, rfl⟩
      have hb10 : Below w5.heap.size w5 (w5.drewN m) := bl_drewN (bl_refl _) m
      go_wp2_with fail
      refine (HR.out _ hb10).mono ?_
      rintro e w7 ⟨v, L, q, rfl, hrow, hG, hb11⟩
      obtain ⟨A7, c7, rfl⟩ := hrow.form
      have hC7 := hrow.caps
      have hb12 := bl_trans hb9 (bl_trans hb10 hb11)
      obtain ⟨hmap, rfl⟩ : ss.map cpK = L.map cpK ∧ q = true := by
        rcases hG.out.1 with ⟨h3, rfl⟩ | ⟨h3, _⟩
        · exact ⟨Option.some.inj h3, rfl⟩
        · cases h3
      have HMap := Lib.hid hmap
      have hLl : L.length ≤ 40 := by
        have h3 := congrArg List.length hmap
        rw [List.length_map, List.length_map] at h3
        have := HN.out
        omega
      clear hrow hG hb10 hb11 hb9 hmap
      go_wp2_with fail
      refine (alive16_any _).mono ?_
      rintro e w8 ⟨rfl, hb13⟩
      have hb14 := bl_trans hb12 hb13
      have HBk := Lib.hid (back16_any A7 L.length c7 L w8 (hC7.step hb13) (by omega))
      clear hb12 hb13 hC7
      go_wp2_with fail
      refine HBk.out.mono ?_
      rintro e w9 ⟨A9, c9, rfl, hC9, hb15⟩
      have hb16 := bl_trans hb14 hb15
      have HS2 := Lib.hid (rcsame_any A9 A _ _ c9 c L ss w9 hC9 ((HX.out.below hb16).more hb16.size) (by omega) (by omega))
      rw [decide_eq_true HMap.out.symm] at HS2
      clear hb14 hb15 hC9
      go_wp2_with fail
      refine HS2.out.mono ?_
      rintro e w10 ⟨rfl, hb17⟩
      have hb18 := bl_trans hb16 hb17
      clear hb16 hb17
      go_wp2
      go_ret
      exact ⟨rfl, hb18⟩
end Go.Proofs.Ytnndaolpjjdgiaa
