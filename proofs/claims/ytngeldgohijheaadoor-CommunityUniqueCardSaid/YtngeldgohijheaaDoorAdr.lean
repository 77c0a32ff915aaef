/- basic.Address and its reference -/
import Derived.Test.YtngeldgohijheaaDoorFmt
import Derived.Test.YtngeldgohijheaaDoorDec
namespace Go.Proofs.YtngeldgohijheaaDoor
open Go.RowKit Go.Sort

set_option maxRecDepth 100000 in
theorem sl_strA : SliceOf Tryd.prog 65 9 1 16 := SliceOf.mk Tryd.underlying65 (z := .string ⟨#[]⟩) (by kernel_rfl) rfl (by decide)
/-- The first words of an address. -/
def wAdr (a : List Int) (k : Nat) : List ByteArray := (a.take k).map decB
theorem wAdr_len {a : List Int} {k : Nat} (h : k ≤ a.length) : (wAdr a k).length = k := by simp [wAdr]; omega
theorem wAdr_step {a : List Int} {k : Nat} (hk : k < a.length) : wAdr a (k + 1) = wAdr a k ++ [decB (nth a k)] := by
  unfold wAdr
  rw [take_nth hk, List.map_append]
  rfl
/-- The text of an address. -/
def adrB (n : Int) : ByteArray := joinB (wAdr (digitsOf 4 n) 4) [46]
theorem adr_range (n : Int) {k : Nat} (hk : k < 4) : 0 ≤ nth (digitsOf 4 n) k ∧ nth (digitsOf 4 n) k ≤ 255 := digitsOf_range 4 n _ (nth_mem (by rw [digitsOf_len]; exact hk))
set_option maxRecDepth 100000 in
set_option maxHeartbeats 1600000 in
theorem badr_any (n : Int) (h0 : 0 ≤ n) (h1 : n < 4294967296) (w : World) (ht : Tens w) :
    Calls Tryd.prog 68 #[.int .u32 n] w fun e w' => e = .returned (.string (adrB n)) ∧ Below w.heap.size w w' := by
  have hO : Hid (adrB n = joinB (wAdr (digitsOf 4 n) 4) [46]) := Lib.hid rfl
  have hl4 := Lib.hid (digitsOf_len 4 n)
  have hrg := Lib.hid (fun (k : Nat) (hk : k < 4) => adr_range n hk)
  have hst := Lib.hid (fun (k : Nat) (hk : k < 4) => wAdr_step (a := digitsOf 4 n) (k := k) (by rw [digitsOf_len]; exact hk))
  have hwl := Lib.hid (wAdr_len (a := digitsOf 4 n) (k := 4) (by rw [digitsOf_len]; omega))
  have hws := Lib.hid (show ∀ x ∈ wAdr (digitsOf 4 n) 4, x.data.toList.length ≤ 19 by
    intro x hx
    obtain ⟨y, hy, rfl⟩ := List.mem_map.1 hx
    have := digitsOf_range 4 n y (List.mem_of_mem_take hy)
    have := decB_size (n := y) (by omega)
    rw [Array.length_toList]
    exact this)
  go_enter Tryd.func68, Tryd.ntmps68
  go_wp2_with fail
  refine (put_yes 4 n w (by omega) (by omega) h0 h1).mono ?_
  rw [show (4 : Int).toNat = 4 from rfl]
  rintro e w1 ⟨rfl, ho, hb1⟩
  generalize digitsOf 4 n = D at *
  have hown0 : w1.ownsRow (w.heap.size + 1) 9 1 (.slice none 0 0) 0 ((wAdr D 0).map Value.string) := by
    unfold wAdr
    exact World.ownsRow_nil _ _ _ _
  have hl1 := ho.lt
  go_wp2_with fail
  go_loopw [5, 15] (fun v i wr => ∃ k : Nat, k ≤ 4 ∧ i = .int .i64 k ∧ wr.ownsRow (w.heap.size + 1) 9 1 v k ((wAdr D k).map Value.string) ∧ Own wr w.heap.size 5 (D.map (Value.int .u8)).toArray ∧ Below w.heap.size w wr) (fun _ i _ => 4 - (intOf i).toNat)
  case atStart => exact ⟨0, by omega, rfl, hown0, ho, hb1⟩
  case round =>
    obtain ⟨k, hkz, rfl, hown, hor, hbr⟩ := hrel
    clear ho hb1 hown0 hl1
    by_cases hlt : k < 4
    · have hcell := hor.cell (i := k) (v := .int .u8 (nth D k)) (by simp [nth_some (show k < D.length by rw [hl4.out]; exact hlt)])
      have hr := hrg.out k hlt
      have hv : IntKind.i64.wrap (nth D k) = nth D k := by rw [IntKind.wrap_i64]; omega
      have hs := Lib.hid (hst.out k hlt)
      have htr := ht.below hbr
      have hl := hor.lt
      go_wp2_with fail
      refine (itoa_any (nth D k) hr.1 (by omega) _ htr).mono ?_
      rintro e w2 ⟨rfl, hb2⟩
      have hown1 := hown.kept (only_of_below hb2 none) (Classical.em _)
      have hor1 := hor.step hb2
      have hbr1 := bl_trans hbr hb2
      have hbs := hb2.size
      clear hown hor hbr hb2 hcell
      go_wp2_with (at_builtin; refine wpList_append_grow _ rfl _ _ rfl sl_strA (w.heap.size + 1) _ _ _ rfl (hown1.alloc _) (w2.heap.size + 1) (some ⟨w2.heap.size, 0, none⟩) 1 1 [_] rfl rfl (Shows.of_owned (Own.new _ _ _) (by omega)) (one1 rfl) (by unfold maxLen; omega) (by omega) (by simp; omega) ?_; intro v1 w3 hown2 hgrow2)
      have hb3 : Below w.heap.size w w3 := (hbr1.alloc hbr1.size _).grown hgrow2 (by simp; omega) (fun j hj => Nat.le_trans (by omega) (own_base hown1 j hj))
      have hor2 : Own w3 w.heap.size 5 (D.map (Value.int .u8)).toArray := (hor1.alloc _).grown hgrow2 (by intro e; have := own_base hown1 _ e.symm; omega)
      go_roundw
      case rel =>
        refine ⟨k + 1, by omega, by go_num, ?_, hor2, hb3⟩
        rw [hs.out, List.map_append]
        exact hown2
      case measure => simp [intOf]; omega
    · obtain rfl : k = 4 := by omega
      have HJ := Lib.hid (show wr.ownsRow (w.heap.size + 1) 9 1 _ (wAdr D 4).length ((wAdr D 4).map Value.string) by rw [hwl.out]; exact hown)
      clear hown
      go_wp2_with fail
      refine (join_row 19 ⟨#[46]⟩ HJ.out (by rw [hwl.out]; omega) hws.out (by omega) (by decide)).mono ?_
      rintro e w2 ⟨rfl, hb2⟩
      go_wp2
      go_ret
      exact ⟨by rw [hO.out]; rfl, bl_trans hbr hb2⟩
/-- The first words of an address, with dots. -/
def jAdr (D : List Int) (k : Nat) : ByteArray := joinB (wAdr D k) [46]
theorem jAdr_zero (D : List Int) : jAdr D 0 = ⟨#[]⟩ := rfl
theorem lib_join_snoc (sep : List UInt8) : ∀ (xs : List (List UInt8)) (y : List UInt8), xs ≠ [] → Lib.join (xs ++ [y]) sep = Lib.join xs sep ++ sep ++ y
  | [], _, h => absurd rfl h
  | [x], y, _ => by simp [Lib.join]
  | x :: z :: r, y, _ => by
    have := lib_join_snoc sep (z :: r) y (by simp)
    simp [Lib.join] at this ⊢
    rw [this]
theorem jAdr_one {D : List Int} (h : 0 < D.length) : jAdr D 1 = ⟨#[]⟩ ++ decB (nth D 0) := by
  unfold jAdr joinB
  rw [wAdr_step h]
  apply ByteArray.ext
  simp [wAdr, Lib.join_one]
theorem jAdr_step {D : List Int} {k : Nat} (h : k < D.length) (h1 : 1 ≤ k) : jAdr D (k + 1) = jAdr D k ++ ⟨#[46]⟩ ++ decB (nth D k) := by
  unfold jAdr joinB
  rw [wAdr_step h, List.map_append]
  have hne : (wAdr D k).map (fun x : ByteArray => x.data.toList) ≠ [] := by
    intro e
    have := congrArg List.length e
    rw [List.length_map, wAdr_len (by omega)] at this
    simp at this
    omega
  rw [show [decB (nth D k)].map (fun x : ByteArray => x.data.toList) = [(decB (nth D k)).data.toList] from rfl, lib_join_snoc _ _ _ hne]
  apply ByteArray.ext
  simp
theorem jAdr_size {D : List Int} (hr : ∀ x ∈ D, 0 ≤ x ∧ x ≤ 255) {k : Nat} (hk : k ≤ 4) : (jAdr D k).size ≤ 80 := by
  have h := joinB_size (k := 19) (s := 1) (xs := wAdr D k) (sep := [46]) (by
    intro x hx
    obtain ⟨y, hy, rfl⟩ := List.mem_map.1 hx
    have := hr y (List.mem_of_mem_take hy)
    exact decB_size (by omega)) (by simp)
  have hl : (wAdr D k).length ≤ 4 := by unfold wAdr; rw [List.length_map, List.length_take]; omega
  unfold jAdr
  have := Nat.mul_le_mul (Nat.le_refl 20) hl
  omega
set_option maxRecDepth 100000 in
set_option maxHeartbeats 1600000 in
theorem rbadr_any (n : Int) (h0 : 0 ≤ n) (h1 : n < 4294967296) (w : World) :
    Calls Tryd.prog 72 #[.int .u32 n] w fun e w' => e = .returned (.string (adrB n)) ∧ Below w.heap.size w w' := by
  have hO : Hid (adrB n = jAdr (digitsOf 4 n) 4) := Lib.hid rfl
  have hl4 := Lib.hid (digitsOf_len 4 n)
  have hrg := Lib.hid (digitsOf_range 4 n)
  go_enter Tryd.func72, Tryd.ntmps72
  go_wp2_with fail
  refine (of_any 4 n w (by omega) (by omega) h0 h1).mono ?_
  rw [show (4 : Int).toNat = 4 from rfl]
  rintro e w1 ⟨v, rfl, ho, hb1⟩
  obtain ⟨A, c, rfl, hc, hs⟩ := own_val ho
  generalize digitsOf 4 n = D at *
  have hB : Bytes w1 w1.heap.size A 4 D := ⟨hl4.out.symm, hrg.out, hs⟩
  have HB := Lib.hid hB
  clear ho hs hB
  go_wp2_with fail
  go_loopw [4, 5] (fun s i wr => ∃ k : Nat, k ≤ 4 ∧ i = .int .i64 k ∧ s = .string (jAdr D k) ∧ Below w1.heap.size w1 wr) (fun _ i _ => 4 - (intOf i).toNat)
  case atStart => exact ⟨0, by omega, rfl, by rw [jAdr_zero], bl_refl w1⟩
  case round =>
    obtain ⟨k, hkz, rfl, rfl, hbr⟩ := hrel
    by_cases hlt : k < 4
    · obtain ⟨b, o, rfl, hb, hc2, r0, r1⟩ := (HB.out.below hbr).at_ (k := k) hlt
      have hsz := jAdr_size hrg.out (k := k) (by omega)
      have hv : IntKind.i64.wrap (nth D k) = nth D k := by rw [IntKind.wrap_i64]; omega
      have hdz := decB_size (n := nth D k) (by omega)
      rcases Nat.eq_zero_or_pos k with hk | hk
      · have hS := Lib.hid (show jAdr D (k + 1) = jAdr D k ++ decB (nth D k) by subst hk; exact jAdr_one (by rw [hl4.out]; omega))
        have d : decide ((0 : Int) < (k : Int)) = false := by simp; omega
        have d2 : ¬ 0 < k := by omega
        generalize jAdr D k = J at *
        have n1 : ¬ 9223372036854775807 < J.size + (decB (nth D k)).size := by omega
        have hkk := Lib.hid hk
        clear hk
        go_wp2_with fail
        refine (rdecimal_any (nth D k) r0 (by omega) _).mono ?_
        rintro e w2 ⟨rfl, hb2⟩
        go_wp2
        go_roundw
        case rel => exact ⟨k + 1, by omega, by go_num, by rw [hS.out], bl_trans hbr hb2⟩
        case measure => simp [intOf]; omega
      · have hS := Lib.hid (jAdr_step (D := D) (k := k) (by rw [hl4.out]; omega) hk)
        have d : decide ((0 : Int) < (k : Int)) = true := by simp; omega
        generalize jAdr D k = J at *
        have n1 : ¬ 9223372036854775807 < J.size + 1 := by omega
        have n2 : ¬ 9223372036854775807 < J.size + 1 + (decB (nth D k)).size := by omega
        go_wp2_with fail
        refine (rdecimal_any (nth D k) r0 (by omega) _).mono ?_
        rintro e w2 ⟨rfl, hb2⟩
        go_wp2
        go_roundw
        case rel => exact ⟨k + 1, by omega, by go_num, by rw [hS.out], bl_trans hbr hb2⟩
        case measure => simp [intOf]; omega
    · obtain rfl : k = 4 := by omega
      go_wp2
      go_ret
      exact ⟨by rw [hO.out]; rfl, bl_trans hb1 hbr⟩
end Go.Proofs.YtngeldgohijheaaDoor
