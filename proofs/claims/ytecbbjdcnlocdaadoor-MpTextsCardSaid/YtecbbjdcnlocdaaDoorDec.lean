/- peerageref02.digits at base 10 -/
import Derived.Test.YtecbbjdcnlocdaaDoorTen
import Derived.IntWalk
namespace Go.Proofs.YtecbbjdcnlocdaaDoor
open Go.RowKit Go.Sort

/-- A digit. -/
def hexD (k : Nat) : UInt8 := if k < 10 then UInt8.ofNat (48 + k) else UInt8.ofNat (87 + k)
theorem ext_digitN : ∀ k, k < 16 → ByteArray.extract ⟨#[48, 49, 50, 51, 52, 53, 54, 55, 56, 57, 97, 98, 99, 100, 101, 102]⟩ k (k + 1) = ⟨#[hexD k]⟩ := by decide +kernel
theorem ext_digit (d : Int) (h0 : 0 ≤ d) (h1 : d < 16) : ByteArray.extract ⟨#[48, 49, 50, 51, 52, 53, 54, 55, 56, 57, 97, 98, 99, 100, 101, 102]⟩ d.toNat (d + 1).toNat = ⟨#[hexD d.toNat]⟩ := by
  have e : (d + 1).toNat = d.toNat + 1 := by omega
  rw [e]
  exact ext_digitN _ (by omega)
theorem ba_append (s t : List UInt8) : (⟨s.toArray⟩ ++ ⟨t.toArray⟩ : ByteArray) = ⟨(s ++ t).toArray⟩ := by
  apply ByteArray.ext
  simp
theorem ba_cons (x : UInt8) (t : List UInt8) : (⟨#[x]⟩ ++ ⟨t.toArray⟩ : ByteArray) = ⟨(x :: t).toArray⟩ := ba_append [x] t
theorem dg_range (b n : Int) (_h0 : 0 ≤ n) (hb : 0 < b) : 0 ≤ n % b ∧ n % b < b := ⟨Int.emod_nonneg _ (by omega), Int.emod_lt_of_pos _ hb⟩
def decDigits (n : Nat) : List UInt8 := Lib.decDigits n
def decPre (k : Nat) : List UInt8 := if k < 10 then [] else Lib.decDigits (k / 10)
theorem decPre_small {k : Nat} (h : k < 10) : decPre k = [] := if_pos h
theorem decPre_step (k : Nat) : decDigits k = decPre k ++ [hexD (k % 10)] := by
  unfold decDigits decPre hexD
  rw [if_pos (Nat.mod_lt _ (by omega))]
  by_cases h : k < 10
  · rw [if_pos h, Lib.decDigits_one h, Nat.mod_eq_of_lt h]; rfl
  · rw [if_neg h]
    conv => lhs; unfold Lib.decDigits
    rw [dif_neg h]
theorem decPre_len {n : Int} {k : Nat} {t : List UInt8} (h : decDigits n.toNat = decPre k ++ t) (h1 : n ≤ 9223372036854775807) : t.length ≤ 19 := by
  have := dec_len h1
  unfold decDigits at h
  rw [h, List.length_append] at this
  omega
set_option maxRecDepth 100000 in
set_option maxHeartbeats 800000 in
theorem rdigits10_any (n : Int) (h0 : 0 ≤ n) (h1 : n ≤ 9223372036854775807) (w : World) :
    Calls Tryd.prog 61 #[.int .i64 n, .int .i64 10] w fun e w' => e = .returned (.string (decB n)) ∧ Below w.heap.size w w' := by
  have r0 := dg_range 10 n h0 (by omega)
  have r1 := r0.1
  have r2 := r0.2
  have HD := Lib.hid (ext_digit (n % 10) (by omega) (by omega))
  have w1' : IntKind.i64.wrap (n % 10 + 1) = n % 10 + 1 := IntWalk.i64_in _ (by omega)
  clear r0
  go_enter Tryd.func61, Tryd.ntmps61
  go_wp2_with fail
  refine wp_region_quiet_below (by kernel_rfl) (by kernel_rfl) ?_
  repeat (go_big_quiet_step (fail))
  rw [HD.out]
  refine wpQuiet_nil ?_
  rintro _ ⟨⟨dq, osq⟩, rfl⟩
  have hb1 := below_regrown w dq osq
  generalize grow (redrawn w dq) osq = w1 at *
  clear r1 r2 HD w1'
  go_wp2
  go_loopw [0, 5] (fun m s wr => ∃ k : Nat, ∃ t : List UInt8, (k : Int) ≤ n ∧ m = .int .i64 k ∧ s = .string ⟨t.toArray⟩ ∧ Hid (decDigits n.toNat = decPre k ++ t) ∧ Below w.heap.size w wr) (fun m _ _ => (intOf m).toNat)
  case atStart => exact ⟨n.toNat, [hexD (n % 10).toNat], by omega, by rw [Int.toNat_of_nonneg h0], rfl, Lib.hid (by rw [decPre_step, Int.toNat_emod h0 (by omega)]; rfl), hb1⟩
  case round =>
    obtain ⟨k, t, hk, rfl, rfl, HT, hbr⟩ := hrel
    have htl := decPre_len HT.out (by omega)
    clear hb1
    by_cases hlt : (k : Int) < 10
    · have ht : Hid (decDigits n.toNat = t) := Lib.hid (by rw [HT.out, decPre_small (by omega)]; rfl)
      go_wp2
      go_ret
      refine ⟨?_, hbr⟩
      unfold decB
      rw [show Lib.decDigits n.toNat = t from ht.out]
      rfl
    · have r0 := dg_range 10 ((k : Int) / 10) (by omega) (by omega)
      have r1 := r0.1
      have r2 := r0.2
      have HD := Lib.hid (ext_digitN (k / 10 % 10) (by omega))
      have w1' : IntKind.i64.wrap ((k : Int) / 10 % 10 + 1) = (k : Int) / 10 % 10 + 1 := IntWalk.i64_in _ (by omega)
      have n1 : ¬ 9223372036854775807 < 1 + t.length := by omega
      clear r0
      go_wp2_with fail
      refine wp_region_quiet_below (by kernel_rfl) (by kernel_rfl) ?_
      repeat (go_big_quiet_step (fail))
      rw [HD.out]
      refine wpQuiet_nil ?_
      rintro _ ⟨⟨dq2, osq2⟩, rfl⟩
      have hb2 := bl_trans hbr (below_regrown wr dq2 osq2)
      generalize grow (redrawn wr dq2) osq2 = w2 at *
      go_roundw
      case rel =>
        (repeat apply Exists.intro)
        refine ⟨⟨k / 10, hexD (k / 10 % 10) :: t, by omega, by go_num, ?_, Lib.hid ?_, hb2⟩, rfl⟩
        · exact congrArg Value.string (ba_cons _ _)
        · rw [HT.out]
          have e : decPre k = decPre (k / 10) ++ [hexD (k / 10 % 10)] := by rw [← decPre_step]; exact if_neg (by omega)
          rw [e]
          simp
      case measure => simp [intOf]; omega
set_option maxRecDepth 100000 in
theorem rdecimal_any (n : Int) (h0 : 0 ≤ n) (h1 : n ≤ 9223372036854775807) (w : World) :
    Calls Tryd.prog 49 #[.int .i64 n] w fun e w' => e = .returned (.string (decB n)) ∧ Below w.heap.size w w' := by
  go_enter Tryd.func49, Tryd.ntmps49
  go_wp2_with fail
  refine (rdigits10_any n h0 h1 w).mono ?_
  rintro e w1 ⟨rfl, hb1⟩
  go_wp2
  go_ret
  exact ⟨rfl, hb1⟩
end Go.Proofs.YtecbbjdcnlocdaaDoor
