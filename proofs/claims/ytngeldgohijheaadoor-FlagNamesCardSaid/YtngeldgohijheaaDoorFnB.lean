/- peerageref10.Name -/
import Derived.Test.YtngeldgohijheaaDoorFnA
namespace Go.Proofs.YtngeldgohijheaaDoor
open Go.RowKit Go.Sort

theorem ext_dig10 : ∀ k, k < 10 → ByteArray.extract ⟨#[48, 49, 50, 51, 52, 53, 54, 55, 56, 57]⟩ k (k + 1) = ⟨#[hexD k]⟩ := by decide +kernel
theorem nm_low : ∀ k : Fin 33, flagKnown (k.val : Int) = true ∨ fnAt k.val = ⟨#[]⟩ := by decide +kernel
theorem nm_unknown {k : Int} (h : flagKnown k = false) : nmB k = tyB ++ itoB k := by
  unfold nmB
  rw [if_neg]
  rintro ⟨h0, h1, h2⟩
  have := nm_low ⟨k.toNat, by omega⟩
  dsimp only at this
  rw [Int.toNat_of_nonneg h0, h] at this
  rcases this with h3 | h3
  · cases h3
  · exact h2 h3
theorem known_of {k : Int} (h : flagKnown k = true) : k = 1 ∨ k = 2 ∨ k = 3 ∨ k = 4 ∨ k = 5 ∨ k = 6 ∨ k = 7 ∨ k = 8 ∨ k = 9 ∨ k = 10 ∨ k = 14 ∨ k = 15 ∨ k = 16 ∨ k = 17 ∨ k = 18 ∨ k = 32 := by
  unfold flagKnown flagCls at h
  rw [decide_eq_true_iff] at h
  split at h
  · omega
  · split at h
    · omega
    · split at h
      · omega
      · exact absurd rfl h
theorem nm_known : ∀ k ∈ ([1, 2, 3, 4, 5, 6, 7, 8, 9, 10, 14, 15, 16, 17, 18, 32] : List Nat), nmB (k : Int) = fnAt k := by decide +kernel
set_option maxRecDepth 100000 in
set_option maxHeartbeats 3200000 in
theorem rname_known (k : Int) (hk : flagKnown k = true) (w : World) :
    Calls Tryd.prog 33 #[.int .i64 k] w fun e w' => e = .returned (.string (nmB k)) ∧ Below w.heap.size w w' := by
  have hC := Lib.hid (rclass_any k)
  have hx := known_of hk
  rw [hk] at hC
  have HVk := nm_known
  rcases hx with rfl | rfl | rfl | rfl | rfl | rfl | rfl | rfl | rfl | rfl | rfl | rfl | rfl | rfl | rfl | rfl
  all_goals
    go_enter Tryd.func33, Tryd.ntmps33
    go_wp2_with fail
    refine (hC.out _).mono ?_
    rintro e w' ⟨rfl, rfl⟩
    go_wp2
    go_ret
    first
      | exact ⟨rfl, bl_alloc (bl_refl w) _⟩
      | exact ⟨by rw [show nmB _ = fnAt _ from HVk _ (by decide)]; rfl, bl_alloc (bl_refl w) _⟩
set_option maxRecDepth 100000 in
set_option maxHeartbeats 3200000 in
theorem rname_any (k : Int) (h0 : -9223372036854775808 ≤ k) (h1 : k ≤ 9223372036854775807) (w : World) :
    Calls Tryd.prog 33 #[.int .i64 k] w fun e w' => e = .returned (.string (nmB k)) ∧ Below w.heap.size w w' := by
  have hC := Lib.hid (rclass_any k)
  cases hk : flagKnown k
  · rw [hk] at hC
    have HV := Lib.hid (nm_unknown hk)
    unfold tyB itoB at HV
    generalize nmB k = V at *
    generalize flagCls k = cl at *
    clear hk
    by_cases hn : 0 ≤ k
    · have e : Lib.itoa k = Lib.decDigits k.toNat := by unfold Lib.itoa; rw [if_neg (by omega)]
      rw [e] at HV
      have hD := Lib.hid (fun W => rdecimal_any k hn h1 W)
      have hz := decB_size (n := k) h1
      unfold decB at hD hz
      clear e
      generalize (⟨(Lib.decDigits k.toNat).toArray⟩ : ByteArray) = X at *
      have s1 : ¬ 9223372036854775807 < 5 + X.size := by omega
      go_enter Tryd.func33, Tryd.ntmps33
      go_wp2_with fail
      refine (hC.out _).mono ?_
      rintro e w' ⟨rfl, rfl⟩
      go_wp2_with fail
      refine (hD.out _).mono ?_
      rintro e w1 ⟨rfl, hb⟩
      go_wp2
      go_ret
      exact ⟨by rw [HV.out]; rfl, hb⟩
    · have e : Lib.itoa k = 45 :: Lib.decDigits k.natAbs := by unfold Lib.itoa; rw [if_pos (by omega)]
      have hlen : (Lib.decDigits k.natAbs).length ≤ 19 := by rw [Lib.decDigits_length]; exact nd_le 18 k.natAbs (by omega)
      rw [e] at HV
      clear e
      have HD := Lib.hid (show decDigits k.natAbs = Lib.decDigits k.natAbs from rfl)
      go_enter Tryd.func33, Tryd.ntmps33
      go_wp2_with fail
      refine (hC.out _).mono ?_
      rintro e w' ⟨rfl, rfl⟩
      go_wp2
      go_loopw [6, 7] (fun s i wr => ∃ m : Nat, ∃ t : List UInt8, i = .int .i64 (-(m : Int)) ∧ m ≤ k.natAbs ∧ s = .string ⟨t.toArray⟩ ∧ Hid ((if m = 0 then [] else decDigits m) ++ t = decDigits k.natAbs) ∧ Below w.heap.size w wr) (fun _ i _ => (intOf i).natAbs)
      case atStart => exact ⟨k.natAbs, [], by congr 1; omega, Nat.le_refl _, rfl, Lib.hid (by rw [if_neg (by omega), List.append_nil]), bl_refl w⟩
      case round =>
        obtain ⟨m, t, rfl, hm, rfl, HT, hbr⟩ := hrel
        have htl : t.length ≤ 19 := by
          have h2 := congrArg List.length HT.out
          rw [List.length_append, HD.out] at h2
          omega
        by_cases hm0 : m = 0
        · subst hm0
          have ht : Hid (t = decDigits k.natAbs) := Lib.hid (by have := HT.out; simpa using this)
          have HV2 := Lib.hid (show V = ⟨#[84, 89, 80, 69, 32]⟩ ++ ⟨(45 :: t).toArray⟩ by rw [HV.out, ht.out]; rfl)
          have n1 : ¬ 9223372036854775807 < 6 + t.length := by omega
          go_wp2
          go_ret
          refine ⟨?_, hbr⟩
          rw [HV2.out, ba_append [84, 89, 80, 69, 32] (45 :: t)]
          show Ending.returned (.string ((⟨[84, 89, 80, 69, 32, 45].toArray⟩ : ByteArray) ++ ⟨t.toArray⟩)) = _
          rw [ba_append]
          rfl
        · have r3 : m % 10 < 10 := Nat.mod_lt _ (by omega)
          have HE := Lib.hid (ext_dig10 (m % 10) r3)
          have e1 : (-(m : Int)).tmod 10 = -((m % 10 : Nat) : Int) := by rw [Int.neg_tmod]; rfl
          have e2 : (-(m : Int)).tdiv 10 = -((m / 10 : Nat) : Int) := by rw [Int.neg_tdiv]; rfl
          have q0 : ((-(m : Int)) != 0) = true := by simp; omega
          have n1 : ¬ 9223372036854775807 < 1 + t.length := by omega
          go_wp2_with fail
          rw [HE.out, ba_cons]
          refine ⟨⟨m / 10, hexD (m % 10) :: t, by congr 1, by omega, rfl, Lib.hid ?_, hbr⟩, by simp only [intOf]; omega⟩
          have h3 := HT.out
          rw [if_neg hm0, decPre_step] at h3
          unfold decPre at h3
          rw [← h3]
          by_cases h10 : m < 10
          · rw [if_pos (by omega), if_pos h10]
            simp
          · rw [if_neg (by omega), if_neg h10]
            unfold decDigits
            simp
  · exact rname_known k hk w
end Go.Proofs.YtngeldgohijheaaDoor
