/- flag.Name and its reference -/
import Derived.Test.YtngeldgohijheaaDoorFlF
import Derived.Test.YtngeldgohijheaaDoorDec
import Derived.Test.YtngeldgohijheaaDoorTen
namespace Go.Proofs.YtngeldgohijheaaDoor
open Go.RowKit Go.Sort

/-- The names of the types. -/
def FNT : List ByteArray := [⟨#[]⟩, ⟨#[79, 82, 73, 71, 73, 78]⟩, ⟨#[65, 83, 95, 80, 65, 84, 72]⟩, ⟨#[78, 69, 88, 84, 95, 72, 79, 80]⟩, ⟨#[77, 85, 76, 84, 73, 95, 69, 88, 73, 84, 95, 68, 73, 83, 67]⟩, ⟨#[76, 79, 67, 65, 76, 95, 80, 82, 69, 70]⟩, ⟨#[65, 84, 79, 77, 73, 67, 95, 65, 71, 71, 82, 69, 71, 65, 84, 69]⟩, ⟨#[65, 71, 71, 82, 69, 71, 65, 84, 79, 82]⟩, ⟨#[67, 79, 77, 77, 85, 78, 73, 84, 73, 69, 83]⟩, ⟨#[79, 82, 73, 71, 73, 78, 65, 84, 79, 82, 95, 73, 68]⟩, ⟨#[67, 76, 85, 83, 84, 69, 82, 95, 76, 73, 83, 84]⟩, ⟨#[]⟩, ⟨#[]⟩, ⟨#[]⟩, ⟨#[77, 80, 95, 82, 69, 65, 67, 72, 95, 78, 76, 82, 73]⟩, ⟨#[77, 80, 95, 85, 78, 82, 69, 65, 67, 72, 95, 78, 76, 82, 73]⟩, ⟨#[69, 88, 84, 69, 78, 68, 69, 68, 95, 67, 79, 77, 77, 85, 78, 73, 84, 73, 69, 83]⟩, ⟨#[65, 83, 52, 95, 80, 65, 84, 72]⟩, ⟨#[65, 83, 52, 95, 65, 71, 71, 82, 69, 71, 65, 84, 79, 82]⟩, ⟨#[]⟩, ⟨#[]⟩, ⟨#[]⟩, ⟨#[]⟩, ⟨#[]⟩, ⟨#[]⟩, ⟨#[]⟩, ⟨#[]⟩, ⟨#[]⟩, ⟨#[]⟩, ⟨#[]⟩, ⟨#[]⟩, ⟨#[]⟩, ⟨#[76, 65, 82, 71, 69, 95, 67, 79, 77, 77, 85, 78, 73, 84, 89]⟩]
def fnAt (k : Nat) : ByteArray := FNT.getD k ⟨#[]⟩
/-- What the walks ask of the table. -/
def FNames (w : World) : Prop := (∀ k, k < 33 → w.cell? ⟨0, k, none⟩ = some (.string (fnAt k))) ∧ 0 < w.heap.size
theorem FNames.below {w w' : World} (h : FNames w) (hb : Below w.heap.size w w') : FNames w' :=
  ⟨fun c hc => (hb.cell (by exact h.2)).trans (h.1 c hc), Nat.lt_of_lt_of_le h.2 hb.size⟩
def itoB (n : Int) : ByteArray := ⟨(Lib.itoa n).toArray⟩
def tyB : ByteArray := ⟨#[84, 89, 80, 69, 32]⟩
def nmB (k : Int) : ByteArray := if 0 ≤ k ∧ k < 33 ∧ fnAt k.toNat ≠ ⟨#[]⟩ then fnAt k.toNat else tyB ++ itoB k
theorem fn_empty {s : ByteArray} (h : s ≠ ⟨#[]⟩) : s.toList.isEmpty = false := by
  cases e : s.toList with
  | nil =>
    exfalso
    apply h
    rw [ByteArray.toList_eq] at e
    obtain ⟨d⟩ := s
    have : d = #[] := by simpa using e
    rw [this]
  | cons a l => rfl
theorem itoB_size {k : Int} (h0 : -9223372036854775808 ≤ k) (h1 : k ≤ 9223372036854775807) : (itoB k).size ≤ 20 := by
  show (Lib.itoa k).toArray.size ≤ 20
  rw [List.size_toArray]
  unfold Lib.itoa
  split
  · have h2 := nd_le 18 k.natAbs (by omega)
    rw [List.length_cons, Lib.decDigits_length]
    omega
  · rw [Lib.decDigits_length]
    have h2 := nd_le 18 k.toNat (by omega)
    omega
set_option maxRecDepth 100000 in
set_option maxHeartbeats 1600000 in
theorem fname_any (k : Int) (h0 : -9223372036854775808 ≤ k) (h1 : k ≤ 9223372036854775807) (w : World) (ht : Tens w) (hn : FNames w) :
    Calls Tryd.prog 32 #[.int .i64 k] w fun e w' => e = .returned (.string (nmB k)) ∧ Below w.heap.size w w' := by
  have hI := Lib.hid (fun (W : World) (hW : Below w.heap.size w W) => Tryd.strconv_Itoa k h0 h1 W (ht.below hW))
  have hz := itoB_size h0 h1
  unfold itoB at hz
  by_cases hk : 0 ≤ k ∧ k < 33
  · obtain ⟨j, rfl⟩ := Int.eq_ofNat_of_zero_le hk.1
    have hj : j < 33 := by omega
    have q1 : ¬ ((j : Int) < 0) := by omega
    have q2 : ¬ ((33 : Int) ≤ (j : Int)) := by omega
    have q3 : ¬ (33 ≤ j) := by omega
    have c0 := hn.1 j hj
    have hO : Hid (nmB (j : Int) = if 0 ≤ (j : Int) ∧ (j : Int) < 33 ∧ fnAt ((j : Int)).toNat ≠ ⟨#[]⟩ then fnAt ((j : Int)).toNat else tyB ++ itoB j) := Lib.hid rfl
    rw [Int.toNat_natCast] at hO
    generalize nmB (j : Int) = V at *
    generalize fnAt j = s at *
    by_cases hs : s = ⟨#[]⟩
    · subst hs
      have hV : V = tyB ++ itoB j := by rw [hO.out]; simp
      have HV := Lib.hid hV
      clear hV
      unfold tyB at HV
      go_enter Tryd.func32, Tryd.ntmps32
      go_wp2_with fail
      refine (hI.out _ (bl_refl w)).mono ?_
      rintro e w1 ⟨rfl, kk, os, rfl⟩
      unfold itoB at HV
      generalize (⟨(Lib.itoa (j : Int)).toArray⟩ : ByteArray) = X at *
      have s1 : ¬ 9223372036854775807 < 5 + X.size := by omega
      go_wp2
      go_ret
      exact ⟨by rw [HV.out]; rfl, Lib.below_grow _ _ (Nat.le_refl _) _ _⟩
    · have hse := fn_empty hs
      have hV : V = s := by rw [hO.out, if_pos ⟨by omega, by omega, hs⟩]
      have HV := Lib.hid hV
      clear hV hs
      go_enter Tryd.func32, Tryd.ntmps32
      go_wp2
      go_ret
      exact ⟨by rw [HV.out]; rfl, bl_refl w⟩
  · have hV : nmB k = tyB ++ itoB k := by unfold nmB; rw [if_neg (fun h => hk ⟨h.1, h.2.1⟩)]
    have HV := Lib.hid hV
    unfold itoB tyB at HV
    generalize nmB k = V at *
    clear hV
    generalize (⟨(Lib.itoa k).toArray⟩ : ByteArray) = X at *
    have s1 : ¬ 9223372036854775807 < 5 + X.size := by omega
    by_cases hn0 : k < 0
    · go_enter Tryd.func32, Tryd.ntmps32
      go_wp2_with fail
      refine (hI.out _ (bl_refl w)).mono ?_
      rintro e w1 ⟨rfl, kk, os, rfl⟩
      go_wp2
      go_ret
      exact ⟨by rw [HV.out]; rfl, Lib.below_grow _ _ (Nat.le_refl _) _ _⟩
    · have q2 : 33 ≤ k := by omega
      go_enter Tryd.func32, Tryd.ntmps32
      go_wp2_with fail
      refine (hI.out _ (bl_refl w)).mono ?_
      rintro e w1 ⟨rfl, kk, os, rfl⟩
      go_wp2
      go_ret
      exact ⟨by rw [HV.out]; rfl, Lib.below_grow _ _ (Nat.le_refl _) _ _⟩
end Go.Proofs.YtngeldgohijheaaDoor
