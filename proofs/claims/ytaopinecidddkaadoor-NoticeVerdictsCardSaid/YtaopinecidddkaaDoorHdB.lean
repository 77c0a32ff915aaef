/- slices.Repeat of one byte 255, sixteen times -/
import Derived.Test.YtaopinecidddkaaDoorHdA
import Derived.Deep.RegionLaw
import Derived.Laws.CopyOwn
namespace Go.Proofs.YtaopinecidddkaaDoor
open Go.RowKit

/-- n bytes 255, then zeros, sixteen together. -/
def rep (n : Nat) : List Value := List.replicate n (.int .u8 255) ++ List.replicate (16 - n) (.int .u8 0)
theorem rep_len {n : Nat} (h : n ≤ 16) : (rep n).length = 16 := by simp [rep]; omega
theorem rep_one (n : Nat) : ∀ v ∈ List.replicate n (Value.int .u8 255), v.oneCell' = true := by
  intro v hv
  rw [List.mem_replicate] at hv
  rw [hv.2]; rfl
theorem rep_get {n j : Nat} {v : Value} (h : (List.replicate n (Value.int .u8 255))[j]? = some v) : (rep n).toArray[j]? = some v := by
  have hj := (List.getElem?_eq_some_iff.1 h).1
  rw [List.getElem?_toArray, rep, List.getElem?_append_left hj, h]
theorem rep_src {W : World} {h k : Nat} {T : TypeId} (ok : Own W h T (rep k).toArray) (B : Option Addr) (hB : B = some ⟨h, k, none⟩) : 0 < (List.replicate k (Value.int .u8 255)).length → B = some ⟨h, k, none⟩ ∧ ∃ ad, (some ⟨h, 0, none⟩ : Option Addr) = some ad ∧ ∀ j v, (List.replicate k (Value.int .u8 255))[j]? = some v → W.cell? (ad.add j) = some v := by
  intro _
  refine ⟨hB, _, rfl, fun j v hv => ?_⟩
  rw [Addr.add_lit]
  exact ok.cell (by rw [Nat.zero_add]; exact rep_get hv)
theorem rep_1 : splice (rep 1) 1 (List.replicate 1 (.int .u8 255)) = rep 2 := rfl
theorem rep_2 : splice (rep 2) 2 (List.replicate 2 (.int .u8 255)) = rep 4 := rfl
theorem rep_4 : splice (rep 4) 4 (List.replicate 4 (.int .u8 255)) = rep 8 := rfl
theorem rep_8 : splice (rep 8) 8 (List.replicate 8 (.int .u8 255)) = rep 16 := rfl
end Go.Proofs.YtaopinecidddkaaDoor
