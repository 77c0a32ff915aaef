/- Addresses: how long their texts are, and that these tell them apart -/
import Derived.Test.YtngeldgohijheaaDoorAdr
import Derived.Test.YtngeldgohijheaaDoorDecL
namespace Go.Proofs.YtngeldgohijheaaDoor
open Go.RowKit Go.Sort

theorem adrB_size (n : Int) : (adrB n).size ≤ 80 := by
  have hl : (wAdr (digitsOf 4 n) 4).length = 4 := wAdr_len (by rw [digitsOf_len]; omega)
  have := joinB_size (k := 19) (s := 1) (xs := wAdr (digitsOf 4 n) 4) (sep := [46]) (fun x hx => by
    unfold wAdr at hx
    obtain ⟨y, hy, rfl⟩ := List.mem_map.1 hx
    have := digitsOf_range 4 n y (List.mem_of_mem_take hy)
    exact decB_size (by omega)) (by simp)
  rw [hl] at this
  exact this
theorem decA_list (n : Int) : (decB n).data.toList = Lib.decDigits n.toNat := by simp [decB]
theorem adrB_list (n : Int) : (adrB n).data.toList = Lib.decDigits (n / 16777216 % 256).toNat ++ 46 :: (Lib.decDigits (n / 65536 % 256).toNat ++ 46 :: (Lib.decDigits (n / 256 % 256).toNat ++ 46 :: Lib.decDigits (n % 256).toNat)) := by
  have hw : wAdr (digitsOf 4 n) 4 = [decB (n / 16777216 % 256), decB (n / 65536 % 256), decB (n / 256 % 256), decB (n % 256)] := by
    unfold wAdr
    rw [digitsOf_4]
    rfl
  unfold adrB
  rw [hw]
  unfold joinB
  simp only [List.map_cons, List.map_nil, decA_list]
  simp [Lib.join]
theorem adrB_inj {m n : Int} (h0 : 0 ≤ m) (h1 : m < 4294967296) (h2 : 0 ≤ n) (h3 : n < 4294967296) (h : adrB m = adrB n) : m = n := by
  have e := congrArg (fun s : ByteArray => s.data.toList) h
  simp only [adrB_list] at e
  obtain ⟨g1, e⟩ := split_first e (dec_free (by decide) _) (dec_free (by decide) _)
  obtain ⟨g2, e⟩ := split_first e (dec_free (by decide) _) (dec_free (by decide) _)
  obtain ⟨g3, g4⟩ := split_first e (dec_free (by decide) _) (dec_free (by decide) _)
  have g1 := dec_inj g1
  have g2 := dec_inj g2
  have g3 := dec_inj g3
  have g4 := dec_inj g4
  omega
theorem decA_inj {m n : Int} (h0 : 0 ≤ m) (h1 : 0 ≤ n) (h : decB m = decB n) : m = n := by
  have e := congrArg (fun s : ByteArray => s.data.toList) h
  simp only [decA_list] at e
  have := dec_inj e
  omega
theorem toList_iffA (a b : ByteArray) : a.toList = b.toList ↔ a = b := by
  rw [ByteArray.toList_eq, ByteArray.toList_eq]
  exact ⟨fun h => ByteArray.ext (Array.ext' h), fun h => by rw [h]⟩
theorem app_inj {p a b : ByteArray} (h : p ++ a = p ++ b) : a = b := by
  have e := congrArg (fun s : ByteArray => s.data.toList) h
  simp at e
  exact ByteArray.ext e
theorem big_digitsA (k x : Int) (hk : 1 ≤ k) (hk4 : k ≤ 4) (h0 : 0 ≤ x) (h1 : x < 256 ^ k.toNat) : big (digitsOf k.toNat x) = x := by
  rcases (by omega : k = 1 ∨ k = 2 ∨ k = 3 ∨ k = 4) with rfl | rfl | rfl | rfl
  · rw [show (1 : Int).toNat = 1 from rfl] at *; rw [digitsOf_1]; simp [big]; simp at h1; omega
  · rw [show (2 : Int).toNat = 2 from rfl] at *; rw [digitsOf_2]; simp [big]; simp at h1; omega
  · rw [show (3 : Int).toNat = 3 from rfl] at *; rw [digitsOf_3]; simp [big]; simp at h1; omega
  · rw [show (4 : Int).toNat = 4 from rfl] at *; rw [digitsOf_4]; simp [big]; simp at h1; omega
end Go.Proofs.YtngeldgohijheaaDoor
