/- refresh.Valid: the masks, structs of three ints compared, equal or not -/
import Derived.Test.YtniheakafkakhaaDoorRfA
import Derived.Laws.StructEq
namespace Go.Proofs.YtniheakafkakhaaDoor
open Go.RowKit Extern.Stop

theorem and_mask16 (x : Int) : bits BinOp.and IntKind.i64 x 65535 = x % 65536 := by
  show IntKind.i64.wrap ((BitVec.ofInt 64 x &&& BitVec.ofInt 64 (65535 : Int)).toNat : Int) = _
  have h1 : (BitVec.ofInt 64 (65535 : Int)).toNat = 2 ^ 16 - 1 := by decide
  rw [BitVec.toNat_and, h1, Nat.and_two_pow_sub_one_eq_mod, BitVec.toNat_ofInt, IntKind.wrap_i64]
  rw [show ((2 ^ 64 : Nat) : Int) = 18446744073709551616 from rfl, show (2 ^ 16 : Nat) = 65536 from rfl]
  omega
theorem and_mask8 (x : Int) : bits BinOp.and IntKind.i64 x 255 = x % 256 := by
  show IntKind.i64.wrap ((BitVec.ofInt 64 x &&& BitVec.ofInt 64 (255 : Int)).toNat : Int) = _
  have h1 : (BitVec.ofInt 64 (255 : Int)).toNat = 2 ^ 8 - 1 := by decide
  rw [BitVec.toNat_and, h1, Nat.and_two_pow_sub_one_eq_mod, BitVec.toNat_ofInt, IntKind.wrap_i64]
  rw [show ((2 ^ 64 : Nat) : Int) = 18446744073709551616 from rfl, show (2 ^ 8 : Nat) = 256 from rfl]
  omega
theorem three_fields {fs : List Field} {n1 n2 n3 : String} {t1 t2 t3 : TypeId} {o1 o2 o3 : Nat} (hf : fs.map (fun x => (x.name, x.type, x.offset)) = [(n1, t1, o1), (n2, t2, o2), (n3, t3, o3)]) :
    ∃ f1 f2 f3 : Field, fs = [f1, f2, f3] ∧ (f1.name = n1 ∧ f1.type = t1 ∧ f1.offset = o1) ∧ (f2.name = n2 ∧ f2.type = t2 ∧ f2.offset = o2) ∧ f3.name = n3 ∧ f3.type = t3 ∧ f3.offset = o3 := by
  obtain ⟨f1, g1, rfl, h1, hf⟩ := List.map_eq_cons_iff.1 hf
  obtain ⟨f2, g2, rfl, h2, hf⟩ := List.map_eq_cons_iff.1 hf
  obtain ⟨f3, g3, rfl, h3, hf⟩ := List.map_eq_cons_iff.1 hf
  rw [List.map_eq_nil_iff] at hf
  subst hf
  simp only [Prod.mk.injEq] at h1 h2 h3
  exact ⟨f1, f2, f3, rfl, h1, h2, h3⟩
/-- Whether a refresh is valid. -/
def rfOk (a b c : Int) : Bool := decide (0 ≤ a ∧ a ≤ 65535) && (decide (0 ≤ b ∧ b ≤ 255) && decide (0 ≤ c ∧ c ≤ 255))
theorem rfOk_masks (a b c : Int) : (decide (a = a % 65536) && (decide (b = b % 256) && decide (c = c % 256))) = rfOk a b c := by
  unfold rfOk
  have h1 : (a = a % 65536) ↔ (0 ≤ a ∧ a ≤ 65535) := by omega
  have h2 : (b = b % 256) ↔ (0 ≤ b ∧ b ≤ 255) := by omega
  have h3 : (c = c % 256) ↔ (0 ≤ c ∧ c ≤ 255) := by omega
  simp only [h1, h2, h3]
end Go.Proofs.YtniheakafkakhaaDoor
