/- refresh.Valid: the masks, structs of three ints compared, equal or not -/
import Derived.Test.YtiehbmhekncbhaaDoorRfA
import Derived.Laws.StructEq
namespace Go.Proofs.YtiehbmhekncbhaaDoor
open Go.RowKit Extern.Stop

theorem and_mask16 (x : Int) : bits BinOp.and IntKind.i64 x 65535 = x % 65536 := by
  show IntKind.i64.wrap ((BitVec.ofInt 64 x &&& BitVec.ofInt 64 (65535 : Int)).toNat : Int) = _
  have h1 : (BitVec.ofInt 64 (65535 : Int)).toNat = 2 ^ 16 - 1 := by decide
  rw [BitVec.toNat_and, h1, Nat.and_two_pow_sub_one_eq_mod, BitVec.toNat_ofInt, IntKind.wrap_i64]
  rw [show ((2 ^ 64 : Nat) : Int) = 18446744073709551616 from rfl, show (2 ^ 16 : Nat) = 65536 from rfl]
  omega
theorem and_mask8 (x : Int) : bits BinOp.and IntKind.i64 x 255 = x % 256 := by
  show IntKind.i64.wrap ((BitVec.ofInt 64 x &&& BitVec.ofInt 64 (255 : Int)).toNat : Int) = _
  have h1 : (BitVec.ofInt 64 (255 : Int)).toNat = 2 ^ 8 - 1 := by decide
  rw [BitVec.toNat_and, h1, Nat.and_two_pow_sub_one_eq_mod, BitVec.toNat_ofInt, IntKind.wrap_i64]
  rw [show ((2 ^ 64 : Nat) : Int) = 18446744073709551616 from rfl, show (2 ^ 8 : Nat) = 256 from rfl]
  omega
set_option maxRecDepth 100000 in
theorem rf_desc : Tryd.prog.underlying 70 = some (.struct (Tryd.prog.fieldsOf 70)) := by kernel_rfl
theorem three_fields {fs : List Field} {n1 n2 n3 : String} {t1 t2 t3 : TypeId} {o1 o2 o3 : Nat} (hf : fs.map (fun x => (x.name, x.type, x.offset)) = [(n1, t1, o1), (n2, t2, o2), (n3, t3, o3)]) :
    ∃ f1 f2 f3 : Field, fs = [f1, f2, f3] ∧ (f1.name = n1 ∧ f1.type = t1 ∧ f1.offset = o1) ∧ (f2.name = n2 ∧ f2.type = t2 ∧ f2.offset = o2) ∧ f3.name = n3 ∧ f3.type = t3 ∧ f3.offset = o3 := by
  obtain ⟨f1, g1, rfl, h1, hf⟩ := List.map_eq_cons_iff.1 hf
  obtain ⟨f2, g2, rfl, h2, hf⟩ := List.map_eq_cons_iff.1 hf
  obtain ⟨f3, g3, rfl, h3, hf⟩ := List.map_eq_cons_iff.1 hf
  rw [List.map_eq_nil_iff] at hf
  subst hf
  simp only [Prod.mk.injEq] at h1 h2 h3
  exact ⟨f1, f2, f3, rfl, h1, h2, h3⟩
set_option maxRecDepth 100000 in
theorem rf_eqIn (a b c x y z : Int) (W : World) : (Op.equalIn 10000 70 (.agg #[.int .i64 a, .int .i64 b, .int .i64 c]) (.agg #[.int .i64 x, .int .i64 y, .int .i64 z])).run Tryd.prog W = Result.ok (decide (a = x) && (decide (b = y) && decide (c = z))) W := by
  have hz := Tryd.underlying3
  rw [run_equalIn_agg W 9999 70 _ _ rf_desc (by kernel_rfl)]
  have hf : (Tryd.prog.fieldsOf 70).toList.map (fun x => (x.name, x.type, x.offset)) = [("AFI", 3, 0), ("Sub", 3, 1), ("SAFI", 3, 2)] := by kernel_rfl
  obtain ⟨f1, f2, f3, e, ⟨n1, t1, o1⟩, ⟨n2, t2, o2⟩, n3, t3, o3⟩ := three_fields hf
  have q : ∀ (x y : Int) W, (Op.equalIn 9999 3 (.int .i64 x) (.int .i64 y)).run Tryd.prog W = Result.ok (x == y) W := fun x y W => by rw [run_equalIn_int W 9998 3 .i64 .i64 _ _ hz]
  have p0 : ∀ (a b c : Int) W, (Go.part 3 #[.int .i64 a, .int .i64 b, .int .i64 c] 0).run Tryd.prog W = Result.ok (.int .i64 a) W := fun _ _ _ W => by kernel_rfl
  have p1 : ∀ (a b c : Int) W, (Go.part 3 #[.int .i64 a, .int .i64 b, .int .i64 c] 1).run Tryd.prog W = Result.ok (.int .i64 b) W := fun _ _ _ W => by kernel_rfl
  have p2 : ∀ (a b c : Int) W, (Go.part 3 #[.int .i64 a, .int .i64 b, .int .i64 c] 2).run Tryd.prog W = Result.ok (.int .i64 c) W := fun _ _ _ W => by kernel_rfl
  rw [e]
  simp only [Op.eqFields, n1, t1, o1, n2, t2, o2, n3, t3, o3]
  simp only [show ("AFI" ≠ "_") = True by decide, show ("Sub" ≠ "_") = True by decide, show ("SAFI" ≠ "_") = True by decide, if_true, Sem.run_bind, p0, Result.andThen_ok, q]
  by_cases h1 : a = x
  · by_cases h2 : b = y
    · by_cases h3 : c = z
      · subst h1 h2 h3
        simp [p1, p2, q]
      · subst h1 h2
        simp [h3, p1, p2, q]
    · subst h1
      simp [h2, p1, q]
  · simp [h1]
set_option maxRecDepth 100000 in
theorem rf_eql (a b c x y z : Int) (W : World) : (binOp .eql 70 (.agg #[.int .i64 a, .int .i64 b, .int .i64 c]) (.agg #[.int .i64 x, .int .i64 y, .int .i64 z])).run Tryd.prog W = Result.ok (.bool (decide (a = x) && (decide (b = y) && decide (c = z)))) W := by
  rw [run_eql_struct W, rf_eqIn]; rfl
set_option maxRecDepth 100000 in
theorem rf_neq (a b c x y z : Int) (W : World) : (binOp .neq 70 (.agg #[.int .i64 a, .int .i64 b, .int .i64 c]) (.agg #[.int .i64 x, .int .i64 y, .int .i64 z])).run Tryd.prog W = Result.ok (.bool (!(decide (a = x) && (decide (b = y) && decide (c = z))))) W := by
  rw [run_neq_struct W, rf_eqIn]; rfl
/-- Whether a refresh is valid. -/
def rfOk (a b c : Int) : Bool := decide (0 ≤ a ∧ a ≤ 65535) && (decide (0 ≤ b ∧ b ≤ 255) && decide (0 ≤ c ∧ c ≤ 255))
theorem rfOk_masks (a b c : Int) : (decide (a = a % 65536) && (decide (b = b % 256) && decide (c = c % 256))) = rfOk a b c := by
  unfold rfOk
  have h1 : (a = a % 65536) ↔ (0 ≤ a ∧ a ≤ 65535) := by omega
  have h2 : (b = b % 256) ↔ (0 ≤ b ∧ b ≤ 255) := by omega
  have h3 : (c = c % 256) ↔ (0 ≤ c ∧ c ≤ 255) := by omega
  simp only [h1, h2, h3]
set_option maxRecDepth 100000 in
theorem rfvalid_any (a b c : Int) (w : World) :
    Calls Tryd.prog 58 #[.agg #[.int .i64 a, .int .i64 b, .int .i64 c]] w fun e w' => e = .returned (.bool (rfOk a b c)) ∧ Below w.heap.size w w' := by
  have hb0 := bl_alloc (bl_refl w) (.cells #[.int .i64 a, .int .i64 b, .int .i64 c] 70)
  have m1 := and_mask16 a
  have m2 := and_mask8 b
  have m3 := and_mask8 c
  have heql := rf_eql a b c (a % 65536) (b % 256) (c % 256)
  rw [rfOk_masks] at heql
  go_enter Tryd.func58, Tryd.ntmps58
  go_wp2
  go_ret
  exact ⟨rfl, hb0⟩
end Go.Proofs.YtiehbmhekncbhaaDoor
