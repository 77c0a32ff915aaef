/- equal heads; peeragelaw10.alive; FlagRight, FlagCanonical: the walks -/
import Derived.Test.YtngeldgohijheaaDoorFlC
import Derived.Test.YtngeldgohijheaaDoorFlD
import Derived.Test.YtngeldgohijheaaDoorFlE
import Derived.Test.YtngeldgohijheaaDoorReq
namespace Go.Proofs.YtngeldgohijheaaDoor
open Go.RowKit Extern.Stop

set_option maxRecDepth 100000 in
theorem head_eqIn (a b c : Int) (W : World) : (Op.equalIn 10000 76 (.agg #[.int .i64 a, .int .i64 b, .int .i64 c]) (.agg #[.int .i64 a, .int .i64 b, .int .i64 c])).run Tryd.prog W = Result.ok true W := by
  have hz := Tryd.underlying3
  rw [run_equalIn_agg W 9999 76 _ _ fhead_desc (by kernel_rfl)]
  have hf : (Tryd.prog.fieldsOf 76).toList.map (fun x => (x.name, x.type, x.offset)) = [("Flags", 3, 0), ("Type", 3, 1), ("Len", 3, 2)] := by kernel_rfl
  obtain ⟨f1, f2, f3, e, ⟨n1, t1, o1⟩, ⟨n2, t2, o2⟩, n3, t3, o3⟩ := fields3 hf
  have q : ∀ (x : Int) W, (Op.equalIn 9999 3 (.int .i64 x) (.int .i64 x)).run Tryd.prog W = Result.ok true W := fun x W => by rw [run_equalIn_int W 9998 3 .i64 .i64 _ _ hz]; simp
  have p0 : ∀ W, (Go.part 3 #[.int .i64 a, .int .i64 b, .int .i64 c] 0).run Tryd.prog W = Result.ok (.int .i64 a) W := fun W => by kernel_rfl
  have p1 : ∀ W, (Go.part 3 #[.int .i64 a, .int .i64 b, .int .i64 c] 1).run Tryd.prog W = Result.ok (.int .i64 b) W := fun W => by kernel_rfl
  have p2 : ∀ W, (Go.part 3 #[.int .i64 a, .int .i64 b, .int .i64 c] 2).run Tryd.prog W = Result.ok (.int .i64 c) W := fun W => by kernel_rfl
  rw [e]
  simp only [Op.eqFields, n1, t1, o1, n2, t2, o2, n3, t3, o3]
  simp only [show ("Flags" ≠ "_") = True by decide, show ("Type" ≠ "_") = True by decide, show ("Len" ≠ "_") = True by decide, if_true, Sem.run_bind, p0, p1, p2, Result.andThen_ok, q, Bool.not_true, Bool.false_eq_true, if_false, Sem.run_pure]
set_option maxRecDepth 100000 in
theorem head_neq (a b c : Int) (W : World) : (binOp .neq 76 (.agg #[.int .i64 a, .int .i64 b, .int .i64 c]) (.agg #[.int .i64 a, .int .i64 b, .int .i64 c])).run Tryd.prog W = Result.ok (.bool false) W := by
  rw [run_neq_struct W, head_eqIn a b c]; rfl
set_option maxRecDepth 100000 in
theorem head_eql (a b c : Int) (W : World) : (binOp .eql 76 (.agg #[.int .i64 a, .int .i64 b, .int .i64 c]) (.agg #[.int .i64 a, .int .i64 b, .int .i64 c])).run Tryd.prog W = Result.ok (.bool true) W := by
  rw [run_eql_struct W, head_eqIn a b c]; rfl

set_option maxRecDepth 100000 in
set_option maxHeartbeats 400000 in
theorem alive10_any (w : World) : Calls Tryd.prog 29 #[] w fun e w' => e = .returned (.bool true) ∧ Below w.heap.size w w' := by
  have HC := Lib.hid (show canH 1 false 1 = #[.int .i64 64, .int .i64 1, .int .i64 1] ∧ canOk 1 false 1 = true from canH_ok (c := 64) rfl (by omega) (by omega) (by omega) (by simp) rfl)
  have HF := Lib.hid (show fForm 64 1 1 = [64, 1, 1] ∧ fbOk 64 1 1 = true by decide +kernel)
  go_enter Tryd.func29, Tryd.ntmps29
  go_wp2_with fail
  refine (canon_any 1 false 1 _ rfl).mono ?_
  rw [HC.out.1, HC.out.2]
  rintro e w1 ⟨rfl, hb1⟩
  have hba := bl_alloc (bl_refl w1) (.cells #[.int .i64 64, .int .i64 1, .int .i64 1] 76)
  go_wp2_with fail
  refine (fbytes_yes 64 1 1 _ HF.out.2).mono ?_
  rw [HF.out.1]
  rintro e w2 ⟨g, rfl, hg, ho, hb2⟩
  have c0 := ho.cell (i := 0) (v := .int .u8 64) rfl
  have c1 := ho.cell (i := 1) (v := .int .u8 1) rfl
  have c2 := ho.cell (i := 2) (v := .int .u8 1) rfl
  go_wp2
  go_ret
  exact ⟨rfl, bl_trans (bl_trans hb1 hba) hb2⟩

end Go.Proofs.YtngeldgohijheaaDoor
