/- prefixes compared by == -/
import Derived.Test.YtiehbmhekncbhaaDoorReqG
namespace Go.Proofs.YtiehbmhekncbhaaDoor
open Go.RowKit Extern.Stop

def pfEq (f l : Int) (a : List Int) (f' l' : Int) (a' : List Int) : Bool := decide (f = f') && (decide (l = l') && decide (a = a'))
theorem pfEq_same (f l : Int) (a : List Int) : pfEq f l a f l a = true := by simp [pfEq]
set_option maxRecDepth 100000 in
theorem eql_pfx {f l f' l' : Int} {a a' : List Int} (ha : IsAddr a) (ha' : IsAddr a') (W : World) : (binOp .eql 28 (.agg (pfx f l a)) (.agg (pfx f' l' a'))).run Tryd.prog W = Result.ok (.bool (pfEq f l a f' l' a')) W := by
  rw [run_eql_struct W, eqIn_pfx2 9997 ha ha']
  rfl
set_option maxRecDepth 100000 in
theorem neq_pfx {f l f' l' : Int} {a a' : List Int} (ha : IsAddr a) (ha' : IsAddr a') (W : World) : (binOp .neq 28 (.agg (pfx f l a)) (.agg (pfx f' l' a'))).run Tryd.prog W = Result.ok (.bool (!pfEq f l a f' l' a')) W := by
  rw [run_neq_struct W, eqIn_pfx2 9997 ha ha']
  rfl
set_option maxRecDepth 100000 in
theorem eql_pfx_same {f l : Int} {a : List Int} (ha : IsAddr a) (W : World) : (binOp .eql 28 (.agg (pfx f l a)) (.agg (pfx f l a))).run Tryd.prog W = Result.ok (.bool true) W := by
  rw [eql_pfx ha ha, pfEq_same]
set_option maxRecDepth 100000 in
theorem neq_pfx_same {f l : Int} {a : List Int} (ha : IsAddr a) (W : World) : (binOp .neq 28 (.agg (pfx f l a)) (.agg (pfx f l a))).run Tryd.prog W = Result.ok (.bool false) W := by
  rw [neq_pfx ha ha, pfEq_same]
  rfl
end Go.Proofs.YtiehbmhekncbhaaDoor
