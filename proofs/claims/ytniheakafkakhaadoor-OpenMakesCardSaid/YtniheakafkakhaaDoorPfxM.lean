/- prefix.Make -/
import Derived.Test.YtniheakafkakhaaDoorPfxC
import Derived.Laws.CopyOwn
namespace Go.Proofs.YtniheakafkakhaaDoor
open Go.RowKit

theorem wpList_build_to {P : Program} {ops : Array Oper} {rest : List Oper} {o : Oper} {a : Act} {w : World} {Q : Exit → Act → World → Prop} (hg : o.guard = none) (t : TypeId) (parts : Array (Nat × Operand)) (ho : o.op = .build t parts) (cs : Array Value)
    (hf : P.built t (parts.map fun (i, x) => (i, a.eval x)).toList = some cs) (h : wpList P ops Q rest (a.put o.dst (.agg cs)) w) : wpList P ops Q (o :: rest) a w :=
  wpList_build hg t parts ho (by rw [hf]; rfl) (by rw [hf]; exact h)
theorem list16 {m : List Int} (h : m.length = 16) : ∃ x0 x1 x2 x3 x4 x5 x6 x7 x8 x9 x10 x11 x12 x13 x14 x15, m = [x0, x1, x2, x3, x4, x5, x6, x7, x8, x9, x10, x11, x12, x13, x14, x15] := by
  match m, h with
  | [x0, x1, x2, x3, x4, x5, x6, x7, x8, x9, x10, x11, x12, x13, x14, x15], _ => exact ⟨x0, x1, x2, x3, x4, x5, x6, x7, x8, x9, x10, x11, x12, x13, x14, x15, rfl⟩
def zero16 : List Int := List.replicate 16 0
theorem zero16_addr : IsAddr zero16 := ⟨rfl, by intro x hx; have := List.eq_of_mem_replicate hx; omega⟩
def padTo (xs : List Int) : List Int := xs ++ List.replicate (16 - xs.length) 0
theorem padTo_addr {xs : List Int} (h : xs.length ≤ 16) (hr : ∀ x ∈ xs, 0 ≤ x ∧ x ≤ 255) : IsAddr (padTo xs) := by
  refine ⟨by simp [padTo]; omega, ?_⟩
  intro x hx
  rcases List.mem_append.1 hx with hx | hx
  · exact hr x hx
  · have := List.eq_of_mem_replicate hx; omega
theorem splice_pad (xs : List Int) : splice (zero16.map (Value.int .u8)) 0 (xs.map (Value.int .u8)) = (padTo xs).map (Value.int .u8) := by
  unfold splice padTo zero16
  rw [List.map_append, List.map_replicate, List.map_replicate, List.drop_replicate, List.take_zero, List.nil_append, List.length_map, Nat.zero_add]

theorem arr_zero : arr zero16 = #[.int .u8 0, .int .u8 0, .int .u8 0, .int .u8 0, .int .u8 0, .int .u8 0, .int .u8 0, .int .u8 0, .int .u8 0, .int .u8 0, .int .u8 0, .int .u8 0, .int .u8 0, .int .u8 0, .int .u8 0, .int .u8 0] := rfl
theorem pfx_zero : pfx 0 0 zero16 = #[.int .i64 0, .int .i64 0, .int .u8 0, .int .u8 0, .int .u8 0, .int .u8 0, .int .u8 0, .int .u8 0, .int .u8 0, .int .u8 0, .int .u8 0, .int .u8 0, .int .u8 0, .int .u8 0, .int .u8 0, .int .u8 0, .int .u8 0, .int .u8 0] := by
  unfold pfx
  rw [arr_zero]
  rfl

def makeOk (f l : Int) (n : Nat) : Bool := lenOk f l && decide ((n : Int) ≤ widthOf f / 8)
theorem width_ge (f : Int) : 0 ≤ widthOf f ∧ widthOf f ≤ 128 := by unfold widthOf; split <;> (try split) <;> omega

theorem pfx_one (f l : Int) (a : List Int) : (pfx f l a).all (·.oneCell') = true := by
  unfold pfx
  rw [Array.all_append, arr_one, Bool.and_true, Array.all_eq_true_iff_forall_mem]
  intro x hx
  simp only [List.mem_toArray, List.mem_cons, List.not_mem_nil, or_false] at hx
  rcases hx with rfl | rfl <;> simp [Value.oneCell']
theorem results_cell_tmp {P : Program} {fn : Func} {p t : Tmp} {ty : TypeId} (h : fn.results = #[.cell p ty, .tmp t]) (tmps : Array Value) (w : World) (g : Nat) (T : TypeId) (cs : Array Value) (d : TypeDesc)
    (hp : tmps.getD p undef = .pointer (some ⟨g, 0, none⟩)) (hg : Own w g T cs) (hu : P.underlying ty = some d) (hd : (match d with | .struct _ | .array _ _ => true | _ => false) = true) (hi : (P.info? ty).map (·.size) = some cs.size) :
    (results fn tmps).run P w = .ok (.tuple #[.agg cs, tmps.getD t undef]) w := by
  have hp' : tmps[p]?.getD undef = .pointer (some ⟨g, 0, none⟩) := by simpa using hp
  simp [results, h, hp', asAddr, run_loadVar_row w g T ty cs (0, 0) d hg hu hd hi]
end Go.Proofs.YtniheakafkakhaaDoor
