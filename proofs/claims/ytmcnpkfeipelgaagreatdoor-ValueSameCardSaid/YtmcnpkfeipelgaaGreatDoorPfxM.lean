/- prefix.Make -/
import Derived.Test.YtmcnpkfeipelgaaGreatDoorPfxC
import Derived.Laws.CopyOwn
namespace Go.Proofs.YtmcnpkfeipelgaaGreatDoor
open Go.RowKit

theorem wpList_build_to {P : Program} {ops : Array Oper} {rest : List Oper} {o : Oper} {a : Act} {w : World} {Q : Exit → Act → World → Prop} (hg : o.guard = none) (t : TypeId) (parts : Array (Nat × Operand)) (ho : o.op = .build t parts) (cs : Array Value)
    (hf : P.built t (parts.map fun (i, x) => (i, a.eval x)).toList = some cs) (h : wpList P ops Q rest (a.put o.dst (.agg cs)) w) : wpList P ops Q (o :: rest) a w :=
  wpList_build hg t parts ho (by rw [hf]; rfl) (by rw [hf]; exact h)
theorem list16 {m : List Int} (h : m.length = 16) : ∃ x0 x1 x2 x3 x4 x5 x6 x7 x8 x9 x10 x11 x12 x13 x14 x15, m = [x0, x1, x2, x3, x4, x5, x6, x7, x8, x9, x10, x11, x12, x13, x14, x15] := by
  match m, h with
  | [x0, x1, x2, x3, x4, x5, x6, x7, x8, x9, x10, x11, x12, x13, x14, x15], _ => exact ⟨x0, x1, x2, x3, x4, x5, x6, x7, x8, x9, x10, x11, x12, x13, x14, x15, rfl⟩
set_option maxRecDepth 100000 in
theorem built_pfx (f l : Int) {m : List Int} (h : m.length = 16) : Tryz.prog.built 54 [(0, .int .i64 f), (1, .int .i64 l), (2, .agg (arr m))] = some (pfx f l m) := by
  obtain ⟨x0, x1, x2, x3, x4, x5, x6, x7, x8, x9, x10, x11, x12, x13, x14, x15, rfl⟩ := list16 h
  kernel_rfl

def zero16 : List Int := List.replicate 16 0
theorem zero16_addr : IsAddr zero16 := ⟨rfl, by intro x hx; have := List.eq_of_mem_replicate hx; omega⟩
def padTo (xs : List Int) : List Int := xs ++ List.replicate (16 - xs.length) 0
theorem padTo_addr {xs : List Int} (h : xs.length ≤ 16) (hr : ∀ x ∈ xs, 0 ≤ x ∧ x ≤ 255) : IsAddr (padTo xs) := by
  refine ⟨by simp [padTo]; omega, ?_⟩
  intro x hx
  rcases List.mem_append.1 hx with hx | hx
  · exact hr x hx
  · have := List.eq_of_mem_replicate hx; omega
theorem splice_pad (xs : List Int) : splice (zero16.map (Value.int .u8)) 0 (xs.map (Value.int .u8)) = (padTo xs).map (Value.int .u8) := by
  unfold splice padTo zero16
  rw [List.map_append, List.map_replicate, List.map_replicate, List.drop_replicate, List.take_zero, List.nil_append, List.length_map, Nat.zero_add]

theorem arr_zero : arr zero16 = #[.int .u8 0, .int .u8 0, .int .u8 0, .int .u8 0, .int .u8 0, .int .u8 0, .int .u8 0, .int .u8 0, .int .u8 0, .int .u8 0, .int .u8 0, .int .u8 0, .int .u8 0, .int .u8 0, .int .u8 0, .int .u8 0] := rfl
theorem pfx_zero : pfx 0 0 zero16 = #[.int .i64 0, .int .i64 0, .int .u8 0, .int .u8 0, .int .u8 0, .int .u8 0, .int .u8 0, .int .u8 0, .int .u8 0, .int .u8 0, .int .u8 0, .int .u8 0, .int .u8 0, .int .u8 0, .int .u8 0, .int .u8 0, .int .u8 0, .int .u8 0] := by
  unfold pfx
  rw [arr_zero]
  rfl

def makeOk (f l : Int) (n : Nat) : Bool := lenOk f l && decide ((n : Int) ≤ widthOf f / 8)
theorem width_ge (f : Int) : 0 ≤ widthOf f ∧ widthOf f ≤ 128 := by unfold widthOf; split <;> (try split) <;> omega

theorem pfx_one (f l : Int) (a : List Int) : (pfx f l a).all (·.oneCell') = true := by
  unfold pfx
  rw [Array.all_append, arr_one, Bool.and_true, Array.all_eq_true_iff_forall_mem]
  intro x hx
  simp only [List.mem_toArray, List.mem_cons, List.not_mem_nil, or_false] at hx
  rcases hx with rfl | rfl <;> simp [Value.oneCell']
theorem results_cell_tmp {P : Program} {fn : Func} {p t : Tmp} {ty : TypeId} (h : fn.results = #[.cell p ty, .tmp t]) (tmps : Array Value) (w : World) (g : Nat) (T : TypeId) (cs : Array Value) (d : TypeDesc)
    (hp : tmps.getD p undef = .pointer (some ⟨g, 0, none⟩)) (hg : Own w g T cs) (hu : P.underlying ty = some d) (hd : (match d with | .struct _ | .array _ _ => true | _ => false) = true) (hi : (P.info? ty).map (·.size) = some cs.size) :
    (results fn tmps).run P w = .ok (.tuple #[.agg cs, tmps.getD t undef]) w := by
  have hp' : tmps[p]?.getD undef = .pointer (some ⟨g, 0, none⟩) := by simpa using hp
  simp [results, h, hp', asAddr, run_loadVar_row w g T ty cs (0, 0) d hg hu hd hi]
set_option maxRecDepth 100000 in
theorem pfx_desc : Tryz.prog.underlying 54 = some (.struct (Tryz.prog.fieldsOf 54)) := by kernel_rfl
set_option maxRecDepth 100000 in
theorem pfx_info {f l : Int} {a : List Int} (h : a.length = 16) : (Tryz.prog.info? 54).map (·.size) = some (pfx f l a).size := by rw [pfx_size h]; kernel_rfl

set_option maxHeartbeats 400000 in
set_option maxRecDepth 100000 in
theorem pmake_no (f l : Int) (A : Option Addr) (n c : Nat) (w : World) (_hn : n ≤ 1000000000) (hk : makeOk f l n = false) :
    Calls Tryz.prog 154 #[.int .i64 f, .int .i64 l, .slice A n c] w fun e w' => e = .returned (.tuple #[.agg (pfx 0 0 zero16), .bool false]) ∧ Below w.heap.size w w' := by
  have hw := width_ge f
  have hw0 := hw.1
  have hw1 := hw.2
  have hz18 : #[.int .i64 0, .int .i64 0, .int .u8 0, .int .u8 0, .int .u8 0, .int .u8 0, .int .u8 0, .int .u8 0, .int .u8 0, .int .u8 0, .int .u8 0, .int .u8 0, .int .u8 0, .int .u8 0, .int .u8 0, .int .u8 0, .int .u8 0, .int .u8 0] = pfx 0 0 zero16 := pfx_zero.symm
  have ho := Own.new w 54 (pfx 0 0 zero16)
  by_cases hl : lenOk f l = true
  · have hlt : widthOf f / 8 < (n : Int) := by simp [makeOk, hl] at hk; omega
    have HL := Lib.hid hl
    clear hl hk hw
    go_enter Tryz.func154, Tryz.ntmps154
    go_wp2_with fail
    refine (hasLength_any f l _).mono ?_
    rw [HL.out]
    rintro e w' ⟨rfl, rfl⟩
    go_wp2_with fail
    refine (width_any f _).mono ?_
    rintro e w' ⟨rfl, rfl⟩
    go_wp2_with (refine wpList_store_row rfl 54 _ _ rfl w.heap.size (pfx 0 0 zero16) rfl rfl 54 (pfx 0 0 zero16) ho (pfx_info rfl) rfl (pfx_one 0 0 zero16) ?_)
    have hfin := ho.setRow (cs' := pfx 0 0 zero16)
    exact bodyPost_ret (results_cell_tmp rfl _ _ w.heap.size 54 (pfx 0 0 zero16) _ rfl hfin pfx_desc rfl (pfx_info rfl)) rfl ⟨rfl, bl_setRow (bl_alloc (bl_refl w) _) (Nat.le_refl _)⟩
  · have hl' : lenOk f l = false := by simpa using hl
    have HL := Lib.hid hl'
    clear hl hk hl' hw
    go_enter Tryz.func154, Tryz.ntmps154
    go_wp2_with fail
    refine (hasLength_any f l _).mono ?_
    rw [HL.out]
    rintro e w' ⟨rfl, rfl⟩
    go_wp2_with (refine wpList_store_row rfl 54 _ _ rfl w.heap.size (pfx 0 0 zero16) rfl rfl 54 (pfx 0 0 zero16) ho (pfx_info rfl) rfl (pfx_one 0 0 zero16) ?_)
    have hfin := ho.setRow (cs' := pfx 0 0 zero16)
    exact bodyPost_ret (results_cell_tmp rfl _ _ w.heap.size 54 (pfx 0 0 zero16) _ rfl hfin pfx_desc rfl (pfx_info rfl)) rfl ⟨rfl, bl_setRow (bl_alloc (bl_refl w) _) (Nat.le_refl _)⟩

set_option maxHeartbeats 400000 in
set_option maxRecDepth 100000 in
theorem pmake_yes (f l : Int) (A : Option Addr) (n c : Nat) (xs : List Int) (w : World) (hx : Bytes w w.heap.size A n xs) (hk : makeOk f l n = true) :
    Calls Tryz.prog 154 #[.int .i64 f, .int .i64 l, .slice A n c] w fun e w' => e = .returned (.tuple #[.agg (pfx f l (maskL l (padTo xs))), .bool true]) ∧ Below w.heap.size w w' := by
  have hw := width_ge f
  simp only [makeOk, lenOk, Bool.and_eq_true, decide_eq_true_eq] at hk
  have hl : lenOk f l = true := by simp [lenOk, hk.1]
  have hnle : ¬ widthOf f / 8 < (n : Int) := by omega
  have hn16 : n ≤ 16 := by omega
  have hl0 : 0 ≤ l := hk.1.2.1
  have hl1 : l ≤ 128 := by omega
  have hw0 := hw.1
  have hw1 := hw.2
  have HL := Lib.hid hl
  have hxl := Lib.hid hx.1
  have hpa := padTo_addr (xs := xs) (by rw [← hx.1]; exact hn16) hx.2.1
  have hma := maskL_addr l hpa
  clear hl hk hw
  have hz18 : #[.int .i64 0, .int .i64 0, .int .u8 0, .int .u8 0, .int .u8 0, .int .u8 0, .int .u8 0, .int .u8 0, .int .u8 0, .int .u8 0, .int .u8 0, .int .u8 0, .int .u8 0, .int .u8 0, .int .u8 0, .int .u8 0, .int .u8 0, .int .u8 0] = pfx 0 0 zero16 := pfx_zero.symm
  have hz16 : #[.int .u8 0, .int .u8 0, .int .u8 0, .int .u8 0, .int .u8 0, .int .u8 0, .int .u8 0, .int .u8 0, .int .u8 0, .int .u8 0, .int .u8 0, .int .u8 0, .int .u8 0, .int .u8 0, .int .u8 0, .int .u8 0] = arr zero16 := arr_zero.symm
  have hb1 := bl_alloc (bl_alloc (bl_refl w) (.cells (pfx 0 0 zero16) 54)) (.cells (arr zero16) 185)
  have oz := Own.new (w.alloc (.cells (pfx 0 0 zero16) 54)) 185 (arr zero16)
  have op := (Own.new w 54 (pfx 0 0 zero16)).alloc (.cells (arr zero16) 185)
  have hx1 := (hx.below hb1)
  have hsz : (w.alloc (.cells (pfx 0 0 zero16) 54)).heap.size = w.heap.size + 1 := by simp
  rw [hsz] at oz
  have hbk : Below (w.heap.size + 1) (w.alloc (.cells (pfx 0 0 zero16) 54)) ((w.alloc (.cells (pfx 0 0 zero16) 54)).alloc (.cells (arr zero16) 185)) := (Below.refl _ _).alloc (by rw [hsz]; exact Nat.le_refl _) _
  have hbn := Lib.hid (built_pfx f l hma.1)
  clear hsz
  go_enter Tryz.func154, Tryz.ntmps154
  go_wp2_with fail
  refine (hasLength_any f l _).mono ?_
  rw [HL.out]
  rintro e w' ⟨rfl, rfl⟩
  go_wp2_with fail
  refine (width_any f _).mono ?_
  rintro e w' ⟨rfl, rfl⟩
  go_wp2_with (refine wpList_copy_splice rfl _ _ 25 25 rfl 5 Tryz.underlying25 (by kernel_rfl) _ _ _ _ _ _ rfl rfl (w.heap.size + 1) 0 (zero16.map (Value.int .u8)) 185 oz (xs.map (Value.int .u8)) ?c0 ?c1 ?c2 ints1 (w.heap.size + 1) (w.alloc (.cells (pfx 0 0 zero16) 54)) hbk (Nat.le_refl _) ?_)
  case c0 => rw [List.length_map, ← hxl.out]; exact (Nat.min_eq_left hn16).symm
  case c2 => rw [List.length_map, List.length_map, ← hxl.out]; exact (by omega : 0 + n ≤ 16)
  case c1 =>
    intro hpos
    rcases hx1.2.2 with h0 | ⟨b, o, rfl, _, hc⟩
    · have : xs = [] := by simpa using h0
      rw [this] at hpos; simp at hpos
    · exact ⟨_, rfl, fun j v hv => by
        rw [Addr.add_lit]
        exact hc j _ (by rw [List.getElem?_map, hv]; rfl)⟩
  intro w2 hw2 hb2
  have oz2 : Own w2 (w.heap.size + 1) 185 (arr (padTo xs)) := by
    have h := hw2.out
    rw [splice_pad] at h
    exact h
  have op1 : Own w2 w.heap.size 54 (pfx 0 0 zero16) := (Own.new w 54 (pfx 0 0 zero16)).below hb2 (Nat.lt_succ_self _)
  have hbw : Below w.heap.size w w2 := (bl_alloc (bl_refl w) (.cells (pfx 0 0 zero16) 54)).trans (hb2.mono (Nat.le_succ _))
  clear hw2 hb2 oz op hbk hb1 hx1 hz18 hz16
  go_wp2_with (refine wpList_load_row rfl 185 _ rfl (w.heap.size + 1) rfl 185 (arr (padTo xs)) (0, 0) (.array 16 5) oz2 Tryz.underlying185 rfl (by rw [arr_size, hpa.1]; exact size_addr) ?_)
  refine (masked_any (padTo xs) l _ hpa hl0 hl1).mono ?_
  rintro e w3 ⟨rfl, hb3⟩
  have op3 := op1.step hb3
  have hbw3 := bl_trans hbw hb3
  have hi3 := Lib.hid (pfx_info (f := f) (l := l) hma.1)
  go_wp2_with (first | (refine wpList_build_to rfl 54 _ rfl (pfx f l (maskL l (padTo xs))) (by simp only [List.map_toArray, List.map_cons, List.map_nil]; exact hbn.out) ?_) | (refine wpList_store_row rfl 54 _ _ rfl w.heap.size (pfx f l (maskL l (padTo xs))) rfl rfl 54 (pfx 0 0 zero16) op3 hi3.out (by rw [pfx_size hma.1]; rfl) (pfx_one _ _ _) ?_))
  have hfin := op3.setRow (cs' := pfx f l (maskL l (padTo xs)))
  exact bodyPost_ret (v := .tuple #[.agg (pfx f l (maskL l (padTo xs))), .bool true]) (results_cell_tmp (p := 6) (t := 7) (fn := Tryz.f154) rfl _ _ w.heap.size 54 (pfx f l (maskL l (padTo xs))) _ rfl hfin pfx_desc rfl hi3.out) rfl ⟨rfl, bl_setRow hbw3 (Nat.le_refl _)⟩
end Go.Proofs.YtmcnpkfeipelgaaGreatDoor
