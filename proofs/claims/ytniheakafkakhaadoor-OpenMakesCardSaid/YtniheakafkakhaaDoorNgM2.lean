/- XNgM2: XOpA, XOpF, XOpJ, XDec, XNgF, XNgG, XNgJ in one text -/
import Derived.Test.YtniheakafkakhaaDoorTen
import Derived.Test.YtniheakafkakhaaDoorPfxM
import Derived.Laws.StructEq
import Derived.StillTailTactics
import Derived.Test.YtniheakafkakhaaDoorStepG
import Derived.IntWalk
import Derived.Test.YtniheakafkakhaaDoorNgM1
/- option's fields, the record's methods, option.Text, alive of layer 5 -/
namespace Go.Proofs.YtniheakafkakhaaDoor
open Go.RowKit Go.Sort

theorem results_cell1 {P : Program} {fn : Func} {p : Tmp} {ty : TypeId} (h : fn.results = #[.cell p ty]) (tmps : Array Value) (w : World) (g : Nat) (T : TypeId) (cs : Array Value) (d : TypeDesc)
    (hp : tmps.getD p undef = .pointer (some ⟨g, 0, none⟩)) (hg : Own w g T cs) (hu : P.underlying ty = some d) (hd : (match d with | .struct _ | .array _ _ => true | _ => false) = true) (hi : (P.info? ty).map (·.size) = some cs.size) :
    (results fn tmps).run P w = .ok (.agg cs) w := by
  have hp' : tmps[p]?.getD undef = .pointer (some ⟨g, 0, none⟩) := by simpa using hp
  simp [results, h, hp', asAddr, run_loadVar_row w g T ty cs (0, 0) d hg hu hd hi]
def fldV : Array Value := #[.string ⟨#[97, 115, 52]⟩, .func (.func 145) #[] #[], .string ⟨#[101, 120, 116, 101, 110, 100, 101, 100]⟩, .func (.func 146) #[] #[], .string ⟨#[109, 112, 52]⟩, .func (.func 147) #[] #[], .string ⟨#[109, 112, 54]⟩, .func (.func 148) #[] #[], .string ⟨#[97, 100, 100, 52]⟩, .func (.func 149) #[] #[], .string ⟨#[97, 100, 100, 54]⟩, .func (.func 150) #[] #[]]
theorem fld_one : fldV.all (·.oneCell') = true := by simp [fldV, Value.oneCell']
set_option maxRecDepth 100000 in
theorem fld_info : (Tryd.prog.info? 169).map (·.size) = some fldV.size := by kernel_rfl
set_option maxRecDepth 100000 in
theorem fld_desc : Tryd.prog.underlying 169 = some (.array 6 168) := by kernel_rfl
def fldZ : Array Value := #[.string ⟨#[]⟩, .nilFunc, .string ⟨#[]⟩, .nilFunc, .string ⟨#[]⟩, .nilFunc, .string ⟨#[]⟩, .nilFunc, .string ⟨#[]⟩, .nilFunc, .string ⟨#[]⟩, .nilFunc]
set_option maxRecDepth 100000 in
theorem fld_built : Tryd.prog.built 169 [(0, .agg #[.string ⟨#[97, 115, 52]⟩, .func (.func 145) #[] #[]]), (1, .agg #[.string ⟨#[101, 120, 116, 101, 110, 100, 101, 100]⟩, .func (.func 146) #[] #[]]), (2, .agg #[.string ⟨#[109, 112, 52]⟩, .func (.func 147) #[] #[]]), (3, .agg #[.string ⟨#[109, 112, 54]⟩, .func (.func 148) #[] #[]]), (4, .agg #[.string ⟨#[97, 100, 100, 52]⟩, .func (.func 149) #[] #[]]), (5, .agg #[.string ⟨#[97, 100, 100, 54]⟩, .func (.func 150) #[] #[]])] = some fldV := by kernel_rfl
set_option maxRecDepth 100000 in
set_option maxHeartbeats 1600000 in
theorem fields_any (w : World) : Calls Tryd.prog 129 #[] w fun e w' => e = .returned (.agg fldV) ∧ Below w.heap.size w w' := by
  have o0 := Own.new w 169 fldZ
  have hb0 := bl_alloc (bl_refl w) (.cells fldZ 169)
  go_enter Tryd.func129, Tryd.ntmps129
  go_wp2_with (refine wpList_store_row rfl 169 _ _ rfl w.heap.size fldV rfl rfl 169 fldZ o0 fld_info rfl fld_one ?_)
  exact bodyPost_ret (results_cell1 (p := 0) (fn := Tryd.f129) rfl _ _ w.heap.size 169 fldV _ rfl o0.setRow fld_desc rfl fld_info) rfl ⟨rfl, bl_setRow hb0 (Nat.le_refl _)⟩
set_option maxRecDepth 100000 in
theorem rec0_any (g : Nat) (w : World) : Calls Tryd.prog 145 #[.pointer (some ⟨g, 0, none⟩)] w fun e w' => e = .returned (.pointer (some ⟨g, 0, none⟩)) ∧ w = w' := by
  go_enter Tryd.func145, Tryd.ntmps145
  go_wp2
  go_ret
  exact ⟨rfl, rfl⟩
set_option maxRecDepth 100000 in
theorem fidx0 (W : World) : (Instr.index 169 (.agg fldV) (.int .i64 0)).run Tryd.prog W = .ok (.agg #[.string ⟨#[97, 115, 52]⟩, .func (.func 145) #[] #[]]) W := by kernel_rfl
set_option maxRecDepth 100000 in
theorem rec1_any (g : Nat) (w : World) : Calls Tryd.prog 146 #[.pointer (some ⟨g, 0, none⟩)] w fun e w' => e = .returned (.pointer (some ⟨g, 1, none⟩)) ∧ w = w' := by
  go_enter Tryd.func146, Tryd.ntmps146
  go_wp2
  go_ret
  exact ⟨rfl, rfl⟩
set_option maxRecDepth 100000 in
theorem fidx1 (W : World) : (Instr.index 169 (.agg fldV) (.int .i64 1)).run Tryd.prog W = .ok (.agg #[.string ⟨#[101, 120, 116, 101, 110, 100, 101, 100]⟩, .func (.func 146) #[] #[]]) W := by kernel_rfl
set_option maxRecDepth 100000 in
theorem rec2_any (g : Nat) (w : World) : Calls Tryd.prog 147 #[.pointer (some ⟨g, 0, none⟩)] w fun e w' => e = .returned (.pointer (some ⟨g, 2, none⟩)) ∧ w = w' := by
  go_enter Tryd.func147, Tryd.ntmps147
  go_wp2
  go_ret
  exact ⟨rfl, rfl⟩
set_option maxRecDepth 100000 in
theorem fidx2 (W : World) : (Instr.index 169 (.agg fldV) (.int .i64 2)).run Tryd.prog W = .ok (.agg #[.string ⟨#[109, 112, 52]⟩, .func (.func 147) #[] #[]]) W := by kernel_rfl
set_option maxRecDepth 100000 in
theorem rec3_any (g : Nat) (w : World) : Calls Tryd.prog 148 #[.pointer (some ⟨g, 0, none⟩)] w fun e w' => e = .returned (.pointer (some ⟨g, 3, none⟩)) ∧ w = w' := by
  go_enter Tryd.func148, Tryd.ntmps148
  go_wp2
  go_ret
  exact ⟨rfl, rfl⟩
set_option maxRecDepth 100000 in
theorem fidx3 (W : World) : (Instr.index 169 (.agg fldV) (.int .i64 3)).run Tryd.prog W = .ok (.agg #[.string ⟨#[109, 112, 54]⟩, .func (.func 148) #[] #[]]) W := by kernel_rfl
set_option maxRecDepth 100000 in
theorem rec4_any (g : Nat) (w : World) : Calls Tryd.prog 149 #[.pointer (some ⟨g, 0, none⟩)] w fun e w' => e = .returned (.pointer (some ⟨g, 4, none⟩)) ∧ w = w' := by
  go_enter Tryd.func149, Tryd.ntmps149
  go_wp2
  go_ret
  exact ⟨rfl, rfl⟩
set_option maxRecDepth 100000 in
theorem fidx4 (W : World) : (Instr.index 169 (.agg fldV) (.int .i64 4)).run Tryd.prog W = .ok (.agg #[.string ⟨#[97, 100, 100, 52]⟩, .func (.func 149) #[] #[]]) W := by kernel_rfl
set_option maxRecDepth 100000 in
theorem rec5_any (g : Nat) (w : World) : Calls Tryd.prog 150 #[.pointer (some ⟨g, 0, none⟩)] w fun e w' => e = .returned (.pointer (some ⟨g, 5, none⟩)) ∧ w = w' := by
  go_enter Tryd.func150, Tryd.ntmps150
  go_wp2
  go_ret
  exact ⟨rfl, rfl⟩
set_option maxRecDepth 100000 in
theorem fidx5 (W : World) : (Instr.index 169 (.agg fldV) (.int .i64 5)).run Tryd.prog W = .ok (.agg #[.string ⟨#[97, 100, 100, 54]⟩, .func (.func 150) #[] #[]]) W := by kernel_rfl
theorem six_fields {fs : List Field} {n0 : String} {t0 : TypeId} {o0 : Nat} {n1 : String} {t1 : TypeId} {o1 : Nat} {n2 : String} {t2 : TypeId} {o2 : Nat} {n3 : String} {t3 : TypeId} {o3 : Nat} {n4 : String} {t4 : TypeId} {o4 : Nat} {n5 : String} {t5 : TypeId} {o5 : Nat} (hf : fs.map (fun x => (x.name, x.type, x.offset)) = [(n0, t0, o0), (n1, t1, o1), (n2, t2, o2), (n3, t3, o3), (n4, t4, o4), (n5, t5, o5)]) :
    ∃ f0 f1 f2 f3 f4 f5 : Field, fs = [f0, f1, f2, f3, f4, f5] ∧ (f0.name = n0 ∧ f0.type = t0 ∧ f0.offset = o0) ∧ (f1.name = n1 ∧ f1.type = t1 ∧ f1.offset = o1) ∧ (f2.name = n2 ∧ f2.type = t2 ∧ f2.offset = o2) ∧ (f3.name = n3 ∧ f3.type = t3 ∧ f3.offset = o3) ∧ (f4.name = n4 ∧ f4.type = t4 ∧ f4.offset = o4) ∧ (f5.name = n5 ∧ f5.type = t5 ∧ f5.offset = o5) := by
  obtain ⟨f0, g0, rfl, h0, hf⟩ := List.map_eq_cons_iff.1 hf
  obtain ⟨f1, g1, rfl, h1, hf⟩ := List.map_eq_cons_iff.1 hf
  obtain ⟨f2, g2, rfl, h2, hf⟩ := List.map_eq_cons_iff.1 hf
  obtain ⟨f3, g3, rfl, h3, hf⟩ := List.map_eq_cons_iff.1 hf
  obtain ⟨f4, g4, rfl, h4, hf⟩ := List.map_eq_cons_iff.1 hf
  obtain ⟨f5, g5, rfl, h5, hf⟩ := List.map_eq_cons_iff.1 hf
  rw [List.map_eq_nil_iff] at hf
  subst hf
  simp only [Prod.mk.injEq] at h0 h1 h2 h3 h4 h5
  exact ⟨f0, f1, f2, f3, f4, f5, rfl, h0, h1, h2, h3, h4, h5⟩
set_option maxRecDepth 100000 in
theorem op_desc : Tryd.prog.underlying 23 = some (.struct (Tryd.prog.fieldsOf 23)) := by kernel_rfl
set_option maxRecDepth 100000 in
theorem op_info (a b c d e f : Value) : (Tryd.prog.info? 23).map (·.size) = some (#[a, b, c, d, e, f] : Array Value).size := by kernel_rfl
set_option maxRecDepth 100000 in
theorem op_eqIn (a0 a1 a2 a3 a4 a5 b0 b1 b2 b3 b4 b5 : Bool) (W : World) : (Op.equalIn 10000 23 (.agg #[.bool a0, .bool a1, .bool a2, .bool a3, .bool a4, .bool a5]) (.agg #[.bool b0, .bool b1, .bool b2, .bool b3, .bool b4, .bool b5])).run Tryd.prog W = Result.ok (decide (a0 = b0) && (decide (a1 = b1) && (decide (a2 = b2) && (decide (a3 = b3) && (decide (a4 = b4) && decide (a5 = b5)))))) W := by
  have hz := Tryd.underlying4
  rw [run_equalIn_agg W 9999 23 _ _ op_desc (by kernel_rfl)]
  have hf : (Tryd.prog.fieldsOf 23).toList.map (fun x => (x.name, x.type, x.offset)) = [("AS4", 4, 0), ("Extended", 4, 1), ("MP4", 4, 2), ("MP6", 4, 3), ("Add4", 4, 4), ("Add6", 4, 5)] := by kernel_rfl
  obtain ⟨f0, f1, f2, f3, f4, f5, e, ⟨n0, t0, o0⟩, ⟨n1, t1, o1⟩, ⟨n2, t2, o2⟩, ⟨n3, t3, o3⟩, ⟨n4, t4, o4⟩, ⟨n5, t5, o5⟩⟩ := six_fields hf
  have q : ∀ (x y : Bool) W, (Op.equalIn 9999 4 (.bool x) (.bool y)).run Tryd.prog W = Result.ok (x == y) W := fun x y W => by rw [run_equalIn_bool' W 9998 4 _ _ hz]
  have p0 : ∀ (a b c d e f : Bool) W, (Go.part 4 #[.bool a, .bool b, .bool c, .bool d, .bool e, .bool f] 0).run Tryd.prog W = Result.ok (.bool a) W := fun _ _ _ _ _ _ W => by kernel_rfl
  have p1 : ∀ (a b c d e f : Bool) W, (Go.part 4 #[.bool a, .bool b, .bool c, .bool d, .bool e, .bool f] 1).run Tryd.prog W = Result.ok (.bool b) W := fun _ _ _ _ _ _ W => by kernel_rfl
  have p2 : ∀ (a b c d e f : Bool) W, (Go.part 4 #[.bool a, .bool b, .bool c, .bool d, .bool e, .bool f] 2).run Tryd.prog W = Result.ok (.bool c) W := fun _ _ _ _ _ _ W => by kernel_rfl
  have p3 : ∀ (a b c d e f : Bool) W, (Go.part 4 #[.bool a, .bool b, .bool c, .bool d, .bool e, .bool f] 3).run Tryd.prog W = Result.ok (.bool d) W := fun _ _ _ _ _ _ W => by kernel_rfl
  have p4 : ∀ (a b c d e f : Bool) W, (Go.part 4 #[.bool a, .bool b, .bool c, .bool d, .bool e, .bool f] 4).run Tryd.prog W = Result.ok (.bool e) W := fun _ _ _ _ _ _ W => by kernel_rfl
  have p5 : ∀ (a b c d e f : Bool) W, (Go.part 4 #[.bool a, .bool b, .bool c, .bool d, .bool e, .bool f] 5).run Tryd.prog W = Result.ok (.bool f) W := fun _ _ _ _ _ _ W => by kernel_rfl
  rw [e]
  simp only [Op.eqFields, n0, t0, o0, n1, t1, o1, n2, t2, o2, n3, t3, o3, n4, t4, o4, n5, t5, o5]
  simp only [show ("AS4" ≠ "_") = True by decide, show ("Extended" ≠ "_") = True by decide, show ("MP4" ≠ "_") = True by decide, show ("MP6" ≠ "_") = True by decide, show ("Add4" ≠ "_") = True by decide, show ("Add6" ≠ "_") = True by decide, if_true, Sem.run_bind, p0, Result.andThen_ok, q]
  clear hf e n0 t0 o0 n1 t1 o1 n2 t2 o2 n3 t3 o3 n4 t4 o4 n5 t5 o5 hz
  by_cases h0 : a0 = b0
  · subst h0
    by_cases h1 : a1 = b1
    · subst h1
      by_cases h2 : a2 = b2
      · subst h2
        by_cases h3 : a3 = b3
        · subst h3
          by_cases h4 : a4 = b4
          · subst h4
            by_cases h5 : a5 = b5
            · subst h5
              simp [p1, p2, p3, p4, p5, q]
            · simp [h5, p1, p2, p3, p4, p5, q]
          · simp [h4, p1, p2, p3, p4, q]
        · simp [h3, p1, p2, p3, q]
      · simp [h2, p1, p2, q]
    · simp [h1, p1, q]
  · simp [h0]
set_option maxRecDepth 100000 in
theorem op_eql (a0 a1 a2 a3 a4 a5 b0 b1 b2 b3 b4 b5 : Bool) (W : World) : (binOp .eql 23 (.agg #[.bool a0, .bool a1, .bool a2, .bool a3, .bool a4, .bool a5]) (.agg #[.bool b0, .bool b1, .bool b2, .bool b3, .bool b4, .bool b5])).run Tryd.prog W = Result.ok (.bool (decide (a0 = b0) && (decide (a1 = b1) && (decide (a2 = b2) && (decide (a3 = b3) && (decide (a4 = b4) && decide (a5 = b5))))))) W := by
  rw [run_eql_struct W, op_eqIn]; rfl
set_option maxRecDepth 100000 in
theorem op_same (a0 a1 a2 a3 a4 a5 : Bool) (W : World) : (binOp .eql 23 (.agg #[.bool a0, .bool a1, .bool a2, .bool a3, .bool a4, .bool a5]) (.agg #[.bool a0, .bool a1, .bool a2, .bool a3, .bool a4, .bool a5])).run Tryd.prog W = Result.ok (.bool true) W := by
  rw [op_eql]; simp
set_option maxRecDepth 100000 in
theorem fd_info (a b : Value) : (Tryd.prog.info? 168).map (·.size) = some (#[a, b] : Array Value).size := by kernel_rfl
theorem fd_one (s : ByteArray) (f : Nat) : (#[Value.string s, .func (.func f) #[] #[]] : Array Value).all (·.oneCell') = true := by simp [Value.oneCell']
def optL (a0 a1 a2 a3 a4 a5 : Bool) : List (Bool × ByteArray) := [(a0, ⟨#[97, 115, 52]⟩), (a1, ⟨#[101, 120, 116, 101, 110, 100, 101, 100]⟩), (a2, ⟨#[109, 112, 52]⟩), (a3, ⟨#[109, 112, 54]⟩), (a4, ⟨#[97, 100, 100, 52]⟩), (a5, ⟨#[97, 100, 100, 54]⟩)]
def optN (l : List (Bool × ByteArray)) : List ByteArray := l.filterMap fun p => if p.1 then some p.2 else none
/-- The names of the options among the first k. -/
def oB (a0 a1 a2 a3 a4 a5 : Bool) (k : Nat) : List ByteArray := optN ((optL a0 a1 a2 a3 a4 a5).take k)
theorem oB_step (a0 a1 a2 a3 a4 a5 : Bool) (k : Nat) {x : Bool × ByteArray} (h : (optL a0 a1 a2 a3 a4 a5)[k]? = some x) : oB a0 a1 a2 a3 a4 a5 (k + 1) = if x.1 then oB a0 a1 a2 a3 a4 a5 k ++ [x.2] else oB a0 a1 a2 a3 a4 a5 k := by
  unfold oB optN
  rw [List.take_add_one, h]
  cases hx : x.1 <;> simp [hx]
theorem oB_len (a0 a1 a2 a3 a4 a5 : Bool) (k : Nat) : (oB a0 a1 a2 a3 a4 a5 k).length ≤ 6 := by
  unfold oB optN
  have h1 := List.length_filterMap_le (fun p : Bool × ByteArray => if p.1 then some p.2 else none) ((optL a0 a1 a2 a3 a4 a5).take k)
  have h2 : ((optL a0 a1 a2 a3 a4 a5).take k).length ≤ 6 := by rw [List.length_take]; exact Nat.min_le_right _ _
  omega
theorem oB_small (a0 a1 a2 a3 a4 a5 : Bool) (k : Nat) : ∀ x ∈ oB a0 a1 a2 a3 a4 a5 k, x.data.toList.length ≤ 8 := by
  intro x hx
  unfold oB optN at hx
  obtain ⟨p, hp, hq⟩ := List.mem_filterMap.1 hx
  have hp := List.mem_of_mem_take hp
  split at hq
  · have := Option.some.inj hq
    subst this
    unfold optL at hp
    simp only [List.mem_cons, List.not_mem_nil, or_false] at hp
    rcases hp with h | h | h | h | h | h <;> (rw [h]; simp)
  · cases hq
def oNone (a0 a1 a2 a3 a4 a5 : Bool) : Bool := !a0 && !a1 && !a2 && !a3 && !a4 && !a5
/-- The text of options. -/
def oTxt (a0 a1 a2 a3 a4 a5 : Bool) : ByteArray := if oNone a0 a1 a2 a3 a4 a5 then ⟨#[45]⟩ else joinB (oB a0 a1 a2 a3 a4 a5 6) [32]
set_option maxRecDepth 100000 in
theorem sl_strO : SliceOf Tryd.prog 113 9 1 16 := SliceOf.mk Tryd.underlying113 (z := .string ⟨#[]⟩) (by kernel_rfl) rfl (by decide)
set_option maxRecDepth 100000 in
set_option maxHeartbeats 800000 in
theorem otext_none (w : World) : Calls Tryd.prog 100 #[.agg #[.bool false, .bool false, .bool false, .bool false, .bool false, .bool false]] w fun e w' => e = .returned (.string ⟨#[45]⟩) ∧ Below w.heap.size w w' := by
  have he := op_same false false false false false false
  have hb0 := bl_alloc (bl_refl w) (.cells #[.bool false, .bool false, .bool false, .bool false, .bool false, .bool false] 23)
  go_enter Tryd.func100, Tryd.ntmps100
  go_wp2
  go_ret
  exact ⟨rfl, hb0⟩
set_option maxRecDepth 100000 in
set_option maxHeartbeats 6400000 in
theorem otext_some (a0 a1 a2 a3 a4 a5 : Bool) (w : World) (hz : oNone a0 a1 a2 a3 a4 a5 = false) :
    Calls Tryd.prog 100 #[.agg #[.bool a0, .bool a1, .bool a2, .bool a3, .bool a4, .bool a5]] w fun e w' => e = .returned (.string (joinB (oB a0 a1 a2 a3 a4 a5 6) [32])) ∧ Below w.heap.size w w' := by
  have he : ∀ W, (binOp .eql 23 (.agg #[.bool a0, .bool a1, .bool a2, .bool a3, .bool a4, .bool a5]) (.agg #[.bool false, .bool false, .bool false, .bool false, .bool false, .bool false])).run Tryd.prog W = Result.ok (.bool false) W := fun W => by
    rw [op_eql]
    have : (decide (a0 = false) && (decide (a1 = false) && (decide (a2 = false) && (decide (a3 = false) && (decide (a4 = false) && decide (a5 = false)))))) = oNone a0 a1 a2 a3 a4 a5 := by unfold oNone; revert hz; cases a0 <;> cases a1 <;> cases a2 <;> cases a3 <;> cases a4 <;> cases a5 <;> simp
    rw [this, hz]
  clear hz
  have hs0 := Lib.hid (oB_step a0 a1 a2 a3 a4 a5 0 (x := (a0, ⟨#[97, 115, 52]⟩)) rfl)
  have hs1 := Lib.hid (oB_step a0 a1 a2 a3 a4 a5 1 (x := (a1, ⟨#[101, 120, 116, 101, 110, 100, 101, 100]⟩)) rfl)
  have hs2 := Lib.hid (oB_step a0 a1 a2 a3 a4 a5 2 (x := (a2, ⟨#[109, 112, 52]⟩)) rfl)
  have hs3 := Lib.hid (oB_step a0 a1 a2 a3 a4 a5 3 (x := (a3, ⟨#[109, 112, 54]⟩)) rfl)
  have hs4 := Lib.hid (oB_step a0 a1 a2 a3 a4 a5 4 (x := (a4, ⟨#[97, 100, 100, 52]⟩)) rfl)
  have hs5 := Lib.hid (oB_step a0 a1 a2 a3 a4 a5 5 (x := (a5, ⟨#[97, 100, 100, 54]⟩)) rfl)
  have hln := Lib.hid (oB_len a0 a1 a2 a3 a4 a5)
  have hsm := Lib.hid (oB_small a0 a1 a2 a3 a4 a5 6)
  have h0N : Hid (oB a0 a1 a2 a3 a4 a5 0 = []) := Lib.hid rfl
  generalize oB a0 a1 a2 a3 a4 a5 = N at *
  have hb0 := bl_alloc (bl_alloc (bl_refl w) (.cells #[.bool a0, .bool a1, .bool a2, .bool a3, .bool a4, .bool a5] 23)) (.cells #[.bool a0, .bool a1, .bool a2, .bool a3, .bool a4, .bool a5] 165)
  have o1 := Own.new (w.alloc (.cells #[.bool a0, .bool a1, .bool a2, .bool a3, .bool a4, .bool a5] 23)) 165 #[.bool a0, .bool a1, .bool a2, .bool a3, .bool a4, .bool a5]
  rw [show (w.alloc (.cells #[.bool a0, .bool a1, .bool a2, .bool a3, .bool a4, .bool a5] 23)).heap.size = w.heap.size + 1 by simp] at o1
  go_enter Tryd.func100, Tryd.ntmps100
  go_wp2_with fail
  refine (fields_any _).mono ?_
  rintro e w1 ⟨rfl, hb1⟩
  have o2 := o1.step hb1
  have hb2 := bl_trans hb0 hb1
  have hown0 : w1.ownsRow (w.heap.size + 1 + 1) 9 1 (.slice none 0 0) (N 0).length ((N 0).map Value.string) := by
    rw [h0N.out]
    exact World.ownsRow_nil _ _ _ _
  clear he hb0 hb1 o1
  go_wp2_with fail
  go_loopw [4, 13] (fun v i wr => ∃ k : Nat, k ≤ 6 ∧ i = .int .i64 k ∧ wr.ownsRow (w.heap.size + 1 + 1) 9 1 v (N k).length ((N k).map Value.string) ∧ Own wr (w.heap.size + 1) 165 #[.bool a0, .bool a1, .bool a2, .bool a3, .bool a4, .bool a5] ∧ Below w.heap.size w wr) (fun _ i _ => 6 - (intOf i).toNat)
  case atStart => exact ⟨0, by omega, rfl, hown0, o2, hb2⟩
  case round =>
    obtain ⟨k, hk, rfl, hown, hor, hbr⟩ := hrel
    clear hown0 o2 hb2
    have hl := hor.lt
    have hk6 : k = 0 ∨ k = 1 ∨ k = 2 ∨ k = 3 ∨ k = 4 ∨ k = 5 ∨ k = 6 := by omega
    rcases hk6 with rfl | rfl | rfl | rfl | rfl | rfl | rfl
    · have hidx := fidx0
      have hll := hln.out 0
      by_cases hb : a0 = true
      · have HB := Lib.hid hb
        have hst := Lib.hid (show N 1 = N 0 ++ [⟨#[97, 115, 52]⟩] by have := hs0.out; rw [hb] at this; exact this)
        clear hb
        go_wp2_with (first | (refine wpList_store_row rfl 168 _ _ rfl wr.heap.size #[.string ⟨#[97, 115, 52]⟩, .func (.func 145) #[] #[]] rfl rfl 168 #[.string ⟨#[]⟩, .nilFunc] (Own.new wr 168 #[.string ⟨#[]⟩, .nilFunc]) (fd_info _ _) rfl (fd_one _ _) ?_; have oN := (Own.new wr 168 #[.string ⟨#[]⟩, .nilFunc]).setRow (cs' := #[.string ⟨#[97, 115, 52]⟩, .func (.func 145) #[] #[]]); have hbS := bl_setRow (g := wr.heap.size) (cs := #[.string ⟨#[97, 115, 52]⟩, .func (.func 145) #[] #[]]) (bl_alloc (bl_refl wr) (.cells #[.string ⟨#[]⟩, .nilFunc] 168)) (Nat.le_refl _); have hown1 := own_belowG hown hbS; have hor1 := hor.step hbS; have hbr1 := bl_trans hbr hbS; generalize (wr.alloc (.cells #[.string ⟨#[]⟩, .nilFunc] 168)).setRow wr.heap.size #[.string ⟨#[97, 115, 52]⟩, .func (.func 145) #[] #[]] = V at *; have x0 := oN.cell (i := 0) rfl; have x1 := oN.cell (i := 1) rfl; have hc : V.cell? ⟨w.heap.size + 1, 0, none⟩ = some (.bool true) := (by have := hor1.cell (i := 0) (v := .bool a0) rfl; rw [HB.out] at this; exact this); have hl1 := hor1.lt; have hl2 := oN.lt; clear hown hor hbr hbS oN) | (go_at_call 145; refine (rec0_any _ _).mono ?_; rintro e w' ⟨rfl, rfl⟩) | (at_builtin; refine wpList_append_grow _ rfl _ _ rfl sl_strO (w.heap.size + 1 + 1) _ _ _ rfl (hown1.alloc _) (V.heap.size + 1) (some ⟨V.heap.size, 0, none⟩) 1 1 [_] rfl rfl (Shows.of_owned (Own.new _ _ _) (by omega)) (one1 rfl) (by unfold maxLen; omega) (by omega) (by simp; omega) ?_; intro v1 w3 hown2 hgrow2))
        have hb3 : Below w.heap.size w w3 := (hbr1.alloc hbr1.size _).grown hgrow2 (by have := hbr1.size; simp; omega) (fun j hj => Nat.le_trans (by omega) (own_base hown1 j hj))
        have hor2 : Own w3 (w.heap.size + 1) 165 #[.bool a0, .bool a1, .bool a2, .bool a3, .bool a4, .bool a5] := (hor1.alloc _).grown hgrow2 (by intro e; have := own_base hown1 _ e.symm; omega)
        go_roundw
        case rel =>
          refine ⟨1, by omega, by go_num, ?_, hor2, hb3⟩
          rw [hst.out, List.length_append, List.map_append]
          exact hown2
        case measure => simp [intOf]
      · have HB := Lib.hid (show a0 = false by simpa using hb)
        have hst := Lib.hid (show N 1 = N 0 by have := hs0.out; rw [HB.out] at this; exact this)
        clear hb
        go_wp2_with (first | (refine wpList_store_row rfl 168 _ _ rfl wr.heap.size #[.string ⟨#[97, 115, 52]⟩, .func (.func 145) #[] #[]] rfl rfl 168 #[.string ⟨#[]⟩, .nilFunc] (Own.new wr 168 #[.string ⟨#[]⟩, .nilFunc]) (fd_info _ _) rfl (fd_one _ _) ?_; have oN := (Own.new wr 168 #[.string ⟨#[]⟩, .nilFunc]).setRow (cs' := #[.string ⟨#[97, 115, 52]⟩, .func (.func 145) #[] #[]]); have hbS := bl_setRow (g := wr.heap.size) (cs := #[.string ⟨#[97, 115, 52]⟩, .func (.func 145) #[] #[]]) (bl_alloc (bl_refl wr) (.cells #[.string ⟨#[]⟩, .nilFunc] 168)) (Nat.le_refl _); have hown1 := own_belowG hown hbS; have hor1 := hor.step hbS; have hbr1 := bl_trans hbr hbS; generalize (wr.alloc (.cells #[.string ⟨#[]⟩, .nilFunc] 168)).setRow wr.heap.size #[.string ⟨#[97, 115, 52]⟩, .func (.func 145) #[] #[]] = V at *; have x0 := oN.cell (i := 0) rfl; have x1 := oN.cell (i := 1) rfl; have hc : V.cell? ⟨w.heap.size + 1, 0, none⟩ = some (.bool false) := (by have := hor1.cell (i := 0) (v := .bool a0) rfl; rw [HB.out] at this; exact this); have hl1 := hor1.lt; have hl2 := oN.lt; clear hown hor hbr hbS oN) | (go_at_call 145; refine (rec0_any _ _).mono ?_; rintro e w' ⟨rfl, rfl⟩))
        go_roundw
        case rel => exact ⟨1, by omega, by go_num, by rw [hst.out]; exact hown1, hor1, hbr1⟩
        case measure => simp [intOf]
    · have hidx := fidx1
      have hll := hln.out 1
      by_cases hb : a1 = true
      · have HB := Lib.hid hb
        have hst := Lib.hid (show N 2 = N 1 ++ [⟨#[101, 120, 116, 101, 110, 100, 101, 100]⟩] by have := hs1.out; rw [hb] at this; exact this)
        clear hb
        go_wp2_with (first | (refine wpList_store_row rfl 168 _ _ rfl wr.heap.size #[.string ⟨#[101, 120, 116, 101, 110, 100, 101, 100]⟩, .func (.func 146) #[] #[]] rfl rfl 168 #[.string ⟨#[]⟩, .nilFunc] (Own.new wr 168 #[.string ⟨#[]⟩, .nilFunc]) (fd_info _ _) rfl (fd_one _ _) ?_; have oN := (Own.new wr 168 #[.string ⟨#[]⟩, .nilFunc]).setRow (cs' := #[.string ⟨#[101, 120, 116, 101, 110, 100, 101, 100]⟩, .func (.func 146) #[] #[]]); have hbS := bl_setRow (g := wr.heap.size) (cs := #[.string ⟨#[101, 120, 116, 101, 110, 100, 101, 100]⟩, .func (.func 146) #[] #[]]) (bl_alloc (bl_refl wr) (.cells #[.string ⟨#[]⟩, .nilFunc] 168)) (Nat.le_refl _); have hown1 := own_belowG hown hbS; have hor1 := hor.step hbS; have hbr1 := bl_trans hbr hbS; generalize (wr.alloc (.cells #[.string ⟨#[]⟩, .nilFunc] 168)).setRow wr.heap.size #[.string ⟨#[101, 120, 116, 101, 110, 100, 101, 100]⟩, .func (.func 146) #[] #[]] = V at *; have x0 := oN.cell (i := 0) rfl; have x1 := oN.cell (i := 1) rfl; have hc : V.cell? ⟨w.heap.size + 1, 1, none⟩ = some (.bool true) := (by have := hor1.cell (i := 1) (v := .bool a1) rfl; rw [HB.out] at this; exact this); have hl1 := hor1.lt; have hl2 := oN.lt; clear hown hor hbr hbS oN) | (go_at_call 146; refine (rec1_any _ _).mono ?_; rintro e w' ⟨rfl, rfl⟩) | (at_builtin; refine wpList_append_grow _ rfl _ _ rfl sl_strO (w.heap.size + 1 + 1) _ _ _ rfl (hown1.alloc _) (V.heap.size + 1) (some ⟨V.heap.size, 0, none⟩) 1 1 [_] rfl rfl (Shows.of_owned (Own.new _ _ _) (by omega)) (one1 rfl) (by unfold maxLen; omega) (by omega) (by simp; omega) ?_; intro v1 w3 hown2 hgrow2))
        have hb3 : Below w.heap.size w w3 := (hbr1.alloc hbr1.size _).grown hgrow2 (by have := hbr1.size; simp; omega) (fun j hj => Nat.le_trans (by omega) (own_base hown1 j hj))
        have hor2 : Own w3 (w.heap.size + 1) 165 #[.bool a0, .bool a1, .bool a2, .bool a3, .bool a4, .bool a5] := (hor1.alloc _).grown hgrow2 (by intro e; have := own_base hown1 _ e.symm; omega)
        go_roundw
        case rel =>
          refine ⟨2, by omega, by go_num, ?_, hor2, hb3⟩
          rw [hst.out, List.length_append, List.map_append]
          exact hown2
        case measure => simp [intOf]
      · have HB := Lib.hid (show a1 = false by simpa using hb)
        have hst := Lib.hid (show N 2 = N 1 by have := hs1.out; rw [HB.out] at this; exact this)
        clear hb
        go_wp2_with (first | (refine wpList_store_row rfl 168 _ _ rfl wr.heap.size #[.string ⟨#[101, 120, 116, 101, 110, 100, 101, 100]⟩, .func (.func 146) #[] #[]] rfl rfl 168 #[.string ⟨#[]⟩, .nilFunc] (Own.new wr 168 #[.string ⟨#[]⟩, .nilFunc]) (fd_info _ _) rfl (fd_one _ _) ?_; have oN := (Own.new wr 168 #[.string ⟨#[]⟩, .nilFunc]).setRow (cs' := #[.string ⟨#[101, 120, 116, 101, 110, 100, 101, 100]⟩, .func (.func 146) #[] #[]]); have hbS := bl_setRow (g := wr.heap.size) (cs := #[.string ⟨#[101, 120, 116, 101, 110, 100, 101, 100]⟩, .func (.func 146) #[] #[]]) (bl_alloc (bl_refl wr) (.cells #[.string ⟨#[]⟩, .nilFunc] 168)) (Nat.le_refl _); have hown1 := own_belowG hown hbS; have hor1 := hor.step hbS; have hbr1 := bl_trans hbr hbS; generalize (wr.alloc (.cells #[.string ⟨#[]⟩, .nilFunc] 168)).setRow wr.heap.size #[.string ⟨#[101, 120, 116, 101, 110, 100, 101, 100]⟩, .func (.func 146) #[] #[]] = V at *; have x0 := oN.cell (i := 0) rfl; have x1 := oN.cell (i := 1) rfl; have hc : V.cell? ⟨w.heap.size + 1, 1, none⟩ = some (.bool false) := (by have := hor1.cell (i := 1) (v := .bool a1) rfl; rw [HB.out] at this; exact this); have hl1 := hor1.lt; have hl2 := oN.lt; clear hown hor hbr hbS oN) | (go_at_call 146; refine (rec1_any _ _).mono ?_; rintro e w' ⟨rfl, rfl⟩))
        go_roundw
        case rel => exact ⟨2, by omega, by go_num, by rw [hst.out]; exact hown1, hor1, hbr1⟩
        case measure => simp [intOf]
    · have hidx := fidx2
      have hll := hln.out 2
      by_cases hb : a2 = true
      · have HB := Lib.hid hb
        have hst := Lib.hid (show N 3 = N 2 ++ [⟨#[109, 112, 52]⟩] by have := hs2.out; rw [hb] at this; exact this)
        clear hb
        go_wp2_with (first | (refine wpList_store_row rfl 168 _ _ rfl wr.heap.size #[.string ⟨#[109, 112, 52]⟩, .func (.func 147) #[] #[]] rfl rfl 168 #[.string ⟨#[]⟩, .nilFunc] (Own.new wr 168 #[.string ⟨#[]⟩, .nilFunc]) (fd_info _ _) rfl (fd_one _ _) ?_; have oN := (Own.new wr 168 #[.string ⟨#[]⟩, .nilFunc]).setRow (cs' := #[.string ⟨#[109, 112, 52]⟩, .func (.func 147) #[] #[]]); have hbS := bl_setRow (g := wr.heap.size) (cs := #[.string ⟨#[109, 112, 52]⟩, .func (.func 147) #[] #[]]) (bl_alloc (bl_refl wr) (.cells #[.string ⟨#[]⟩, .nilFunc] 168)) (Nat.le_refl _); have hown1 := own_belowG hown hbS; have hor1 := hor.step hbS; have hbr1 := bl_trans hbr hbS; generalize (wr.alloc (.cells #[.string ⟨#[]⟩, .nilFunc] 168)).setRow wr.heap.size #[.string ⟨#[109, 112, 52]⟩, .func (.func 147) #[] #[]] = V at *; have x0 := oN.cell (i := 0) rfl; have x1 := oN.cell (i := 1) rfl; have hc : V.cell? ⟨w.heap.size + 1, 2, none⟩ = some (.bool true) := (by have := hor1.cell (i := 2) (v := .bool a2) rfl; rw [HB.out] at this; exact this); have hl1 := hor1.lt; have hl2 := oN.lt; clear hown hor hbr hbS oN) | (go_at_call 147; refine (rec2_any _ _).mono ?_; rintro e w' ⟨rfl, rfl⟩) | (at_builtin; refine wpList_append_grow _ rfl _ _ rfl sl_strO (w.heap.size + 1 + 1) _ _ _ rfl (hown1.alloc _) (V.heap.size + 1) (some ⟨V.heap.size, 0, none⟩) 1 1 [_] rfl rfl (Shows.of_owned (Own.new _ _ _) (by omega)) (one1 rfl) (by unfold maxLen; omega) (by omega) (by simp; omega) ?_; intro v1 w3 hown2 hgrow2))
        have hb3 : Below w.heap.size w w3 := (hbr1.alloc hbr1.size _).grown hgrow2 (by have := hbr1.size; simp; omega) (fun j hj => Nat.le_trans (by omega) (own_base hown1 j hj))
        have hor2 : Own w3 (w.heap.size + 1) 165 #[.bool a0, .bool a1, .bool a2, .bool a3, .bool a4, .bool a5] := (hor1.alloc _).grown hgrow2 (by intro e; have := own_base hown1 _ e.symm; omega)
        go_roundw
        case rel =>
          refine ⟨3, by omega, by go_num, ?_, hor2, hb3⟩
          rw [hst.out, List.length_append, List.map_append]
          exact hown2
        case measure => simp [intOf]
      · have HB := Lib.hid (show a2 = false by simpa using hb)
        have hst := Lib.hid (show N 3 = N 2 by have := hs2.out; rw [HB.out] at this; exact this)
        clear hb
        go_wp2_with (first | (refine wpList_store_row rfl 168 _ _ rfl wr.heap.size #[.string ⟨#[109, 112, 52]⟩, .func (.func 147) #[] #[]] rfl rfl 168 #[.string ⟨#[]⟩, .nilFunc] (Own.new wr 168 #[.string ⟨#[]⟩, .nilFunc]) (fd_info _ _) rfl (fd_one _ _) ?_; have oN := (Own.new wr 168 #[.string ⟨#[]⟩, .nilFunc]).setRow (cs' := #[.string ⟨#[109, 112, 52]⟩, .func (.func 147) #[] #[]]); have hbS := bl_setRow (g := wr.heap.size) (cs := #[.string ⟨#[109, 112, 52]⟩, .func (.func 147) #[] #[]]) (bl_alloc (bl_refl wr) (.cells #[.string ⟨#[]⟩, .nilFunc] 168)) (Nat.le_refl _); have hown1 := own_belowG hown hbS; have hor1 := hor.step hbS; have hbr1 := bl_trans hbr hbS; generalize (wr.alloc (.cells #[.string ⟨#[]⟩, .nilFunc] 168)).setRow wr.heap.size #[.string ⟨#[109, 112, 52]⟩, .func (.func 147) #[] #[]] = V at *; have x0 := oN.cell (i := 0) rfl; have x1 := oN.cell (i := 1) rfl; have hc : V.cell? ⟨w.heap.size + 1, 2, none⟩ = some (.bool false) := (by have := hor1.cell (i := 2) (v := .bool a2) rfl; rw [HB.out] at this; exact this); have hl1 := hor1.lt; have hl2 := oN.lt; clear hown hor hbr hbS oN) | (go_at_call 147; refine (rec2_any _ _).mono ?_; rintro e w' ⟨rfl, rfl⟩))
        go_roundw
        case rel => exact ⟨3, by omega, by go_num, by rw [hst.out]; exact hown1, hor1, hbr1⟩
        case measure => simp [intOf]
    · have hidx := fidx3
      have hll := hln.out 3
      by_cases hb : a3 = true
      · have HB := Lib.hid hb
        have hst := Lib.hid (show N 4 = N 3 ++ [⟨#[109, 112, 54]⟩] by have := hs3.out; rw [hb] at this; exact this)
        clear hb
        go_wp2_with (first | (refine wpList_store_row rfl 168 _ _ rfl wr.heap.size #[.string ⟨#[109, 112, 54]⟩, .func (.func 148) #[] #[]] rfl rfl 168 #[.string ⟨#[]⟩, .nilFunc] (Own.new wr 168 #[.string ⟨#[]⟩, .nilFunc]) (fd_info _ _) rfl (fd_one _ _) ?_; have oN := (Own.new wr 168 #[.string ⟨#[]⟩, .nilFunc]).setRow (cs' := #[.string ⟨#[109, 112, 54]⟩, .func (.func 148) #[] #[]]); have hbS := bl_setRow (g := wr.heap.size) (cs := #[.string ⟨#[109, 112, 54]⟩, .func (.func 148) #[] #[]]) (bl_alloc (bl_refl wr) (.cells #[.string ⟨#[]⟩, .nilFunc] 168)) (Nat.le_refl _); have hown1 := own_belowG hown hbS; have hor1 := hor.step hbS; have hbr1 := bl_trans hbr hbS; generalize (wr.alloc (.cells #[.string ⟨#[]⟩, .nilFunc] 168)).setRow wr.heap.size #[.string ⟨#[109, 112, 54]⟩, .func (.func 148) #[] #[]] = V at *; have x0 := oN.cell (i := 0) rfl; have x1 := oN.cell (i := 1) rfl; have hc : V.cell? ⟨w.heap.size + 1, 3, none⟩ = some (.bool true) := (by have := hor1.cell (i := 3) (v := .bool a3) rfl; rw [HB.out] at this; exact this); have hl1 := hor1.lt; have hl2 := oN.lt; clear hown hor hbr hbS oN) | (go_at_call 148; refine (rec3_any _ _).mono ?_; rintro e w' ⟨rfl, rfl⟩) | (at_builtin; refine wpList_append_grow _ rfl _ _ rfl sl_strO (w.heap.size + 1 + 1) _ _ _ rfl (hown1.alloc _) (V.heap.size + 1) (some ⟨V.heap.size, 0, none⟩) 1 1 [_] rfl rfl (Shows.of_owned (Own.new _ _ _) (by omega)) (one1 rfl) (by unfold maxLen; omega) (by omega) (by simp; omega) ?_; intro v1 w3 hown2 hgrow2))
        have hb3 : Below w.heap.size w w3 := (hbr1.alloc hbr1.size _).grown hgrow2 (by have := hbr1.size; simp; omega) (fun j hj => Nat.le_trans (by omega) (own_base hown1 j hj))
        have hor2 : Own w3 (w.heap.size + 1) 165 #[.bool a0, .bool a1, .bool a2, .bool a3, .bool a4, .bool a5] := (hor1.alloc _).grown hgrow2 (by intro e; have := own_base hown1 _ e.symm; omega)
        go_roundw
        case rel =>
          refine ⟨4, by omega, by go_num, ?_, hor2, hb3⟩
          rw [hst.out, List.length_append, List.map_append]
          exact hown2
        case measure => simp [intOf]
      · have HB := Lib.hid (show a3 = false by simpa using hb)
        have hst := Lib.hid (show N 4 = N 3 by have := hs3.out; rw [HB.out] at this; exact this)
        clear hb
        go_wp2_with (first | (refine wpList_store_row rfl 168 _ _ rfl wr.heap.size #[.string ⟨#[109, 112, 54]⟩, .func (.func 148) #[] #[]] rfl rfl 168 #[.string ⟨#[]⟩, .nilFunc] (Own.new wr 168 #[.string ⟨#[]⟩, .nilFunc]) (fd_info _ _) rfl (fd_one _ _) ?_; have oN := (Own.new wr 168 #[.string ⟨#[]⟩, .nilFunc]).setRow (cs' := #[.string ⟨#[109, 112, 54]⟩, .func (.func 148) #[] #[]]); have hbS := bl_setRow (g := wr.heap.size) (cs := #[.string ⟨#[109, 112, 54]⟩, .func (.func 148) #[] #[]]) (bl_alloc (bl_refl wr) (.cells #[.string ⟨#[]⟩, .nilFunc] 168)) (Nat.le_refl _); have hown1 := own_belowG hown hbS; have hor1 := hor.step hbS; have hbr1 := bl_trans hbr hbS; generalize (wr.alloc (.cells #[.string ⟨#[]⟩, .nilFunc] 168)).setRow wr.heap.size #[.string ⟨#[109, 112, 54]⟩, .func (.func 148) #[] #[]] = V at *; have x0 := oN.cell (i := 0) rfl; have x1 := oN.cell (i := 1) rfl; have hc : V.cell? ⟨w.heap.size + 1, 3, none⟩ = some (.bool false) := (by have := hor1.cell (i := 3) (v := .bool a3) rfl; rw [HB.out] at this; exact this); have hl1 := hor1.lt; have hl2 := oN.lt; clear hown hor hbr hbS oN) | (go_at_call 148; refine (rec3_any _ _).mono ?_; rintro e w' ⟨rfl, rfl⟩))
        go_roundw
        case rel => exact ⟨4, by omega, by go_num, by rw [hst.out]; exact hown1, hor1, hbr1⟩
        case measure => simp [intOf]
    · have hidx := fidx4
      have hll := hln.out 4
      by_cases hb : a4 = true
      · have HB := Lib.hid hb
        have hst := Lib.hid (show N 5 = N 4 ++ [⟨#[97, 100, 100, 52]⟩] by have := hs4.out; rw [hb] at this; exact this)
        clear hb
        go_wp2_with (first | (refine wpList_store_row rfl 168 _ _ rfl wr.heap.size #[.string ⟨#[97, 100, 100, 52]⟩, .func (.func 149) #[] #[]] rfl rfl 168 #[.string ⟨#[]⟩, .nilFunc] (Own.new wr 168 #[.string ⟨#[]⟩, .nilFunc]) (fd_info _ _) rfl (fd_one _ _) ?_; have oN := (Own.new wr 168 #[.string ⟨#[]⟩, .nilFunc]).setRow (cs' := #[.string ⟨#[97, 100, 100, 52]⟩, .func (.func 149) #[] #[]]); have hbS := bl_setRow (g := wr.heap.size) (cs := #[.string ⟨#[97, 100, 100, 52]⟩, .func (.func 149) #[] #[]]) (bl_alloc (bl_refl wr) (.cells #[.string ⟨#[]⟩, .nilFunc] 168)) (Nat.le_refl _); have hown1 := own_belowG hown hbS; have hor1 := hor.step hbS; have hbr1 := bl_trans hbr hbS; generalize (wr.alloc (.cells #[.string ⟨#[]⟩, .nilFunc] 168)).setRow wr.heap.size #[.string ⟨#[97, 100, 100, 52]⟩, .func (.func 149) #[] #[]] = V at *; have x0 := oN.cell (i := 0) rfl; have x1 := oN.cell (i := 1) rfl; have hc : V.cell? ⟨w.heap.size + 1, 4, none⟩ = some (.bool true) := (by have := hor1.cell (i := 4) (v := .bool a4) rfl; rw [HB.out] at this; exact this); have hl1 := hor1.lt; have hl2 := oN.lt; clear hown hor hbr hbS oN) | (go_at_call 149; refine (rec4_any _ _).mono ?_; rintro e w' ⟨rfl, rfl⟩) | (at_builtin; refine wpList_append_grow _ rfl _ _ rfl sl_strO (w.heap.size + 1 + 1) _ _ _ rfl (hown1.alloc _) (V.heap.size + 1) (some ⟨V.heap.size, 0, none⟩) 1 1 [_] rfl rfl (Shows.of_owned (Own.new _ _ _) (by omega)) (one1 rfl) (by unfold maxLen; omega) (by omega) (by simp; omega) ?_; intro v1 w3 hown2 hgrow2))
        have hb3 : Below w.heap.size w w3 := (hbr1.alloc hbr1.size _).grown hgrow2 (by have := hbr1.size; simp; omega) (fun j hj => Nat.le_trans (by omega) (own_base hown1 j hj))
        have hor2 : Own w3 (w.heap.size + 1) 165 #[.bool a0, .bool a1, .bool a2, .bool a3, .bool a4, .bool a5] := (hor1.alloc _).grown hgrow2 (by intro e; have := own_base hown1 _ e.symm; omega)
        go_roundw
        case rel =>
          refine ⟨5, by omega, by go_num, ?_, hor2, hb3⟩
          rw [hst.out, List.length_append, List.map_append]
          exact hown2
        case measure => simp [intOf]
      · have HB := Lib.hid (show a4 = false by simpa using hb)
        have hst := Lib.hid (show N 5 = N 4 by have := hs4.out; rw [HB.out] at this; exact this)
        clear hb
        go_wp2_with (first | (refine wpList_store_row rfl 168 _ _ rfl wr.heap.size #[.string ⟨#[97, 100, 100, 52]⟩, .func (.func 149) #[] #[]] rfl rfl 168 #[.string ⟨#[]⟩, .nilFunc] (Own.new wr 168 #[.string ⟨#[]⟩, .nilFunc]) (fd_info _ _) rfl (fd_one _ _) ?_; have oN := (Own.new wr 168 #[.string ⟨#[]⟩, .nilFunc]).setRow (cs' := #[.string ⟨#[97, 100, 100, 52]⟩, .func (.func 149) #[] #[]]); have hbS := bl_setRow (g := wr.heap.size) (cs := #[.string ⟨#[97, 100, 100, 52]⟩, .func (.func 149) #[] #[]]) (bl_alloc (bl_refl wr) (.cells #[.string ⟨#[]⟩, .nilFunc] 168)) (Nat.le_refl _); have hown1 := own_belowG hown hbS; have hor1 := hor.step hbS; have hbr1 := bl_trans hbr hbS; generalize (wr.alloc (.cells #[.string ⟨#[]⟩, .nilFunc] 168)).setRow wr.heap.size #[.string ⟨#[97, 100, 100, 52]⟩, .func (.func 149) #[] #[]] = V at *; have x0 := oN.cell (i := 0) rfl; have x1 := oN.cell (i := 1) rfl; have hc : V.cell? ⟨w.heap.size + 1, 4, none⟩ = some (.bool false) := (by have := hor1.cell (i := 4) (v := .bool a4) rfl; rw [HB.out] at this; exact this); have hl1 := hor1.lt; have hl2 := oN.lt; clear hown hor hbr hbS oN) | (go_at_call 149; refine (rec4_any _ _).mono ?_; rintro e w' ⟨rfl, rfl⟩))
        go_roundw
        case rel => exact ⟨5, by omega, by go_num, by rw [hst.out]; exact hown1, hor1, hbr1⟩
        case measure => simp [intOf]
    · have hidx := fidx5
      have hll := hln.out 5
      by_cases hb : a5 = true
      · have HB := Lib.hid hb
        have hst := Lib.hid (show N 6 = N 5 ++ [⟨#[97, 100, 100, 54]⟩] by have := hs5.out; rw [hb] at this; exact this)
        clear hb
        go_wp2_with (first | (refine wpList_store_row rfl 168 _ _ rfl wr.heap.size #[.string ⟨#[97, 100, 100, 54]⟩, .func (.func 150) #[] #[]] rfl rfl 168 #[.string ⟨#[]⟩, .nilFunc] (Own.new wr 168 #[.string ⟨#[]⟩, .nilFunc]) (fd_info _ _) rfl (fd_one _ _) ?_; have oN := (Own.new wr 168 #[.string ⟨#[]⟩, .nilFunc]).setRow (cs' := #[.string ⟨#[97, 100, 100, 54]⟩, .func (.func 150) #[] #[]]); have hbS := bl_setRow (g := wr.heap.size) (cs := #[.string ⟨#[97, 100, 100, 54]⟩, .func (.func 150) #[] #[]]) (bl_alloc (bl_refl wr) (.cells #[.string ⟨#[]⟩, .nilFunc] 168)) (Nat.le_refl _); have hown1 := own_belowG hown hbS; have hor1 := hor.step hbS; have hbr1 := bl_trans hbr hbS; generalize (wr.alloc (.cells #[.string ⟨#[]⟩, .nilFunc] 168)).setRow wr.heap.size #[.string ⟨#[97, 100, 100, 54]⟩, .func (.func 150) #[] #[]] = V at *; have x0 := oN.cell (i := 0) rfl; have x1 := oN.cell (i := 1) rfl; have hc : V.cell? ⟨w.heap.size + 1, 5, none⟩ = some (.bool true) := (by have := hor1.cell (i := 5) (v := .bool a5) rfl; rw [HB.out] at this; exact this); have hl1 := hor1.lt; have hl2 := oN.lt; clear hown hor hbr hbS oN) | (go_at_call 150; refine (rec5_any _ _).mono ?_; rintro e w' ⟨rfl, rfl⟩) | (at_builtin; refine wpList_append_grow _ rfl _ _ rfl sl_strO (w.heap.size + 1 + 1) _ _ _ rfl (hown1.alloc _) (V.heap.size + 1) (some ⟨V.heap.size, 0, none⟩) 1 1 [_] rfl rfl (Shows.of_owned (Own.new _ _ _) (by omega)) (one1 rfl) (by unfold maxLen; omega) (by omega) (by simp; omega) ?_; intro v1 w3 hown2 hgrow2))
        have hb3 : Below w.heap.size w w3 := (hbr1.alloc hbr1.size _).grown hgrow2 (by have := hbr1.size; simp; omega) (fun j hj => Nat.le_trans (by omega) (own_base hown1 j hj))
        have hor2 : Own w3 (w.heap.size + 1) 165 #[.bool a0, .bool a1, .bool a2, .bool a3, .bool a4, .bool a5] := (hor1.alloc _).grown hgrow2 (by intro e; have := own_base hown1 _ e.symm; omega)
        go_roundw
        case rel =>
          refine ⟨6, by omega, by go_num, ?_, hor2, hb3⟩
          rw [hst.out, List.length_append, List.map_append]
          exact hown2
        case measure => simp [intOf]
      · have HB := Lib.hid (show a5 = false by simpa using hb)
        have hst := Lib.hid (show N 6 = N 5 by have := hs5.out; rw [HB.out] at this; exact this)
        clear hb
        go_wp2_with (first | (refine wpList_store_row rfl 168 _ _ rfl wr.heap.size #[.string ⟨#[97, 100, 100, 54]⟩, .func (.func 150) #[] #[]] rfl rfl 168 #[.string ⟨#[]⟩, .nilFunc] (Own.new wr 168 #[.string ⟨#[]⟩, .nilFunc]) (fd_info _ _) rfl (fd_one _ _) ?_; have oN := (Own.new wr 168 #[.string ⟨#[]⟩, .nilFunc]).setRow (cs' := #[.string ⟨#[97, 100, 100, 54]⟩, .func (.func 150) #[] #[]]); have hbS := bl_setRow (g := wr.heap.size) (cs := #[.string ⟨#[97, 100, 100, 54]⟩, .func (.func 150) #[] #[]]) (bl_alloc (bl_refl wr) (.cells #[.string ⟨#[]⟩, .nilFunc] 168)) (Nat.le_refl _); have hown1 := own_belowG hown hbS; have hor1 := hor.step hbS; have hbr1 := bl_trans hbr hbS; generalize (wr.alloc (.cells #[.string ⟨#[]⟩, .nilFunc] 168)).setRow wr.heap.size #[.string ⟨#[97, 100, 100, 54]⟩, .func (.func 150) #[] #[]] = V at *; have x0 := oN.cell (i := 0) rfl; have x1 := oN.cell (i := 1) rfl; have hc : V.cell? ⟨w.heap.size + 1, 5, none⟩ = some (.bool false) := (by have := hor1.cell (i := 5) (v := .bool a5) rfl; rw [HB.out] at this; exact this); have hl1 := hor1.lt; have hl2 := oN.lt; clear hown hor hbr hbS oN) | (go_at_call 150; refine (rec5_any _ _).mono ?_; rintro e w' ⟨rfl, rfl⟩))
        go_roundw
        case rel => exact ⟨6, by omega, by go_num, by rw [hst.out]; exact hown1, hor1, hbr1⟩
        case measure => simp [intOf]
    · go_wp2_with fail
      refine (join_row 8 ⟨#[32]⟩ hown (by have := hln.out 6; omega) hsm.out (by omega) (by decide)).mono ?_
      rintro e w2 ⟨rfl, hb3⟩
      go_wp2
      go_ret
      exact ⟨rfl, bl_trans hbr hb3⟩
set_option maxRecDepth 100000 in
theorem otext_any (a0 a1 a2 a3 a4 a5 : Bool) (w : World) :
    Calls Tryd.prog 100 #[.agg #[.bool a0, .bool a1, .bool a2, .bool a3, .bool a4, .bool a5]] w fun e w' => e = .returned (.string (oTxt a0 a1 a2 a3 a4 a5)) ∧ Below w.heap.size w w' := by
  unfold oTxt
  cases hz : oNone a0 a1 a2 a3 a4 a5 with
  | true =>
    have h : a0 = false ∧ a1 = false ∧ a2 = false ∧ a3 = false ∧ a4 = false ∧ a5 = false := by unfold oNone at hz; simpa [and_assoc] using hz
    obtain ⟨rfl, rfl, rfl, rfl, rfl, rfl⟩ := h
    exact otext_none w
  | false => exact otext_some a0 a1 a2 a3 a4 a5 w hz
theorem oex1 : oTxt true false false true false false = ⟨#[97, 115, 52, 32, 109, 112, 54]⟩ := by decide +kernel
theorem oex2 : oTxt false false false false false false = ⟨#[45]⟩ := rfl
end Go.Proofs.YtniheakafkakhaaDoor

/- peerageref05.list, and Valid of both sides (a part of OpC, for texts that need no Both) -/
namespace Go.Proofs.YtniheakafkakhaaDoor
open Go.RowKit Go.Sort

set_option maxRecDepth 100000 in
theorem rlist_any (a0 a1 a2 a3 a4 a5 : Bool) (w : World) : Calls Tryd.prog 96 #[.agg #[.bool a0, .bool a1, .bool a2, .bool a3, .bool a4, .bool a5]] w fun e w' => ∃ g, e = .returned (.slice (some ⟨g, 0, none⟩) 6 6) ∧ w.heap.size ≤ g ∧ Own w' g 4 #[.bool a0, .bool a1, .bool a2, .bool a3, .bool a4, .bool a5] ∧ Below w.heap.size w w' := by
  have hb0 := bl_alloc (bl_alloc (bl_refl w) (.cells #[.bool a0, .bool a1, .bool a2, .bool a3, .bool a4, .bool a5] 23)) (.cells #[.bool a0, .bool a1, .bool a2, .bool a3, .bool a4, .bool a5] 4)
  have o := Own.new (w.alloc (.cells #[.bool a0, .bool a1, .bool a2, .bool a3, .bool a4, .bool a5] 23)) 4 #[.bool a0, .bool a1, .bool a2, .bool a3, .bool a4, .bool a5]
  rw [show (w.alloc (.cells #[.bool a0, .bool a1, .bool a2, .bool a3, .bool a4, .bool a5] 23)).heap.size = w.heap.size + 1 by simp] at o
  go_enter Tryd.func96, Tryd.ntmps96
  go_wp2
  go_ret
  exact ⟨_, rfl, by omega, o, hb0⟩
set_option maxRecDepth 100000 in
theorem ovalid_any (a0 a1 a2 a3 a4 a5 : Bool) (w : World) : Calls Tryd.prog 41 #[.agg #[.bool a0, .bool a1, .bool a2, .bool a3, .bool a4, .bool a5]] w fun e w' => e = .returned (.bool (a3 || !a5)) ∧ Below w.heap.size w w' := by
  have hb0 := bl_alloc (bl_refl w) (.cells #[.bool a0, .bool a1, .bool a2, .bool a3, .bool a4, .bool a5] 23)
  cases a3
  all_goals
    go_enter Tryd.func41, Tryd.ntmps41
    go_wp2
    go_ret
    exact ⟨by simp, hb0⟩
set_option maxRecDepth 100000 in
theorem rovalid_any (a0 a1 a2 a3 a4 a5 : Bool) (w : World) : Calls Tryd.prog 42 #[.agg #[.bool a0, .bool a1, .bool a2, .bool a3, .bool a4, .bool a5]] w fun e w' => e = .returned (.bool (a3 || !a5)) ∧ Below w.heap.size w w' := by
  have hb0 := bl_alloc (bl_refl w) (.cells #[.bool a0, .bool a1, .bool a2, .bool a3, .bool a4, .bool a5] 23)
  cases a3
  all_goals
    go_enter Tryd.func42, Tryd.ntmps42
    go_wp2
    go_ret
    exact ⟨by simp, hb0⟩
end Go.Proofs.YtniheakafkakhaaDoor

/- peerageref05.Text -/
namespace Go.Proofs.YtniheakafkakhaaDoor
open Go.RowKit Go.Sort

def nmO : List ByteArray := [⟨#[97, 115, 52]⟩, ⟨#[101, 120, 116, 101, 110, 100, 101, 100]⟩, ⟨#[109, 112, 52]⟩, ⟨#[109, 112, 54]⟩, ⟨#[97, 100, 100, 52]⟩, ⟨#[97, 100, 100, 54]⟩]
set_option maxRecDepth 100000 in
theorem rnames_any (w : World) : Calls Tryd.prog 130 #[] w fun e w' => e = .returned (.slice (some ⟨w.heap.size, 0, none⟩) 6 6) ∧ Own w' w.heap.size 9 (nmO.map Value.string).toArray ∧ Below w.heap.size w w' := by
  have o := Own.new w 9 (nmO.map Value.string).toArray
  have hb := bl_alloc (bl_refl w) (.cells (nmO.map Value.string).toArray 9)
  go_enter Tryd.func130, Tryd.ntmps130
  go_wp2
  go_ret
  exact ⟨rfl, o, hb⟩
/-- The text so far, as the reference builds it. -/
def rSt (bs : List Bool) : Nat → ByteArray
  | 0 => ⟨#[]⟩
  | k + 1 => if bs.getD k false then (if rSt bs k = ⟨#[]⟩ then rSt bs k else rSt bs k ++ ⟨#[32]⟩) ++ nmO.getD k ⟨#[]⟩ else rSt bs k
theorem rSt_facts : ∀ a0 a1 a2 a3 a4 a5 : Bool, (∀ k : Fin 7, (rSt [a0, a1, a2, a3, a4, a5] k.1).size ≤ 100) ∧ (if rSt [a0, a1, a2, a3, a4, a5] 6 = ⟨#[]⟩ then ⟨#[45]⟩ else rSt [a0, a1, a2, a3, a4, a5] 6) = oTxt a0 a1 a2 a3 a4 a5 := by decide +kernel
theorem nilO {x : ByteArray} (h : x ≠ ⟨#[]⟩) : x.toList ≠ [] := fun e => h (by
  rw [ByteArray.toList_eq] at e
  exact ByteArray.ext (Array.ext' e))
theorem nilO2 {x : ByteArray} (h : x ≠ ⟨#[]⟩) : x.toList.isEmpty = false := by
  cases hx : x.toList with
  | nil => exact absurd hx (nilO h)
  | cons a r => rfl
theorem nmO_cell {k : Nat} (h : k < 6) : (nmO.map Value.string).toArray[k]? = some (.string (nmO.getD k ⟨#[]⟩)) := by
  have : k = 0 ∨ k = 1 ∨ k = 2 ∨ k = 3 ∨ k = 4 ∨ k = 5 := by omega
  rcases this with rfl | rfl | rfl | rfl | rfl | rfl <;> rfl
theorem nmO_size {k : Nat} : (nmO.getD k ⟨#[]⟩).size ≤ 20 := by
  by_cases h : k < 6
  · have : k = 0 ∨ k = 1 ∨ k = 2 ∨ k = 3 ∨ k = 4 ∨ k = 5 := by omega
    rcases this with rfl | rfl | rfl | rfl | rfl | rfl <;> decide
  · rw [List.getD_eq_getElem?_getD, List.getElem?_eq_none (show nmO.length ≤ k from by show 6 ≤ k; omega)]
    decide
set_option maxRecDepth 100000 in
set_option maxHeartbeats 1600000 in
theorem rtext_core (a0 a1 a2 a3 a4 a5 : Bool) (T : Nat → ByteArray) (w : World) (hT0 : T 0 = ⟨#[]⟩) (hTs : ∀ k, k < 6 → (T (k + 1) = if [a0, a1, a2, a3, a4, a5].getD k false then (if T k = ⟨#[]⟩ then T k else T k ++ ⟨#[32]⟩) ++ nmO.getD k ⟨#[]⟩ else T k)) (hsz : ∀ k, k ≤ 6 → (T k).size ≤ 100) :
    Calls Tryd.prog 101 #[.agg #[.bool a0, .bool a1, .bool a2, .bool a3, .bool a4, .bool a5]] w fun e w' => e = .returned (.string (if T 6 = ⟨#[]⟩ then ⟨#[45]⟩ else T 6)) ∧ Below w.heap.size w w' := by
  have hb0 := bl_alloc (bl_refl w) (.cells #[.bool a0, .bool a1, .bool a2, .bool a3, .bool a4, .bool a5] 23)
  generalize hE : (if T 6 = ⟨#[]⟩ then ⟨#[45]⟩ else T 6 : ByteArray) = E
  have HE := Lib.hid hE
  have HS := Lib.hid hTs
  have HZ := Lib.hid hsz
  have H0 := Lib.hid hT0
  clear hTs hsz hT0 hE
  go_enter Tryd.func101, Tryd.ntmps101
  go_wp2_with fail
  refine (rlist_any a0 a1 a2 a3 a4 a5 _).mono ?_
  rintro e w1 ⟨g, rfl, hg, og, hb1⟩
  have hb2 := bl_trans hb0 hb1
  clear hb0 hb1
  go_wp2_with fail
  go_loopw [3, 5] (fun s i wr => ∃ k : Nat, k ≤ 6 ∧ i = .int .i64 k ∧ s = .string (T k) ∧ Own wr g 4 ([a0, a1, a2, a3, a4, a5].map Value.bool).toArray ∧ Below w.heap.size w wr) (fun _ i _ => 6 - (intOf i).toNat)
  case atStart => exact ⟨0, by omega, rfl, by rw [H0.out], og, hb2⟩
  case round =>
    obtain ⟨k, hk, rfl, rfl, ogr, hbr⟩ := hrel
    clear og hb2
    have hzk := HZ.out k hk
    have hltg := ogr.lt
    by_cases hlt : k < 6
    · have hst := Lib.hid (HS.out k hlt)
      have hc : wr.cell? ⟨g, k, none⟩ = some (.bool ([a0, a1, a2, a3, a4, a5].getD k false)) := ogr.cell (by
        have : k = 0 ∨ k = 1 ∨ k = 2 ∨ k = 3 ∨ k = 4 ∨ k = 5 := by omega
        rcases this with rfl | rfl | rfl | rfl | rfl | rfl <;> rfl)
      have hnz := nmO_size (k := k)
      have hcell := Lib.hid (nmO_cell hlt)
      generalize nmO.getD k ⟨#[]⟩ = nm at *
      cases hb : [a0, a1, a2, a3, a4, a5].getD k false with
      | true =>
        rw [hb] at hc hst
        clear hb
        by_cases he : T k = ⟨#[]⟩
        · have hstE := Lib.hid (show T (k + 1) = (⟨#[]⟩ : ByteArray) ++ nm by rw [hst.out, if_pos rfl, if_pos he, he])
          rw [he]
          clear hzk hst he
          go_wp2_with fail
          refine (rnames_any _).mono ?_
          rintro e w2 ⟨rfl, on, hb1⟩
          have og2 := ogr.step hb1
          have hb2 := bl_trans hbr hb1
          have hcn := on.cell (i := k) (v := .string nm) hcell.out
          have hln := on.lt
          clear ogr hbr hb1
          go_wp2
          go_roundw
          case rel => exact ⟨k + 1, by omega, by go_num, by rw [hstE.out], og2, hb2⟩
          case measure => simp [intOf]; omega
        · have hstE := Lib.hid (show T (k + 1) = T k ++ (⟨#[32]⟩ : ByteArray) ++ nm by rw [hst.out, if_pos rfl, if_neg he])
          have n1 := nilO he
          have n2 := nilO2 he
          clear hst he
          go_wp2_with fail
          refine (rnames_any _).mono ?_
          rintro e w2 ⟨rfl, on, hb1⟩
          have og2 := ogr.step hb1
          have hb2 := bl_trans hbr hb1
          have hcn := on.cell (i := k) (v := .string nm) hcell.out
          have hln := on.lt
          clear ogr hbr hb1
          go_wp2
          go_roundw
          case rel => exact ⟨k + 1, by omega, by go_num, by rw [hstE.out], og2, hb2⟩
          case measure => simp [intOf]; omega
      | false =>
        rw [hb] at hc hst
        clear hb
        have hstE := Lib.hid (show T (k + 1) = T k by rw [hst.out, if_neg (by simp)])
        clear hst
        go_wp2
        go_roundw
        case rel => exact ⟨k + 1, by omega, by go_num, by rw [hstE.out], ogr, hbr⟩
        case measure => simp [intOf]; omega
    · obtain rfl : k = 6 := by omega
      by_cases he : T 6 = ⟨#[]⟩
      · obtain rfl : E = ⟨#[45]⟩ := by rw [← HE.out, if_pos he]
        rw [he]
        clear hzk he
        go_wp2
        go_ret
        exact ⟨rfl, hbr⟩
      · obtain rfl : E = T 6 := by rw [← HE.out, if_neg he]
        have n1 := nilO he
        have n2 := nilO2 he
        clear he
        go_wp2
        go_ret
        exact ⟨rfl, hbr⟩
set_option maxRecDepth 100000 in
theorem rtext_any (a0 a1 a2 a3 a4 a5 : Bool) (w : World) :
    Calls Tryd.prog 101 #[.agg #[.bool a0, .bool a1, .bool a2, .bool a3, .bool a4, .bool a5]] w fun e w' => e = .returned (.string (oTxt a0 a1 a2 a3 a4 a5)) ∧ Below w.heap.size w w' := by
  rw [← (rSt_facts a0 a1 a2 a3 a4 a5).2]
  exact rtext_core a0 a1 a2 a3 a4 a5 (rSt [a0, a1, a2, a3, a4, a5]) w rfl (fun k _ => by rw [rSt]) (fun k hk => (rSt_facts a0 a1 a2 a3 a4 a5).1 ⟨k, by omega⟩)
end Go.Proofs.YtniheakafkakhaaDoor

/- peerageref02.digits at base 10 -/
namespace Go.Proofs.YtniheakafkakhaaDoor
open Go.RowKit Go.Sort

/-- A digit. -/
def hexD (k : Nat) : UInt8 := if k < 10 then UInt8.ofNat (48 + k) else UInt8.ofNat (87 + k)
theorem ext_digitN : ∀ k, k < 16 → ByteArray.extract ⟨#[48, 49, 50, 51, 52, 53, 54, 55, 56, 57, 97, 98, 99, 100, 101, 102]⟩ k (k + 1) = ⟨#[hexD k]⟩ := by decide +kernel
theorem ext_digit (d : Int) (h0 : 0 ≤ d) (h1 : d < 16) : ByteArray.extract ⟨#[48, 49, 50, 51, 52, 53, 54, 55, 56, 57, 97, 98, 99, 100, 101, 102]⟩ d.toNat (d + 1).toNat = ⟨#[hexD d.toNat]⟩ := by
  have e : (d + 1).toNat = d.toNat + 1 := by omega
  rw [e]
  exact ext_digitN _ (by omega)
theorem ba_append (s t : List UInt8) : (⟨s.toArray⟩ ++ ⟨t.toArray⟩ : ByteArray) = ⟨(s ++ t).toArray⟩ := by
  apply ByteArray.ext
  simp
theorem ba_cons (x : UInt8) (t : List UInt8) : (⟨#[x]⟩ ++ ⟨t.toArray⟩ : ByteArray) = ⟨(x :: t).toArray⟩ := ba_append [x] t
theorem dg_range (b n : Int) (_h0 : 0 ≤ n) (hb : 0 < b) : 0 ≤ n % b ∧ n % b < b := ⟨Int.emod_nonneg _ (by omega), Int.emod_lt_of_pos _ hb⟩
def decDigits (n : Nat) : List UInt8 := Lib.decDigits n
def decPre (k : Nat) : List UInt8 := if k < 10 then [] else Lib.decDigits (k / 10)
theorem decPre_small {k : Nat} (h : k < 10) : decPre k = [] := if_pos h
theorem decPre_step (k : Nat) : decDigits k = decPre k ++ [hexD (k % 10)] := by
  unfold decDigits decPre hexD
  rw [if_pos (Nat.mod_lt _ (by omega))]
  by_cases h : k < 10
  · rw [if_pos h, Lib.decDigits_one h, Nat.mod_eq_of_lt h]; rfl
  · rw [if_neg h]
    conv => lhs; unfold Lib.decDigits
    rw [dif_neg h]
theorem decPre_len {n : Int} {k : Nat} {t : List UInt8} (h : decDigits n.toNat = decPre k ++ t) (h1 : n ≤ 9223372036854775807) : t.length ≤ 19 := by
  have := dec_len h1
  unfold decDigits at h
  rw [h, List.length_append] at this
  omega
set_option maxRecDepth 100000 in
set_option maxHeartbeats 800000 in
theorem rdigits10_any (n : Int) (h0 : 0 ≤ n) (h1 : n ≤ 9223372036854775807) (w : World) :
    Calls Tryd.prog 113 #[.int .i64 n, .int .i64 10] w fun e w' => e = .returned (.string (decB n)) ∧ Below w.heap.size w w' := by
  have r0 := dg_range 10 n h0 (by omega)
  have r1 := r0.1
  have r2 := r0.2
  have HD := Lib.hid (ext_digit (n % 10) (by omega) (by omega))
  have w1' : IntKind.i64.wrap (n % 10 + 1) = n % 10 + 1 := IntWalk.i64_in _ (by omega)
  clear r0
  go_enter Tryd.func113, Tryd.ntmps113
  go_wp2_with fail
  refine wp_region_quiet_below (by kernel_rfl) (by kernel_rfl) ?_
  repeat (go_big_quiet_step (fail))
  rw [HD.out]
  refine wpQuiet_nil ?_
  rintro _ ⟨⟨dq, osq⟩, rfl⟩
  have hb1 := below_regrown w dq osq
  generalize grow (redrawn w dq) osq = w1 at *
  clear r1 r2 HD w1'
  go_wp2
  go_loopw [0, 5] (fun m s wr => ∃ k : Nat, ∃ t : List UInt8, (k : Int) ≤ n ∧ m = .int .i64 k ∧ s = .string ⟨t.toArray⟩ ∧ Hid (decDigits n.toNat = decPre k ++ t) ∧ Below w.heap.size w wr) (fun m _ _ => (intOf m).toNat)
  case atStart => exact ⟨n.toNat, [hexD (n % 10).toNat], by omega, by rw [Int.toNat_of_nonneg h0], rfl, Lib.hid (by rw [decPre_step, Int.toNat_emod h0 (by omega)]; rfl), hb1⟩
  case round =>
    obtain ⟨k, t, hk, rfl, rfl, HT, hbr⟩ := hrel
    have htl := decPre_len HT.out (by omega)
    clear hb1
    by_cases hlt : (k : Int) < 10
    · have ht : Hid (decDigits n.toNat = t) := Lib.hid (by rw [HT.out, decPre_small (by omega)]; rfl)
      go_wp2
      go_ret
      refine ⟨?_, hbr⟩
      unfold decB
      rw [show Lib.decDigits n.toNat = t from ht.out]
      rfl
    · have r0 := dg_range 10 ((k : Int) / 10) (by omega) (by omega)
      have r1 := r0.1
      have r2 := r0.2
      have HD := Lib.hid (ext_digitN (k / 10 % 10) (by omega))
      have w1' : IntKind.i64.wrap ((k : Int) / 10 % 10 + 1) = (k : Int) / 10 % 10 + 1 := IntWalk.i64_in _ (by omega)
      have n1 : ¬ 9223372036854775807 < 1 + t.length := by omega
      clear r0
      go_wp2_with fail
      refine wp_region_quiet_below (by kernel_rfl) (by kernel_rfl) ?_
      repeat (go_big_quiet_step (fail))
      rw [HD.out]
      refine wpQuiet_nil ?_
      rintro _ ⟨⟨dq2, osq2⟩, rfl⟩
      have hb2 := bl_trans hbr (below_regrown wr dq2 osq2)
      generalize grow (redrawn wr dq2) osq2 = w2 at *
      go_roundw
      case rel =>
        (repeat apply Exists.intro)
        refine ⟨⟨k / 10, hexD (k / 10 % 10) :: t, by omega, by go_num, ?_, Lib.hid ?_, hb2⟩, rfl⟩
        · exact congrArg Value.string (ba_cons _ _)
        · rw [HT.out]
          have e : decPre k = decPre (k / 10) ++ [hexD (k / 10 % 10)] := by rw [← decPre_step]; exact if_neg (by omega)
          rw [e]
          simp
      case measure => simp [intOf]; omega
set_option maxRecDepth 100000 in
theorem rdecimal_any (n : Int) (h0 : 0 ≤ n) (h1 : n ≤ 9223372036854775807) (w : World) :
    Calls Tryd.prog 79 #[.int .i64 n] w fun e w' => e = .returned (.string (decB n)) ∧ Below w.heap.size w w' := by
  go_enter Tryd.func79, Tryd.ntmps79
  go_wp2_with fail
  refine (rdigits10_any n h0 h1 w).mono ?_
  rintro e w1 ⟨rfl, hb1⟩
  go_wp2
  go_ret
  exact ⟨rfl, hb1⟩
end Go.Proofs.YtniheakafkakhaaDoor

/- layer 22: Text, alive -/
namespace Go.Proofs.YtniheakafkakhaaDoor
open Go.RowKit Go.Sort

set_option maxRecDepth 100000 in
theorem itoa_small (i : Nat) (hi : i < 100) (w : World) :
    Calls Tryd.prog 76 #[.int .i64 i] w fun e w' => e = .returned (.string ⟨(Lib.decDigits i).toArray⟩) ∧ w' = w := Any.strconv_Itoa_small { Tryd.laysM171 with } i hi w
theorem otxt_size (a b c d e f : Bool) : (oTxt a b c d e f).size ≤ 100 := by
  cases a <;> cases b <;> cases c <;> cases d <;> cases e <;> cases f <;> decide +kernel
def ngTxt (a b D : ByteArray) : ByteArray := (((a ++ ⟨#[47, 32]⟩) ++ b) ++ ⟨#[47, 32, 104, 111, 108, 100, 32]⟩) ++ D
set_option maxRecDepth 100000 in
set_option maxHeartbeats 6400000 in
theorem ntext_any (p q r : Int) (A : Option Addr) (n c : Nat) (p' q' r' : Int) (A' : Option Addr) (n' c' : Nat) (ss ts : List Cp) (w : World) (h : Caps w w.heap.size A n ss) (h' : Caps w w.heap.size A' n' ts) (hn : n ≤ 1000) (hn' : n' ≤ 1000) (hs : ∀ s ∈ ss, s.n ≤ 100000) (hs' : ∀ s ∈ ts, s.n ≤ 100000) (hf : Fams w)
    (x0 x1 x2 x3 x4 x5 y0 y1 y2 y3 y4 y5 : Bool) (ex : towK (ss.map cpK) (ts.map cpK) = #[.bool x0, .bool x1, .bool x2, .bool x3, .bool x4, .bool x5]) (ey : towK (ts.map cpK) (ss.map cpK) = #[.bool y0, .bool y1, .bool y2, .bool y3, .bool y4, .bool y5]) (D : ByteArray) (hD : D.size ≤ 100)
    (hI : ∀ W, Below w.heap.size w W → Calls Tryd.prog 76 #[.int .i64 (holdK q q')] W fun e w' => e = .returned (.string D) ∧ Below W.heap.size W w') :
    Calls Tryd.prog 50 #[.agg #[.int .u32 p, .int .i64 q, .int .u32 r, .slice A n c], .agg #[.int .u32 p', .int .i64 q', .int .u32 r', .slice A' n' c']] w fun e w' => e = .returned (.string (ngTxt (oTxt x0 x1 x2 x3 x4 x5) (oTxt y0 y1 y2 y3 y4 y5) D)) ∧ Below w.heap.size w w' := by
  have hBt : Hid (∀ W, Below w.heap.size w W → Calls Tryd.prog 39 #[.agg #[.int .u32 p, .int .i64 q, .int .u32 r, .slice A n c], .agg #[.int .u32 p', .int .i64 q', .int .u32 r', .slice A' n' c']] W fun e w' => e = .returned (.tuple #[.agg #[.bool x0, .bool x1, .bool x2, .bool x3, .bool x4, .bool x5], .agg #[.bool y0, .bool y1, .bool y2, .bool y3, .bool y4, .bool y5]]) ∧ Below W.heap.size W w') := Lib.hid fun W hb => by
    have := between_any p q r A n c p' q' r' A' n' c' ss ts W (h.step hb) (h'.step hb) hn hn' hs hs' (hf.below hb)
    rwa [ex, ey] at this
  have HI := Lib.hid hI
  have hHo := Lib.hid (fun W => nhold_any p q r A n c p' q' r' A' n' c' W)
  generalize holdK q q' = H at *
  have hT : Hid (ngTxt (oTxt x0 x1 x2 x3 x4 x5) (oTxt y0 y1 y2 y3 y4 y5) D = (((oTxt x0 x1 x2 x3 x4 x5 ++ ⟨#[47, 32]⟩) ++ oTxt y0 y1 y2 y3 y4 y5) ++ ⟨#[47, 32, 104, 111, 108, 100, 32]⟩) ++ D) := Lib.hid rfl
  generalize ngTxt (oTxt x0 x1 x2 x3 x4 x5) (oTxt y0 y1 y2 y3 y4 y5) D = Z at *
  have hX := Lib.hid (fun W => otext_any x0 x1 x2 x3 x4 x5 W)
  have hY := Lib.hid (fun W => otext_any y0 y1 y2 y3 y4 y5 W)
  have nx := otxt_size x0 x1 x2 x3 x4 x5
  have ny := otxt_size y0 y1 y2 y3 y4 y5
  generalize oTxt x0 x1 x2 x3 x4 x5 = tx at *
  generalize oTxt y0 y1 y2 y3 y4 y5 = ty at *
  clear h h' hn hn' hs hs' hf ex ey hI
  obtain ⟨X, hXe, oA, oB, hbX, hXs⟩ := two_boxesN w #[.int .u32 p, .int .i64 q, .int .u32 r, .slice A n c] #[.int .u32 p', .int .i64 q', .int .u32 r', .slice A' n' c'] 47 47
  obtain ⟨a0, a1, a2, a3⟩ := own_end oA
  obtain ⟨b0, b1, b2, b3⟩ := own_end oB
  go_enter Tryd.func50, Tryd.ntmps50
  subst hXe
  go_wp2_with fail
  refine (hBt.out _ hbX).mono ?_
  rintro e w2 ⟨rfl, hb2⟩
  have hb3 := bl_trans hbX hb2
  have oA2 := oA.step hb2
  have oB2 := oB.step hb2
  clear oA oB a0 a1 a2 a3 b0 b1 b2 b3 hbX hb2 hXs hBt
  obtain ⟨V, hV, oX, oY, hbV, hVs⟩ := two_boxesN w2 #[.bool x0, .bool x1, .bool x2, .bool x3, .bool x4, .bool x5] #[.bool y0, .bool y1, .bool y2, .bool y3, .bool y4, .bool y5] 23 23
  go_wp2_with fail
  rw [← hV]
  clear hV
  have oA3 := oA2.step hbV
  have oB3 := oB2.step hbV
  have hb4 := bl_trans hb3 hbV
  clear oA2 oB2 hb3 hbV
  have oX3 := oX
  have oY3 := oY
  clear oX oY
  refine wp_region_held_drew (S := (fun X => (Own X w.heap.size 47 #[.int .u32 p, .int .i64 q, .int .u32 r, .slice A n c] ∧ Own X (w.heap.size + 1) 47 #[.int .u32 p', .int .i64 q', .int .u32 r', .slice A' n' c']) ∧ Own X w2.heap.size 23 #[.bool x0, .bool x1, .bool x2, .bool x3, .bool x4, .bool x5] ∧ Own X (w2.heap.size + 1) 23 #[.bool y0, .bool y1, .bool y2, .bool y3, .bool y4, .bool y5])) (by kernel_rfl) ⟨⟨oA3.drew, oB3.drew⟩, oX3.drew, oY3.drew⟩ (fun hHeld => ?_)
  refine wpAnyH_take (i := 0) (v := ?_) rfl (by kernel_rfl) (by kernel_rfl) (by kernel_rfl) (fun _ _ _ h => h) (Or.inl ⟨by rfl, ?_⟩) (by assumption) ?_
  rotate_left
  · (intro W hSw; have s0 : Own W w.heap.size 47 #[.int .u32 p, .int .i64 q, .int .u32 r, .slice A n c] := hSw.1.1; have s1 : Own W (w.heap.size + 1) 47 #[.int .u32 p', .int .i64 q', .int .u32 r', .slice A' n' c'] := hSw.1.2; have s2 : Own W w2.heap.size 23 #[.bool x0, .bool x1, .bool x2, .bool x3, .bool x4, .bool x5] := hSw.2.1; have s3 : Own W (w2.heap.size + 1) 23 #[.bool y0, .bool y1, .bool y2, .bool y3, .bool y4, .bool y5] := hSw.2.2; obtain ⟨e0, e1, e2, e3⟩ := own_end s0; obtain ⟨d0, d1, d2, d3⟩ := own_end s1; obtain ⟨f0, f1, f2, f3, f4, f5⟩ := own_six s2; obtain ⟨g0, g1, g2, g3, g4, g5⟩ := own_six s3; go_simp; try with_reducible rfl)
  simp only [Act.put, List.getElem_toArray, List.getElem_cons_zero, List.setIfInBounds_toArray, List.set_cons_zero, List.set_cons_succ]
  refine wpAnyH_take (i := 3) (v := ?_) rfl (by kernel_rfl) (by kernel_rfl) (by kernel_rfl) (fun _ _ _ h => h) (Or.inl ⟨by rfl, ?_⟩) (by assumption) ?_
  rotate_left
  · (intro W hSw; have s0 : Own W w.heap.size 47 #[.int .u32 p, .int .i64 q, .int .u32 r, .slice A n c] := hSw.1.1; have s1 : Own W (w.heap.size + 1) 47 #[.int .u32 p', .int .i64 q', .int .u32 r', .slice A' n' c'] := hSw.1.2; have s2 : Own W w2.heap.size 23 #[.bool x0, .bool x1, .bool x2, .bool x3, .bool x4, .bool x5] := hSw.2.1; have s3 : Own W (w2.heap.size + 1) 23 #[.bool y0, .bool y1, .bool y2, .bool y3, .bool y4, .bool y5] := hSw.2.2; obtain ⟨e0, e1, e2, e3⟩ := own_end s0; obtain ⟨d0, d1, d2, d3⟩ := own_end s1; obtain ⟨f0, f1, f2, f3, f4, f5⟩ := own_six s2; obtain ⟨g0, g1, g2, g3, g4, g5⟩ := own_six s3; go_simp; try with_reducible rfl)
  simp only [Act.put, List.getElem_toArray, List.getElem_cons_zero, List.getElem_cons_succ, List.setIfInBounds_toArray, List.set_cons_zero, List.set_cons_succ]
  refine wpAnyH_take (i := 7) (v := ?_) rfl (by kernel_rfl) (by kernel_rfl) (by kernel_rfl) (fun _ _ _ h => h) (Or.inl ⟨by rfl, ?_⟩) (by assumption) ?_
  rotate_left
  · (intro W hSw; have s0 : Own W w.heap.size 47 #[.int .u32 p, .int .i64 q, .int .u32 r, .slice A n c] := hSw.1.1; have s1 : Own W (w.heap.size + 1) 47 #[.int .u32 p', .int .i64 q', .int .u32 r', .slice A' n' c'] := hSw.1.2; have s2 : Own W w2.heap.size 23 #[.bool x0, .bool x1, .bool x2, .bool x3, .bool x4, .bool x5] := hSw.2.1; have s3 : Own W (w2.heap.size + 1) 23 #[.bool y0, .bool y1, .bool y2, .bool y3, .bool y4, .bool y5] := hSw.2.2; obtain ⟨e0, e1, e2, e3⟩ := own_end s0; obtain ⟨d0, d1, d2, d3⟩ := own_end s1; obtain ⟨f0, f1, f2, f3, f4, f5⟩ := own_six s2; obtain ⟨g0, g1, g2, g3, g4, g5⟩ := own_six s3; go_simp; try with_reducible rfl)
  simp only [Act.put, List.getElem_toArray, List.getElem_cons_zero, List.getElem_cons_succ, List.setIfInBounds_toArray, List.set_cons_zero, List.set_cons_succ]
  refine wpAnyH_take (i := 8) (v := ?_) rfl (by kernel_rfl) (by kernel_rfl) (by kernel_rfl) (fun _ _ _ h => h) (Or.inl ⟨by rfl, ?_⟩) (by assumption) ?_
  rotate_left
  · (intro W hSw; have s0 : Own W w.heap.size 47 #[.int .u32 p, .int .i64 q, .int .u32 r, .slice A n c] := hSw.1.1; have s1 : Own W (w.heap.size + 1) 47 #[.int .u32 p', .int .i64 q', .int .u32 r', .slice A' n' c'] := hSw.1.2; have s2 : Own W w2.heap.size 23 #[.bool x0, .bool x1, .bool x2, .bool x3, .bool x4, .bool x5] := hSw.2.1; have s3 : Own W (w2.heap.size + 1) 23 #[.bool y0, .bool y1, .bool y2, .bool y3, .bool y4, .bool y5] := hSw.2.2; obtain ⟨e0, e1, e2, e3⟩ := own_end s0; obtain ⟨d0, d1, d2, d3⟩ := own_end s1; obtain ⟨f0, f1, f2, f3, f4, f5⟩ := own_six s2; obtain ⟨g0, g1, g2, g3, g4, g5⟩ := own_six s3; go_simp; try with_reducible rfl)
  simp only [Act.put, List.getElem_toArray, List.getElem_cons_zero, List.getElem_cons_succ, List.setIfInBounds_toArray, List.set_cons_zero, List.set_cons_succ]
  refine wpAnyH_ready (rs := [1]) (by kernel_rfl) (by simp) ?_
  refine (AllReadyH.cons rfl (fun K hK => ?_) AllReadyH.nil)
  go_simp
  go_at_call 100
  refine (hX.out _).mono ?_
  rintro e w4 ⟨rfl, hb5⟩
  have hb6 := bl_trans (bl_drewN hb4 1) hb5
  have hb7 := bl_trans (bl_drewN (bl_refl V) 1) hb5
  have oA4 := oA3.step hb7
  have oB4 := oB3.step hb7
  have oX4 := oX3.step hb7
  have oY4 := oY3.step hb7
  clear oA3 oB3 oX3 oY3
  refine hK.out _ _ ⟨⟨oA4, oB4⟩, oX4, oY4⟩ (fun hHeld2 => ?_)
  clear hK K hHeld
  have hHeld := hHeld2
  clear hHeld2
  try simp only [Act.put, List.getElem_toArray, List.getElem_cons_zero, List.getElem_cons_succ, List.setIfInBounds_toArray, List.set_cons_zero, List.set_cons_succ]
  refine wpAnyH_take (i := 2) (v := ?_) rfl (by kernel_rfl) (by kernel_rfl) (by kernel_rfl) (fun _ _ _ h => h) (Or.inl ⟨by rfl, ?_⟩) (by assumption) ?_
  rotate_left
  · (intro W hSw; go_simp; rw [if_neg (by (try simp only [ByteArray.size_append]); first | omega | (simp; omega))])
  simp only [Act.put, List.getElem_toArray, List.getElem_cons_zero, List.getElem_cons_succ, List.setIfInBounds_toArray, List.set_cons_zero, List.set_cons_succ]
  refine wpAnyH_ready (rs := [4]) (by kernel_rfl) (by simp) ?_
  refine (AllReadyH.cons rfl (fun K hK => ?_) AllReadyH.nil)
  go_simp
  go_at_call 100
  refine (hY.out _).mono ?_
  rintro e w5 ⟨rfl, hb8⟩
  have hb9 := bl_trans hb6 hb8
  have oA5 := oA4.step hb8
  have oB5 := oB4.step hb8
  have oX5 := oX4.step hb8
  have oY5 := oY4.step hb8
  clear oA4 oB4 oX4 oY4
  refine hK.out _ _ ⟨⟨oA5, oB5⟩, oX5, oY5⟩ (fun hHeld2 => ?_)
  clear hK K hHeld
  have hHeld := hHeld2
  clear hHeld2
  try simp only [Act.put, List.getElem_toArray, List.getElem_cons_zero, List.getElem_cons_succ, List.setIfInBounds_toArray, List.set_cons_zero, List.set_cons_succ]
  refine wpAnyH_take (i := 5) (v := ?_) rfl (by kernel_rfl) (by kernel_rfl) (by kernel_rfl) (fun _ _ _ h => h) (Or.inl ⟨by rfl, ?_⟩) (by assumption) ?_
  rotate_left
  · (intro W hSw; go_simp; rw [if_neg (by (try simp only [ByteArray.size_append]); first | omega | (simp; omega))])
  simp only [Act.put, List.getElem_toArray, List.getElem_cons_zero, List.getElem_cons_succ, List.setIfInBounds_toArray, List.set_cons_zero, List.set_cons_succ]
  refine wpAnyH_take (i := 6) (v := ?_) rfl (by kernel_rfl) (by kernel_rfl) (by kernel_rfl) (fun _ _ _ h => h) (Or.inl ⟨by rfl, ?_⟩) (by assumption) ?_
  rotate_left
  · (intro W hSw; go_simp; rw [if_neg (by (try simp only [ByteArray.size_append]); first | omega | (simp; omega))])
  simp only [Act.put, List.getElem_toArray, List.getElem_cons_zero, List.getElem_cons_succ, List.setIfInBounds_toArray, List.set_cons_zero, List.set_cons_succ]
  refine wpAnyH_ready (rs := [9]) (by kernel_rfl) (by simp) ?_
  refine (AllReadyH.cons rfl (fun K hK => ?_) AllReadyH.nil)
  go_simp
  go_at_call 44
  refine (hHo.out _).mono ?_
  rintro e w6 ⟨rfl, hb10⟩
  have hb11 := bl_trans hb9 hb10
  have oA6 := oA5.step hb10
  have oB6 := oB5.step hb10
  have oX6 := oX5.step hb10
  have oY6 := oY5.step hb10
  clear oA5 oB5 oX5 oY5
  refine hK.out _ _ ⟨⟨oA6, oB6⟩, oX6, oY6⟩ (fun hHeld2 => ?_)
  clear hK K hHeld
  have hHeld := hHeld2
  clear hHeld2
  try simp only [Act.put, List.getElem_toArray, List.getElem_cons_zero, List.getElem_cons_succ, List.setIfInBounds_toArray, List.set_cons_zero, List.set_cons_succ]
  refine wpAnyH_ready (rs := [10]) (by kernel_rfl) (by simp) ?_
  refine (AllReadyH.cons rfl (fun K hK => ?_) AllReadyH.nil)
  go_simp
  go_at_call 76
  refine (HI.out _ hb11).mono ?_
  rintro e w7 ⟨rfl, hb12⟩
  have hb13 := bl_trans hb11 hb12
  have oA7 := oA6.step hb12
  have oB7 := oB6.step hb12
  have oX7 := oX6.step hb12
  have oY7 := oY6.step hb12
  clear oA6 oB6 oX6 oY6
  refine hK.out _ _ ⟨⟨oA7, oB7⟩, oX7, oY7⟩ (fun hHeld2 => ?_)
  clear hK K hHeld
  have hHeld := hHeld2
  clear hHeld2
  try simp only [Act.put, List.getElem_toArray, List.getElem_cons_zero, List.getElem_cons_succ, List.setIfInBounds_toArray, List.set_cons_zero, List.set_cons_succ]
  refine wpAnyH_take (i := 11) (v := ?_) rfl (by kernel_rfl) (by kernel_rfl) (by kernel_rfl) (fun _ _ _ h => h) (Or.inl ⟨by rfl, ?_⟩) (by assumption) ?_
  rotate_left
  · (intro W hSw; go_simp; rw [if_neg (by (try simp only [ByteArray.size_append]); first | omega | (simp; omega))])
  simp only [Act.put, List.getElem_toArray, List.getElem_cons_zero, List.getElem_cons_succ, List.setIfInBounds_toArray, List.set_cons_zero, List.set_cons_succ]
  refine wpAnyH_take (i := 12) (v := ?_) rfl (by kernel_rfl) (by kernel_rfl) (by kernel_rfl) (fun _ _ _ h => h) (Or.inl ⟨by rfl, ?_⟩) (by assumption) ?_
  rotate_left
  · (intro W hSw; skip; go_simp; try with_reducible rfl)
  simp only [Act.put, List.getElem_toArray, List.getElem_cons_zero, List.getElem_cons_succ, List.setIfInBounds_toArray, List.set_cons_zero, List.set_cons_succ]
  refine wpAnyH_done (by kernel_rfl) ?_ _
  go_wp2
  go_ret
  exact ⟨by rw [hT.out]; first | done | rfl, hb13⟩
theorem caps_nil (w : World) (B : Nat) : Caps w B none 0 [] := ⟨rfl, (fun s hs => by cases hs), .inl rfl⟩
theorem tow_nil : towK [] [] = #[.bool false, .bool false, .bool false, .bool false, .bool false, .bool false] := rfl
theorem dd30 : Lib.decDigits 30 = [51, 48] := by rw [Lib.decDigits_two (by omega) (by omega)]; rfl
theorem ng_ex : ngTxt ⟨#[45]⟩ ⟨#[45]⟩ ⟨#[51, 48]⟩ = ⟨#[45, 47, 32, 45, 47, 32, 104, 111, 108, 100, 32, 51, 48]⟩ := by decide +kernel
set_option maxRecDepth 100000 in
set_option maxHeartbeats 1600000 in
theorem alive22_any (w : World) (hf : Fams w) : Calls Tryd.prog 38 #[] w fun e w' => e = .returned (.bool true) ∧ Below w.heap.size w w' := by
  have hT := Lib.hid (ntext_any 1 90 1 none 0 0 1 30 1 none 0 0 [] [] w (caps_nil w _) (caps_nil w _) (by omega) (by omega) (by simp) (by simp) hf false false false false false false false false false false false false rfl rfl ⟨#[51, 48]⟩ (by decide) (fun W _ => by
    refine (itoa_small 30 (by omega) W).mono ?_
    rintro e w' ⟨rfl, rfl⟩
    exact ⟨by rw [dd30], bl_refl _⟩))
  rw [show oTxt false false false false false false = ⟨#[45]⟩ from rfl, ng_ex] at hT
  clear hf
  go_enter Tryd.func38, Tryd.ntmps38
  go_wp2_with fail
  refine hT.out.mono ?_
  rintro e w2 ⟨rfl, hb⟩
  go_wp2
  go_ret
  exact ⟨rfl, hb⟩
end Go.Proofs.YtniheakafkakhaaDoor

/- layer 22: peerageref17.Valid, right -/
namespace Go.Proofs.YtniheakafkakhaaDoor
open Go.RowKit Go.Sort

def holdB (q : Int) : Bool := q == 0 || (decide (3 ≤ q) && decide (q ≤ 65535))
theorem holdB_ok {q : Int} (h : holdB q = true) : 0 ≤ q ∧ q ≤ 65535 := by
  unfold holdB at h
  rw [Bool.or_eq_true, Bool.and_eq_true, decide_eq_true_iff, decide_eq_true_iff, beq_iff_eq] at h
  omega
set_option maxRecDepth 100000 in
theorem rhold17_any (q : Int) (w : World) : Calls Tryd.prog 106 #[.int .i64 q] w fun e w' => e = .returned (.bool (holdB q)) ∧ w = w' := by
  have HK : Hid (holdB q = (q == 0 || (decide (3 ≤ q) && decide (q ≤ 65535)))) := Lib.hid rfl
  by_cases h1 : q = 0
  · have hv := Lib.hid (show holdB q = true by rw [HK.out, h1]; rfl)
    subst h1
    clear HK
    go_enter Tryd.func106, Tryd.ntmps106
    go_wp2
    go_ret
    exact ⟨by rw [hv.out]; first | done | rfl, rfl⟩
  · have e1 : (q == 0) = false := by simpa using h1
    by_cases h2 : 3 ≤ q
    · have d2 : decide (3 ≤ q) = true := decide_eq_true h2
      have hv := Lib.hid (show holdB q = decide (q ≤ 65535) by rw [HK.out, e1, d2]; rfl)
      clear HK h1 h2
      go_enter Tryd.func106, Tryd.ntmps106
      go_wp2
      go_ret
      exact ⟨by rw [hv.out]; first | done | rfl, rfl⟩
    · have d2 : decide (3 ≤ q) = false := decide_eq_false h2
      have hv := Lib.hid (show holdB q = false by rw [HK.out, e1, d2]; rfl)
      clear HK h1 h2
      go_enter Tryd.func106, Tryd.ntmps106
      go_wp2
      go_ret
      exact ⟨by rw [hv.out]; first | done | rfl, rfl⟩
/-- What Valid says: enough of it for layer 22. -/
def Val17 (w : World) (q : Int) (e : Ending) (w' : World) : Prop := ∃ D, e = .returned (.bool D) ∧ (D = true → holdB q = true) ∧ Below w.heap.size w w'
theorem val17_mk {w w' : World} {q : Int} {D : Bool} (h : D = true → holdB q = true) (hb : Below w.heap.size w w') : Val17 w q (.returned (.bool D)) w' := ⟨D, rfl, h, hb⟩
set_option maxRecDepth 100000 in
set_option maxHeartbeats 3200000 in
theorem rvalid17_any (p q r : Int) (A : Option Addr) (n c : Nat) (ss : List Cp) (w : World) (h : Caps w w.heap.size A n ss) (hn : n ≤ 1000) (hs : ∀ s ∈ ss, s.n ≤ 1000) :
    Calls Tryd.prog 72 #[.agg #[.int .u32 p, .int .i64 q, .int .u32 r, .slice A n c]] w fun e w' => Val17 w q e w' := by
  have hb0 := bl_alloc (bl_refl w) (.cells #[.int .u32 p, .int .i64 q, .int .u32 r, .slice A n c] 41)
  have o0 := Own.new w 41 #[.int .u32 p, .int .i64 q, .int .u32 r, .slice A n c]
  have HC := Lib.hid (h.step hb0)
  have hB := Lib.hid (rcbytes_any A n c ss _ HC.out hn hs)
  have hH := Lib.hid (fun W => rhold17_any q W)
  generalize hhq : holdB q = hq at hH
  have HQ := Lib.hid hhq
  clear hhq
  obtain ⟨e0, e1, e2, e3⟩ := own_end o0
  clear h hs
  go_enter Tryd.func72, Tryd.ntmps72
  go_wp2_with fail
  refine hB.out.mono ?_
  rintro e w2 ⟨A2, n2, c2, rfl, _, hc2, hb2⟩
  have hb3 := bl_trans hb0 hb2
  have o2 := o0.step hb2
  have HC2 := Lib.hid (HC.out.step hb2)
  have hSy := Lib.hid (rcsys_any A n c ss w2 HC2.out (by omega))
  generalize (sysK (ss.map cpK)).getD 0 = sa at *
  generalize (sysK (ss.map cpK)).isSome = sb at *
  clear hB e0 e1 e2 e3 o0 hb0 hb2 HC HC2
  obtain ⟨e0, e1, e2, e3⟩ := own_end o2
  generalize ss.all cpOk = ok at *
  cases ok
  · go_wp2
    go_ret
    exact val17_mk (by simp) hb3
  · by_cases h253 : (253 : Int) < n2
    · have d1 : decide ((253 : Int) < n2) = true := decide_eq_true h253
      go_wp2
      go_ret
      exact val17_mk (by simp) hb3
    · have d1 : decide ((253 : Int) < n2) = false := decide_eq_false h253
      clear h253
      by_cases hp : p = 0
      · subst hp
        go_wp2
        go_ret
        exact val17_mk (by simp) hb3
      · have ep : (p == 0) = false := by simpa using hp
        clear hp
        by_cases hr : r = 0
        · subst hr
          go_wp2
          go_ret
          exact val17_mk (by simp) hb3
        · have er : (r == 0) = false := by simpa using hr
          clear hr
          go_wp2_with fail
          refine (hH.out _).mono ?_
          rintro e w3 ⟨rfl, rfl⟩
          cases hq
          · go_wp2
            go_ret
            exact val17_mk (by simp) hb3
          · go_wp2_with fail
            refine hSy.out.mono ?_
            rintro e w4 ⟨rfl, rfl⟩
            cases sb
            · go_wp2
              go_ret
              exact val17_mk (fun _ => HQ.out) hb3
            · go_wp2
              go_ret
              exact val17_mk (fun _ => HQ.out) hb3
theorem fewCp_of {ss : List Cp} (h : fewCp ss = true) : ss.length ≤ 40 ∧ ∀ s ∈ ss, s.n ≤ 300 := by
  unfold fewCp at h
  rw [Bool.and_eq_true, decide_eq_true_iff, List.all_eq_true] at h
  exact ⟨h.2, fun s hs => of_decide_eq_true (h.1 s hs)⟩
/-- What right says of an OPEN. -/
def Rgt (q : Int) (ss : List Cp) : Prop := fewCp ss = true ∧ holdB q = true
theorem own_eight {w : World} {g : Nat} {T : TypeId} {a0 a1 a2 a3 a4 a5 a6 a7 : Value} (h : Own w g T #[a0, a1, a2, a3, a4, a5, a6, a7]) :
    (w.cell? ⟨g, 0, none⟩ = some a0 ∧ w.cell? ⟨g, 1, none⟩ = some a1 ∧ w.cell? ⟨g, 2, none⟩ = some a2 ∧ w.cell? ⟨g, 3, none⟩ = some a3) ∧ w.cell? ⟨g, 4, none⟩ = some a4 ∧ w.cell? ⟨g, 5, none⟩ = some a5 ∧ w.cell? ⟨g, 6, none⟩ = some a6 ∧ w.cell? ⟨g, 7, none⟩ = some a7 := ⟨⟨h.cell rfl, h.cell rfl, h.cell rfl, h.cell rfl⟩, h.cell rfl, h.cell rfl, h.cell rfl, h.cell rfl⟩
set_option maxRecDepth 100000 in
set_option maxHeartbeats 3200000 in
theorem right22_any (p q r : Int) (A : Option Addr) (n c : Nat) (p' q' r' : Int) (A' : Option Addr) (n' c' : Nat) (ss ts : List Cp) (g : Nat) (w : World) (h : Caps w w.heap.size A n ss) (h' : Caps w w.heap.size A' n' ts) (hm : n ≤ maxLen) (hm' : n' ≤ maxLen)
    (hg : Own w g 41 #[.int .u32 p, .int .i64 q, .int .u32 r, .slice A n c, .int .u32 p', .int .i64 q', .int .u32 r', .slice A' n' c']) :
    Calls Tryd.prog 37 #[.slice (some ⟨g, 0, none⟩) 2 2] w fun e w' => ∃ D, e = .returned (.bool D) ∧ (D = true → Rgt q ss ∧ Rgt q' ts) ∧ Below w.heap.size w w' := by
  have HA := Lib.hid h
  have HB := Lib.hid h'
  have HAn := Lib.hid h.1
  have HBn := Lib.hid h'.1
  have HM := Lib.hid hm
  have HM' := Lib.hid hm'
  have hlt := hg.lt
  clear h h' hm hm'
  go_enter Tryd.func37, Tryd.ntmps37
  go_wp2_with fail
  go_loopw [4, 7] (fun _ i wr => (∃ j : Nat, j ≤ 2 ∧ i = .int .i64 j ∧ Hid ((1 ≤ j → Rgt q ss) ∧ (2 ≤ j → Rgt q' ts))) ∧ Below w.heap.size w wr) (fun _ i _ => 2 - (intOf i).toNat)
  case atStart => exact ⟨⟨0, by omega, rfl, Lib.hid ⟨by omega, by omega⟩⟩, bl_refl _⟩
  case round =>
    obtain ⟨⟨j, hj, rfl, hz⟩, hbw⟩ := hrel
    have hbs := hbw.size
    rcases j with _ | _ | j
    · obtain ⟨⟨c0, c1, c2, c3⟩, c4, c5, c6, c7⟩ := own_eight (hg.step hbw)
      have hb1 := bl_alloc hbw (.cells #[.int .u32 p, .int .i64 q, .int .u32 r, .slice A n c] 41)
      have oX := Own.new wr 41 #[.int .u32 p, .int .i64 q, .int .u32 r, .slice A n c]
      have hFw := Lib.hid (few16_any A n c ss (wr.alloc (.cells #[.int .u32 p, .int .i64 q, .int .u32 r, .slice A n c] 41)) (HA.out.step hb1) HM.out)
      have hFn : Hid (fewCp ss = true → n ≤ 40 ∧ ∀ s ∈ ss, s.n ≤ 300) := Lib.hid fun hf => by rw [HAn.out]; exact fewCp_of hf
      have hFt : Hid (fewCp ss = fewCp ss) := Lib.hid rfl
      generalize hfe : fewCp ss = F at hFw hFn
      have HFe := Lib.hid hfe
      clear hfe hFt
      go_wp2_with fail
      refine hFw.out.mono ?_
      rintro e w2 ⟨rfl, rfl⟩
      cases F
      · go_wp2
        go_ret
        exact ⟨false, rfl, (by simp), hb1⟩
      · obtain ⟨l1, l2⟩ := hFn.out rfl
        have hVl := Lib.hid (rvalid17_any p q r A n c ss _ (HA.out.step hb1) (by omega) (fun s hs => Nat.le_trans (l2 s hs) (by omega)))
        have HF := HFe
        obtain ⟨x0, x1, x2, x3⟩ := own_end oX
        clear l1 l2 c0 c1 c2 c3 c4 c5 c6 c7 hFw hFn
        go_wp2_with fail
        refine hVl.out.mono ?_
        rintro e w3 ⟨D, rfl, hD, hb2⟩
        have hb3 := bl_trans hb1 hb2
        cases D
        · go_wp2
          go_ret
          exact ⟨false, rfl, (by simp), hb3⟩
        · go_wp2
          go_roundw
          case rel => exact ⟨⟨1, by omega, by go_num, Lib.hid ⟨fun _ => ⟨HF.out, hD trivial⟩, by omega⟩⟩, hb3⟩
          case measure => simp [intOf]
    · obtain ⟨⟨c0, c1, c2, c3⟩, c4, c5, c6, c7⟩ := own_eight (hg.step hbw)
      have hb1 := bl_alloc hbw (.cells #[.int .u32 p', .int .i64 q', .int .u32 r', .slice A' n' c'] 41)
      have oX := Own.new wr 41 #[.int .u32 p', .int .i64 q', .int .u32 r', .slice A' n' c']
      have hFw := Lib.hid (few16_any A' n' c' ts (wr.alloc (.cells #[.int .u32 p', .int .i64 q', .int .u32 r', .slice A' n' c'] 41)) (HB.out.step hb1) HM'.out)
      have hFn : Hid (fewCp ts = true → n' ≤ 40 ∧ ∀ s ∈ ts, s.n ≤ 300) := Lib.hid fun hf => by rw [HBn.out]; exact fewCp_of hf
      have hFt : Hid (fewCp ts = fewCp ts) := Lib.hid rfl
      generalize hfe : fewCp ts = F at hFw hFn
      have HFe := Lib.hid hfe
      clear hfe hFt
      go_wp2_with fail
      refine hFw.out.mono ?_
      rintro e w2 ⟨rfl, rfl⟩
      cases F
      · go_wp2
        go_ret
        exact ⟨false, rfl, (by simp), hb1⟩
      · obtain ⟨l1, l2⟩ := hFn.out rfl
        have hVl := Lib.hid (rvalid17_any p' q' r' A' n' c' ts _ (HB.out.step hb1) (by omega) (fun s hs => Nat.le_trans (l2 s hs) (by omega)))
        have HF := HFe
        obtain ⟨x0, x1, x2, x3⟩ := own_end oX
        clear l1 l2 c0 c1 c2 c3 c4 c5 c6 c7 hFw hFn
        go_wp2_with fail
        refine hVl.out.mono ?_
        rintro e w3 ⟨D, rfl, hD, hb2⟩
        have hb3 := bl_trans hb1 hb2
        cases D
        · go_wp2
          go_ret
          exact ⟨false, rfl, (by simp), hb3⟩
        · go_wp2
          go_roundw
          case rel => exact ⟨⟨2, by omega, by go_num, Lib.hid ⟨fun _ => hz.out.1 (by omega), fun _ => ⟨HF.out, hD trivial⟩⟩⟩, hb3⟩
          case measure => simp [intOf]
    · obtain rfl : j = 0 := by omega
      go_wp2
      go_ret
      exact ⟨true, rfl, (fun _ => ⟨hz.out.1 (by omega), hz.out.2 (by omega)⟩), hbw⟩
end Go.Proofs.YtniheakafkakhaaDoor

/- layer 22: peerageref22.Text -/
namespace Go.Proofs.YtniheakafkakhaaDoor
open Go.RowKit Go.Sort
set_option maxRecDepth 100000 in
set_option maxHeartbeats 6400000 in
theorem rtext22_any (p q r : Int) (A : Option Addr) (n c : Nat) (p' q' r' : Int) (A' : Option Addr) (n' c' : Nat) (ss ts : List Cp) (w : World) (h : Caps w w.heap.size A n ss) (h' : Caps w w.heap.size A' n' ts) (hn : n ≤ 1000) (hn' : n' ≤ 1000) (hs : ∀ s ∈ ss, s.n ≤ 100000) (hs' : ∀ s ∈ ts, s.n ≤ 100000)
    (x0 x1 x2 x3 x4 x5 y0 y1 y2 y3 y4 y5 : Bool) (ex : towK (ss.map cpK) (ts.map cpK) = #[.bool x0, .bool x1, .bool x2, .bool x3, .bool x4, .bool x5]) (ey : towK (ts.map cpK) (ss.map cpK) = #[.bool y0, .bool y1, .bool y2, .bool y3, .bool y4, .bool y5]) (D : ByteArray) (hD : D.size ≤ 100)
    (hI : ∀ W, Below w.heap.size w W → Calls Tryd.prog 79 #[.int .i64 (holdK q q')] W fun e w' => e = .returned (.string D) ∧ Below W.heap.size W w') :
    Calls Tryd.prog 51 #[.agg #[.int .u32 p, .int .i64 q, .int .u32 r, .slice A n c], .agg #[.int .u32 p', .int .i64 q', .int .u32 r', .slice A' n' c']] w fun e w' => e = .returned (.string (ngTxt (oTxt x0 x1 x2 x3 x4 x5) (oTxt y0 y1 y2 y3 y4 y5) D)) ∧ Below w.heap.size w w' := by
  have hOa : Hid (∀ W, Below w.heap.size w W → Calls Tryd.prog 40 #[.agg #[.int .u32 p, .int .i64 q, .int .u32 r, .slice A n c], .agg #[.int .u32 p', .int .i64 q', .int .u32 r', .slice A' n' c']] W fun e w' => e = .returned (.agg #[.bool x0, .bool x1, .bool x2, .bool x3, .bool x4, .bool x5]) ∧ Below W.heap.size W w') := Lib.hid fun W hb => by
    have := rone_any p q r A n c p' q' r' A' n' c' ss ts W (h.step hb) (h'.step hb) hn hn' hs hs'
    rwa [ex] at this
  have hOb : Hid (∀ W, Below w.heap.size w W → Calls Tryd.prog 40 #[.agg #[.int .u32 p', .int .i64 q', .int .u32 r', .slice A' n' c'], .agg #[.int .u32 p, .int .i64 q, .int .u32 r, .slice A n c]] W fun e w' => e = .returned (.agg #[.bool y0, .bool y1, .bool y2, .bool y3, .bool y4, .bool y5]) ∧ Below W.heap.size W w') := Lib.hid fun W hb => by
    have := rone_any p' q' r' A' n' c' p q r A n c ts ss W (h'.step hb) (h.step hb) hn' hn hs' hs
    rwa [ey] at this
  have HI := Lib.hid hI
  have hHo := Lib.hid (fun W => rhold_any p q r A n c p' q' r' A' n' c' W)
  generalize holdK q q' = H at *
  have hT : Hid (ngTxt (oTxt x0 x1 x2 x3 x4 x5) (oTxt y0 y1 y2 y3 y4 y5) D = (((oTxt x0 x1 x2 x3 x4 x5 ++ ⟨#[47, 32]⟩) ++ oTxt y0 y1 y2 y3 y4 y5) ++ ⟨#[47, 32, 104, 111, 108, 100, 32]⟩) ++ D) := Lib.hid rfl
  generalize ngTxt (oTxt x0 x1 x2 x3 x4 x5) (oTxt y0 y1 y2 y3 y4 y5) D = Z at *
  have hX := Lib.hid (fun W => rtext_any x0 x1 x2 x3 x4 x5 W)
  have hY := Lib.hid (fun W => rtext_any y0 y1 y2 y3 y4 y5 W)
  have nx := otxt_size x0 x1 x2 x3 x4 x5
  have ny := otxt_size y0 y1 y2 y3 y4 y5
  generalize oTxt x0 x1 x2 x3 x4 x5 = tx at *
  generalize oTxt y0 y1 y2 y3 y4 y5 = ty at *
  clear h h' hn hn' hs hs' ex ey hI
  obtain ⟨X, hXe, oA, oB, hbX, hXs⟩ := two_boxesN w #[.int .u32 p, .int .i64 q, .int .u32 r, .slice A n c] #[.int .u32 p', .int .i64 q', .int .u32 r', .slice A' n' c'] 41 41
  go_enter Tryd.func51, Tryd.ntmps51
  go_upto_region 1 with fail
  rw [← hXe]
  clear hXe hXs
  refine wp_region_held_drew (S := (fun X => Own X w.heap.size 41 #[.int .u32 p, .int .i64 q, .int .u32 r, .slice A n c] ∧ Own X (w.heap.size + 1) 41 #[.int .u32 p', .int .i64 q', .int .u32 r', .slice A' n' c'])) (by kernel_rfl) ⟨oA.drew, oB.drew⟩ (fun hHeld => ?_)
  refine wpAnyH_take (i := 0) (v := ?_) rfl (by kernel_rfl) (by kernel_rfl) (by kernel_rfl) (fun _ _ _ h => h) (Or.inl ⟨by rfl, ?_⟩) (by assumption) ?_
  rotate_left
  · (intro W hSw; have s0 : Own W w.heap.size 41 #[.int .u32 p, .int .i64 q, .int .u32 r, .slice A n c] := hSw.1; have s1 : Own W (w.heap.size + 1) 41 #[.int .u32 p', .int .i64 q', .int .u32 r', .slice A' n' c'] := hSw.2; obtain ⟨e0, e1, e2, e3⟩ := own_end s0; obtain ⟨d0, d1, d2, d3⟩ := own_end s1; go_simp; try with_reducible rfl)
  simp only [Act.put, List.getElem_toArray, List.getElem_cons_zero, List.setIfInBounds_toArray, List.set_cons_zero, List.set_cons_succ]
  refine wpAnyH_take (i := 1) (v := ?_) rfl (by kernel_rfl) (by kernel_rfl) (by kernel_rfl) (fun _ _ _ h => h) (Or.inl ⟨by rfl, ?_⟩) (by assumption) ?_
  rotate_left
  · (intro W hSw; have s0 : Own W w.heap.size 41 #[.int .u32 p, .int .i64 q, .int .u32 r, .slice A n c] := hSw.1; have s1 : Own W (w.heap.size + 1) 41 #[.int .u32 p', .int .i64 q', .int .u32 r', .slice A' n' c'] := hSw.2; obtain ⟨e0, e1, e2, e3⟩ := own_end s0; obtain ⟨d0, d1, d2, d3⟩ := own_end s1; go_simp; try with_reducible rfl)
  simp only [Act.put, List.getElem_toArray, List.getElem_cons_zero, List.getElem_cons_succ, List.setIfInBounds_toArray, List.set_cons_zero, List.set_cons_succ]
  refine wpAnyH_take (i := 5) (v := ?_) rfl (by kernel_rfl) (by kernel_rfl) (by kernel_rfl) (fun _ _ _ h => h) (Or.inl ⟨by rfl, ?_⟩) (by assumption) ?_
  rotate_left
  · (intro W hSw; have s0 : Own W w.heap.size 41 #[.int .u32 p, .int .i64 q, .int .u32 r, .slice A n c] := hSw.1; have s1 : Own W (w.heap.size + 1) 41 #[.int .u32 p', .int .i64 q', .int .u32 r', .slice A' n' c'] := hSw.2; obtain ⟨e0, e1, e2, e3⟩ := own_end s0; obtain ⟨d0, d1, d2, d3⟩ := own_end s1; go_simp; try with_reducible rfl)
  simp only [Act.put, List.getElem_toArray, List.getElem_cons_zero, List.getElem_cons_succ, List.setIfInBounds_toArray, List.set_cons_zero, List.set_cons_succ]
  refine wpAnyH_take (i := 6) (v := ?_) rfl (by kernel_rfl) (by kernel_rfl) (by kernel_rfl) (fun _ _ _ h => h) (Or.inl ⟨by rfl, ?_⟩) (by assumption) ?_
  rotate_left
  · (intro W hSw; have s0 : Own W w.heap.size 41 #[.int .u32 p, .int .i64 q, .int .u32 r, .slice A n c] := hSw.1; have s1 : Own W (w.heap.size + 1) 41 #[.int .u32 p', .int .i64 q', .int .u32 r', .slice A' n' c'] := hSw.2; obtain ⟨e0, e1, e2, e3⟩ := own_end s0; obtain ⟨d0, d1, d2, d3⟩ := own_end s1; go_simp; try with_reducible rfl)
  simp only [Act.put, List.getElem_toArray, List.getElem_cons_zero, List.getElem_cons_succ, List.setIfInBounds_toArray, List.set_cons_zero, List.set_cons_succ]
  refine wpAnyH_take (i := 11) (v := ?_) rfl (by kernel_rfl) (by kernel_rfl) (by kernel_rfl) (fun _ _ _ h => h) (Or.inl ⟨by rfl, ?_⟩) (by assumption) ?_
  rotate_left
  · (intro W hSw; have s0 : Own W w.heap.size 41 #[.int .u32 p, .int .i64 q, .int .u32 r, .slice A n c] := hSw.1; have s1 : Own W (w.heap.size + 1) 41 #[.int .u32 p', .int .i64 q', .int .u32 r', .slice A' n' c'] := hSw.2; obtain ⟨e0, e1, e2, e3⟩ := own_end s0; obtain ⟨d0, d1, d2, d3⟩ := own_end s1; go_simp; try with_reducible rfl)
  simp only [Act.put, List.getElem_toArray, List.getElem_cons_zero, List.getElem_cons_succ, List.setIfInBounds_toArray, List.set_cons_zero, List.set_cons_succ]
  refine wpAnyH_take (i := 12) (v := ?_) rfl (by kernel_rfl) (by kernel_rfl) (by kernel_rfl) (fun _ _ _ h => h) (Or.inl ⟨by rfl, ?_⟩) (by assumption) ?_
  rotate_left
  · (intro W hSw; have s0 : Own W w.heap.size 41 #[.int .u32 p, .int .i64 q, .int .u32 r, .slice A n c] := hSw.1; have s1 : Own W (w.heap.size + 1) 41 #[.int .u32 p', .int .i64 q', .int .u32 r', .slice A' n' c'] := hSw.2; obtain ⟨e0, e1, e2, e3⟩ := own_end s0; obtain ⟨d0, d1, d2, d3⟩ := own_end s1; go_simp; try with_reducible rfl)
  simp only [Act.put, List.getElem_toArray, List.getElem_cons_zero, List.getElem_cons_succ, List.setIfInBounds_toArray, List.set_cons_zero, List.set_cons_succ]
  have oA0 := oA.drew
  have oB0 := oB.drew
  have hb0 := bl_drewN hbX 1
  clear oA oB hbX
  refine wpAnyH_ready (rs := [2]) (by kernel_rfl) (by simp) ?_
  refine (AllReadyH.cons rfl (fun K hK => ?_) AllReadyH.nil)
  go_simp
  go_at_call 40
  refine (hOa.out _ hb0).mono ?_
  rintro e w2 ⟨rfl, hc1⟩
  have hb1 := bl_trans hb0 hc1
  have oA1 := oA0.step hc1
  have oB1 := oB0.step hc1
  clear oA0 oB0
  refine hK.out _ _ ⟨oA1, oB1⟩ (fun hHeld2 => ?_)
  clear hK K hHeld
  have hHeld := hHeld2
  clear hHeld2
  try simp only [Act.put, List.getElem_toArray, List.getElem_cons_zero, List.getElem_cons_succ, List.setIfInBounds_toArray, List.set_cons_zero, List.set_cons_succ]
  refine wpAnyH_ready (rs := [3]) (by kernel_rfl) (by simp) ?_
  refine (AllReadyH.cons rfl (fun K hK => ?_) AllReadyH.nil)
  go_simp
  go_at_call 101
  refine (hX.out _).mono ?_
  rintro e w3 ⟨rfl, hc2⟩
  have hb2 := bl_trans hb1 hc2
  have oA2 := oA1.step hc2
  have oB2 := oB1.step hc2
  clear oA1 oB1
  refine hK.out _ _ ⟨oA2, oB2⟩ (fun hHeld2 => ?_)
  clear hK K hHeld
  have hHeld := hHeld2
  clear hHeld2
  try simp only [Act.put, List.getElem_toArray, List.getElem_cons_zero, List.getElem_cons_succ, List.setIfInBounds_toArray, List.set_cons_zero, List.set_cons_succ]
  refine wpAnyH_take (i := 4) (v := ?_) rfl (by kernel_rfl) (by kernel_rfl) (by kernel_rfl) (fun _ _ _ h => h) (Or.inl ⟨by rfl, ?_⟩) (by assumption) ?_
  rotate_left
  · (intro W hSw; go_simp; rw [if_neg (by (try simp only [ByteArray.size_append]); first | omega | (simp; omega))])
  simp only [Act.put, List.getElem_toArray, List.getElem_cons_zero, List.getElem_cons_succ, List.setIfInBounds_toArray, List.set_cons_zero, List.set_cons_succ]
  refine wpAnyH_ready (rs := [7]) (by kernel_rfl) (by simp) ?_
  refine (AllReadyH.cons rfl (fun K hK => ?_) AllReadyH.nil)
  go_simp
  go_at_call 40
  refine (hOb.out _ hb2).mono ?_
  rintro e w4 ⟨rfl, hc3⟩
  have hb3 := bl_trans hb2 hc3
  have oA3 := oA2.step hc3
  have oB3 := oB2.step hc3
  clear oA2 oB2
  refine hK.out _ _ ⟨oA3, oB3⟩ (fun hHeld2 => ?_)
  clear hK K hHeld
  have hHeld := hHeld2
  clear hHeld2
  try simp only [Act.put, List.getElem_toArray, List.getElem_cons_zero, List.getElem_cons_succ, List.setIfInBounds_toArray, List.set_cons_zero, List.set_cons_succ]
  refine wpAnyH_ready (rs := [8]) (by kernel_rfl) (by simp) ?_
  refine (AllReadyH.cons rfl (fun K hK => ?_) AllReadyH.nil)
  go_simp
  go_at_call 101
  refine (hY.out _).mono ?_
  rintro e w5 ⟨rfl, hc4⟩
  have hb4 := bl_trans hb3 hc4
  have oA4 := oA3.step hc4
  have oB4 := oB3.step hc4
  clear oA3 oB3
  refine hK.out _ _ ⟨oA4, oB4⟩ (fun hHeld2 => ?_)
  clear hK K hHeld
  have hHeld := hHeld2
  clear hHeld2
  try simp only [Act.put, List.getElem_toArray, List.getElem_cons_zero, List.getElem_cons_succ, List.setIfInBounds_toArray, List.set_cons_zero, List.set_cons_succ]
  refine wpAnyH_take (i := 9) (v := ?_) rfl (by kernel_rfl) (by kernel_rfl) (by kernel_rfl) (fun _ _ _ h => h) (Or.inl ⟨by rfl, ?_⟩) (by assumption) ?_
  rotate_left
  · (intro W hSw; go_simp; rw [if_neg (by (try simp only [ByteArray.size_append]); first | omega | (simp; omega))])
  simp only [Act.put, List.getElem_toArray, List.getElem_cons_zero, List.getElem_cons_succ, List.setIfInBounds_toArray, List.set_cons_zero, List.set_cons_succ]
  refine wpAnyH_take (i := 10) (v := ?_) rfl (by kernel_rfl) (by kernel_rfl) (by kernel_rfl) (fun _ _ _ h => h) (Or.inl ⟨by rfl, ?_⟩) (by assumption) ?_
  rotate_left
  · (intro W hSw; go_simp; rw [if_neg (by (try simp only [ByteArray.size_append]); first | omega | (simp; omega))])
  simp only [Act.put, List.getElem_toArray, List.getElem_cons_zero, List.getElem_cons_succ, List.setIfInBounds_toArray, List.set_cons_zero, List.set_cons_succ]
  refine wpAnyH_ready (rs := [13]) (by kernel_rfl) (by simp) ?_
  refine (AllReadyH.cons rfl (fun K hK => ?_) AllReadyH.nil)
  go_simp
  go_at_call 46
  refine (hHo.out _).mono ?_
  rintro e w6 ⟨rfl, hc5⟩
  have hb5 := bl_trans hb4 hc5
  have oA5 := oA4.step hc5
  have oB5 := oB4.step hc5
  clear oA4 oB4
  refine hK.out _ _ ⟨oA5, oB5⟩ (fun hHeld2 => ?_)
  clear hK K hHeld
  have hHeld := hHeld2
  clear hHeld2
  try simp only [Act.put, List.getElem_toArray, List.getElem_cons_zero, List.getElem_cons_succ, List.setIfInBounds_toArray, List.set_cons_zero, List.set_cons_succ]
  refine wpAnyH_ready (rs := [14]) (by kernel_rfl) (by simp) ?_
  refine (AllReadyH.cons rfl (fun K hK => ?_) AllReadyH.nil)
  go_simp
  go_at_call 79
  refine (HI.out _ hb5).mono ?_
  rintro e w7 ⟨rfl, hc6⟩
  have hb6 := bl_trans hb5 hc6
  have oA6 := oA5.step hc6
  have oB6 := oB5.step hc6
  clear oA5 oB5
  refine hK.out _ _ ⟨oA6, oB6⟩ (fun hHeld2 => ?_)
  clear hK K hHeld
  have hHeld := hHeld2
  clear hHeld2
  try simp only [Act.put, List.getElem_toArray, List.getElem_cons_zero, List.getElem_cons_succ, List.setIfInBounds_toArray, List.set_cons_zero, List.set_cons_succ]
  refine wpAnyH_take (i := 15) (v := ?_) rfl (by kernel_rfl) (by kernel_rfl) (by kernel_rfl) (fun _ _ _ h => h) (Or.inl ⟨by rfl, ?_⟩) (by assumption) ?_
  rotate_left
  · (intro W hSw; go_simp; rw [if_neg (by (try simp only [ByteArray.size_append]); first | omega | (simp; omega))])
  simp only [Act.put, List.getElem_toArray, List.getElem_cons_zero, List.getElem_cons_succ, List.setIfInBounds_toArray, List.set_cons_zero, List.set_cons_succ]
  refine wpAnyH_take (i := 16) (v := ?_) rfl (by kernel_rfl) (by kernel_rfl) (by kernel_rfl) (fun _ _ _ h => h) (Or.inl ⟨by rfl, ?_⟩) (by assumption) ?_
  rotate_left
  · (intro W hSw; skip; go_simp; try with_reducible rfl)
  simp only [Act.put, List.getElem_toArray, List.getElem_cons_zero, List.getElem_cons_succ, List.setIfInBounds_toArray, List.set_cons_zero, List.set_cons_succ]
  refine wpAnyH_done (by kernel_rfl) ?_ _
  go_wp2
  go_ret
  exact ⟨by rw [hT.out]; first | done | rfl, hb6⟩
end Go.Proofs.YtniheakafkakhaaDoor
