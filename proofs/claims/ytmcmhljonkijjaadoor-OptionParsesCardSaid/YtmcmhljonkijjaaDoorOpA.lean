/- option's fields, the record's methods, option.Text, alive of layer 5 -/
import Derived.Test.YtmcmhljonkijjaaDoorTen
import Derived.Test.YtmcmhljonkijjaaDoorPfxM
import Derived.Laws.StructEq
import Derived.StillTailTactics
import Derived.Test.YtmcmhljonkijjaaDoorStepG
namespace Go.Proofs.YtmcmhljonkijjaaDoor
open Go.RowKit Go.Sort

theorem results_cell1 {P : Program} {fn : Func} {p : Tmp} {ty : TypeId} (h : fn.results = #[.cell p ty]) (tmps : Array Value) (w : World) (g : Nat) (T : TypeId) (cs : Array Value) (d : TypeDesc)
    (hp : tmps.getD p undef = .pointer (some ⟨g, 0, none⟩)) (hg : Own w g T cs) (hu : P.underlying ty = some d) (hd : (match d with | .struct _ | .array _ _ => true | _ => false) = true) (hi : (P.info? ty).map (·.size) = some cs.size) :
    (results fn tmps).run P w = .ok (.agg cs) w := by
  have hp' : tmps[p]?.getD undef = .pointer (some ⟨g, 0, none⟩) := by simpa using hp
  simp [results, h, hp', asAddr, run_loadVar_row w g T ty cs (0, 0) d hg hu hd hi]
def fldV : Array Value := #[.string ⟨#[97, 115, 52]⟩, .func (.func 78) #[] #[], .string ⟨#[101, 120, 116, 101, 110, 100, 101, 100]⟩, .func (.func 79) #[] #[], .string ⟨#[109, 112, 52]⟩, .func (.func 80) #[] #[], .string ⟨#[109, 112, 54]⟩, .func (.func 81) #[] #[], .string ⟨#[97, 100, 100, 52]⟩, .func (.func 82) #[] #[], .string ⟨#[97, 100, 100, 54]⟩, .func (.func 83) #[] #[]]
theorem fld_one : fldV.all (·.oneCell') = true := by simp [fldV, Value.oneCell']
set_option maxRecDepth 100000 in
theorem fld_info : (Tryd.prog.info? 99).map (·.size) = some fldV.size := by kernel_rfl
set_option maxRecDepth 100000 in
theorem fld_desc : Tryd.prog.underlying 99 = some (.array 6 98) := by kernel_rfl
def fldZ : Array Value := #[.string ⟨#[]⟩, .nilFunc, .string ⟨#[]⟩, .nilFunc, .string ⟨#[]⟩, .nilFunc, .string ⟨#[]⟩, .nilFunc, .string ⟨#[]⟩, .nilFunc, .string ⟨#[]⟩, .nilFunc]
set_option maxRecDepth 100000 in
theorem fld_built : Tryd.prog.built 99 [(0, .agg #[.string ⟨#[97, 115, 52]⟩, .func (.func 78) #[] #[]]), (1, .agg #[.string ⟨#[101, 120, 116, 101, 110, 100, 101, 100]⟩, .func (.func 79) #[] #[]]), (2, .agg #[.string ⟨#[109, 112, 52]⟩, .func (.func 80) #[] #[]]), (3, .agg #[.string ⟨#[109, 112, 54]⟩, .func (.func 81) #[] #[]]), (4, .agg #[.string ⟨#[97, 100, 100, 52]⟩, .func (.func 82) #[] #[]]), (5, .agg #[.string ⟨#[97, 100, 100, 54]⟩, .func (.func 83) #[] #[]])] = some fldV := by kernel_rfl
set_option maxRecDepth 100000 in
set_option maxHeartbeats 1600000 in
theorem fields_any (w : World) : Calls Tryd.prog 56 #[] w fun e w' => e = .returned (.agg fldV) ∧ Below w.heap.size w w' := by
  have o0 := Own.new w 99 fldZ
  have hb0 := bl_alloc (bl_refl w) (.cells fldZ 99)
  go_enter Tryd.func56, Tryd.ntmps56
  go_wp2_with (refine wpList_store_row rfl 99 _ _ rfl w.heap.size fldV rfl rfl 99 fldZ o0 fld_info rfl fld_one ?_)
  exact bodyPost_ret (results_cell1 (p := 0) (fn := Tryd.f56) rfl _ _ w.heap.size 99 fldV _ rfl o0.setRow fld_desc rfl fld_info) rfl ⟨rfl, bl_setRow hb0 (Nat.le_refl _)⟩
set_option maxRecDepth 100000 in
theorem rec0_any (g : Nat) (w : World) : Calls Tryd.prog 78 #[.pointer (some ⟨g, 0, none⟩)] w fun e w' => e = .returned (.pointer (some ⟨g, 0, none⟩)) ∧ w = w' := by
  go_enter Tryd.func78, Tryd.ntmps78
  go_wp2
  go_ret
  exact ⟨rfl, rfl⟩
set_option maxRecDepth 100000 in
theorem fidx0 (W : World) : (Instr.index 99 (.agg fldV) (.int .i64 0)).run Tryd.prog W = .ok (.agg #[.string ⟨#[97, 115, 52]⟩, .func (.func 78) #[] #[]]) W := by kernel_rfl
set_option maxRecDepth 100000 in
theorem rec1_any (g : Nat) (w : World) : Calls Tryd.prog 79 #[.pointer (some ⟨g, 0, none⟩)] w fun e w' => e = .returned (.pointer (some ⟨g, 1, none⟩)) ∧ w = w' := by
  go_enter Tryd.func79, Tryd.ntmps79
  go_wp2
  go_ret
  exact ⟨rfl, rfl⟩
set_option maxRecDepth 100000 in
theorem fidx1 (W : World) : (Instr.index 99 (.agg fldV) (.int .i64 1)).run Tryd.prog W = .ok (.agg #[.string ⟨#[101, 120, 116, 101, 110, 100, 101, 100]⟩, .func (.func 79) #[] #[]]) W := by kernel_rfl
set_option maxRecDepth 100000 in
theorem rec2_any (g : Nat) (w : World) : Calls Tryd.prog 80 #[.pointer (some ⟨g, 0, none⟩)] w fun e w' => e = .returned (.pointer (some ⟨g, 2, none⟩)) ∧ w = w' := by
  go_enter Tryd.func80, Tryd.ntmps80
  go_wp2
  go_ret
  exact ⟨rfl, rfl⟩
set_option maxRecDepth 100000 in
theorem fidx2 (W : World) : (Instr.index 99 (.agg fldV) (.int .i64 2)).run Tryd.prog W = .ok (.agg #[.string ⟨#[109, 112, 52]⟩, .func (.func 80) #[] #[]]) W := by kernel_rfl
set_option maxRecDepth 100000 in
theorem rec3_any (g : Nat) (w : World) : Calls Tryd.prog 81 #[.pointer (some ⟨g, 0, none⟩)] w fun e w' => e = .returned (.pointer (some ⟨g, 3, none⟩)) ∧ w = w' := by
  go_enter Tryd.func81, Tryd.ntmps81
  go_wp2
  go_ret
  exact ⟨rfl, rfl⟩
set_option maxRecDepth 100000 in
theorem fidx3 (W : World) : (Instr.index 99 (.agg fldV) (.int .i64 3)).run Tryd.prog W = .ok (.agg #[.string ⟨#[109, 112, 54]⟩, .func (.func 81) #[] #[]]) W := by kernel_rfl
set_option maxRecDepth 100000 in
theorem rec4_any (g : Nat) (w : World) : Calls Tryd.prog 82 #[.pointer (some ⟨g, 0, none⟩)] w fun e w' => e = .returned (.pointer (some ⟨g, 4, none⟩)) ∧ w = w' := by
  go_enter Tryd.func82, Tryd.ntmps82
  go_wp2
  go_ret
  exact ⟨rfl, rfl⟩
set_option maxRecDepth 100000 in
theorem fidx4 (W : World) : (Instr.index 99 (.agg fldV) (.int .i64 4)).run Tryd.prog W = .ok (.agg #[.string ⟨#[97, 100, 100, 52]⟩, .func (.func 82) #[] #[]]) W := by kernel_rfl
set_option maxRecDepth 100000 in
theorem rec5_any (g : Nat) (w : World) : Calls Tryd.prog 83 #[.pointer (some ⟨g, 0, none⟩)] w fun e w' => e = .returned (.pointer (some ⟨g, 5, none⟩)) ∧ w = w' := by
  go_enter Tryd.func83, Tryd.ntmps83
  go_wp2
  go_ret
  exact ⟨rfl, rfl⟩
set_option maxRecDepth 100000 in
theorem fidx5 (W : World) : (Instr.index 99 (.agg fldV) (.int .i64 5)).run Tryd.prog W = .ok (.agg #[.string ⟨#[97, 100, 100, 54]⟩, .func (.func 83) #[] #[]]) W := by kernel_rfl
theorem six_fields {fs : List Field} {n0 : String} {t0 : TypeId} {o0 : Nat} {n1 : String} {t1 : TypeId} {o1 : Nat} {n2 : String} {t2 : TypeId} {o2 : Nat} {n3 : String} {t3 : TypeId} {o3 : Nat} {n4 : String} {t4 : TypeId} {o4 : Nat} {n5 : String} {t5 : TypeId} {o5 : Nat} (hf : fs.map (fun x => (x.name, x.type, x.offset)) = [(n0, t0, o0), (n1, t1, o1), (n2, t2, o2), (n3, t3, o3), (n4, t4, o4), (n5, t5, o5)]) :
    ∃ f0 f1 f2 f3 f4 f5 : Field, fs = [f0, f1, f2, f3, f4, f5] ∧ (f0.name = n0 ∧ f0.type = t0 ∧ f0.offset = o0) ∧ (f1.name = n1 ∧ f1.type = t1 ∧ f1.offset = o1) ∧ (f2.name = n2 ∧ f2.type = t2 ∧ f2.offset = o2) ∧ (f3.name = n3 ∧ f3.type = t3 ∧ f3.offset = o3) ∧ (f4.name = n4 ∧ f4.type = t4 ∧ f4.offset = o4) ∧ (f5.name = n5 ∧ f5.type = t5 ∧ f5.offset = o5) := by
  obtain ⟨f0, g0, rfl, h0, hf⟩ := List.map_eq_cons_iff.1 hf
  obtain ⟨f1, g1, rfl, h1, hf⟩ := List.map_eq_cons_iff.1 hf
  obtain ⟨f2, g2, rfl, h2, hf⟩ := List.map_eq_cons_iff.1 hf
  obtain ⟨f3, g3, rfl, h3, hf⟩ := List.map_eq_cons_iff.1 hf
  obtain ⟨f4, g4, rfl, h4, hf⟩ := List.map_eq_cons_iff.1 hf
  obtain ⟨f5, g5, rfl, h5, hf⟩ := List.map_eq_cons_iff.1 hf
  rw [List.map_eq_nil_iff] at hf
  subst hf
  simp only [Prod.mk.injEq] at h0 h1 h2 h3 h4 h5
  exact ⟨f0, f1, f2, f3, f4, f5, rfl, h0, h1, h2, h3, h4, h5⟩
set_option maxRecDepth 100000 in
theorem op_desc : Tryd.prog.underlying 50 = some (.struct (Tryd.prog.fieldsOf 50)) := by kernel_rfl
set_option maxRecDepth 100000 in
theorem op_info (a b c d e f : Value) : (Tryd.prog.info? 50).map (·.size) = some (#[a, b, c, d, e, f] : Array Value).size := by kernel_rfl
set_option maxRecDepth 100000 in
theorem op_eqIn (a0 a1 a2 a3 a4 a5 b0 b1 b2 b3 b4 b5 : Bool) (W : World) : (Op.equalIn 10000 50 (.agg #[.bool a0, .bool a1, .bool a2, .bool a3, .bool a4, .bool a5]) (.agg #[.bool b0, .bool b1, .bool b2, .bool b3, .bool b4, .bool b5])).run Tryd.prog W = Result.ok (decide (a0 = b0) && (decide (a1 = b1) && (decide (a2 = b2) && (decide (a3 = b3) && (decide (a4 = b4) && decide (a5 = b5)))))) W := by
  have hz := Tryd.underlying4
  rw [run_equalIn_agg W 9999 50 _ _ op_desc (by kernel_rfl)]
  have hf : (Tryd.prog.fieldsOf 50).toList.map (fun x => (x.name, x.type, x.offset)) = [("AS4", 4, 0), ("Extended", 4, 1), ("MP4", 4, 2), ("MP6", 4, 3), ("Add4", 4, 4), ("Add6", 4, 5)] := by kernel_rfl
  obtain ⟨f0, f1, f2, f3, f4, f5, e, ⟨n0, t0, o0⟩, ⟨n1, t1, o1⟩, ⟨n2, t2, o2⟩, ⟨n3, t3, o3⟩, ⟨n4, t4, o4⟩, ⟨n5, t5, o5⟩⟩ := six_fields hf
  have q : ∀ (x y : Bool) W, (Op.equalIn 9999 4 (.bool x) (.bool y)).run Tryd.prog W = Result.ok (x == y) W := fun x y W => by rw [run_equalIn_bool' W 9998 4 _ _ hz]
  have p0 : ∀ (a b c d e f : Bool) W, (Go.part 4 #[.bool a, .bool b, .bool c, .bool d, .bool e, .bool f] 0).run Tryd.prog W = Result.ok (.bool a) W := fun _ _ _ _ _ _ W => by kernel_rfl
  have p1 : ∀ (a b c d e f : Bool) W, (Go.part 4 #[.bool a, .bool b, .bool c, .bool d, .bool e, .bool f] 1).run Tryd.prog W = Result.ok (.bool b) W := fun _ _ _ _ _ _ W => by kernel_rfl
  have p2 : ∀ (a b c d e f : Bool) W, (Go.part 4 #[.bool a, .bool b, .bool c, .bool d, .bool e, .bool f] 2).run Tryd.prog W = Result.ok (.bool c) W := fun _ _ _ _ _ _ W => by kernel_rfl
  have p3 : ∀ (a b c d e f : Bool) W, (Go.part 4 #[.bool a, .bool b, .bool c, .bool d, .bool e, .bool f] 3).run Tryd.prog W = Result.ok (.bool d) W := fun _ _ _ _ _ _ W => by kernel_rfl
  have p4 : ∀ (a b c d e f : Bool) W, (Go.part 4 #[.bool a, .bool b, .bool c, .bool d, .bool e, .bool f] 4).run Tryd.prog W = Result.ok (.bool e) W := fun _ _ _ _ _ _ W => by kernel_rfl
  have p5 : ∀ (a b c d e f : Bool) W, (Go.part 4 #[.bool a, .bool b, .bool c, .bool d, .bool e, .bool f] 5).run Tryd.prog W = Result.ok (.bool f) W := fun _ _ _ _ _ _ W => by kernel_rfl
  rw [e]
  simp only [Op.eqFields, n0, t0, o0, n1, t1, o1, n2, t2, o2, n3, t3, o3, n4, t4, o4, n5, t5, o5]
  simp only [show ("AS4" ≠ "_") = True by decide, show ("Extended" ≠ "_") = True by decide, show ("MP4" ≠ "_") = True by decide, show ("MP6" ≠ "_") = True by decide, show ("Add4" ≠ "_") = True by decide, show ("Add6" ≠ "_") = True by decide, if_true, Sem.run_bind, p0, Result.andThen_ok, q]
  clear hf e n0 t0 o0 n1 t1 o1 n2 t2 o2 n3 t3 o3 n4 t4 o4 n5 t5 o5 hz
  by_cases h0 : a0 = b0
  · subst h0
    by_cases h1 : a1 = b1
    · subst h1
      by_cases h2 : a2 = b2
      · subst h2
        by_cases h3 : a3 = b3
        · subst h3
          by_cases h4 : a4 = b4
          · subst h4
            by_cases h5 : a5 = b5
            · subst h5
              simp [p1, p2, p3, p4, p5, q]
            · simp [h5, p1, p2, p3, p4, p5, q]
          · simp [h4, p1, p2, p3, p4, q]
        · simp [h3, p1, p2, p3, q]
      · simp [h2, p1, p2, q]
    · simp [h1, p1, q]
  · simp [h0]
set_option maxRecDepth 100000 in
theorem op_eql (a0 a1 a2 a3 a4 a5 b0 b1 b2 b3 b4 b5 : Bool) (W : World) : (binOp .eql 50 (.agg #[.bool a0, .bool a1, .bool a2, .bool a3, .bool a4, .bool a5]) (.agg #[.bool b0, .bool b1, .bool b2, .bool b3, .bool b4, .bool b5])).run Tryd.prog W = Result.ok (.bool (decide (a0 = b0) && (decide (a1 = b1) && (decide (a2 = b2) && (decide (a3 = b3) && (decide (a4 = b4) && decide (a5 = b5))))))) W := by
  rw [run_eql_struct W, op_eqIn]; rfl
set_option maxRecDepth 100000 in
theorem op_same (a0 a1 a2 a3 a4 a5 : Bool) (W : World) : (binOp .eql 50 (.agg #[.bool a0, .bool a1, .bool a2, .bool a3, .bool a4, .bool a5]) (.agg #[.bool a0, .bool a1, .bool a2, .bool a3, .bool a4, .bool a5])).run Tryd.prog W = Result.ok (.bool true) W := by
  rw [op_eql]; simp
set_option maxRecDepth 100000 in
theorem fd_info (a b : Value) : (Tryd.prog.info? 98).map (·.size) = some (#[a, b] : Array Value).size := by kernel_rfl
theorem fd_one (s : ByteArray) (f : Nat) : (#[Value.string s, .func (.func f) #[] #[]] : Array Value).all (·.oneCell') = true := by simp [Value.oneCell']
def optL (a0 a1 a2 a3 a4 a5 : Bool) : List (Bool × ByteArray) := [(a0, ⟨#[97, 115, 52]⟩), (a1, ⟨#[101, 120, 116, 101, 110, 100, 101, 100]⟩), (a2, ⟨#[109, 112, 52]⟩), (a3, ⟨#[109, 112, 54]⟩), (a4, ⟨#[97, 100, 100, 52]⟩), (a5, ⟨#[97, 100, 100, 54]⟩)]
def optN (l : List (Bool × ByteArray)) : List ByteArray := l.filterMap fun p => if p.1 then some p.2 else none
/-- The names of the options among the first k. -/
def oB (a0 a1 a2 a3 a4 a5 : Bool) (k : Nat) : List ByteArray := optN ((optL a0 a1 a2 a3 a4 a5).take k)
theorem oB_step (a0 a1 a2 a3 a4 a5 : Bool) (k : Nat) {x : Bool × ByteArray} (h : (optL a0 a1 a2 a3 a4 a5)[k]? = some x) : oB a0 a1 a2 a3 a4 a5 (k + 1) = if x.1 then oB a0 a1 a2 a3 a4 a5 k ++ [x.2] else oB a0 a1 a2 a3 a4 a5 k := by
  unfold oB optN
  rw [List.take_add_one, h]
  cases hx : x.1 <;> simp [hx]
theorem oB_len (a0 a1 a2 a3 a4 a5 : Bool) (k : Nat) : (oB a0 a1 a2 a3 a4 a5 k).length ≤ 6 := by
  unfold oB optN
  have h1 := List.length_filterMap_le (fun p : Bool × ByteArray => if p.1 then some p.2 else none) ((optL a0 a1 a2 a3 a4 a5).take k)
  have h2 : ((optL a0 a1 a2 a3 a4 a5).take k).length ≤ 6 := by rw [List.length_take]; exact Nat.min_le_right _ _
  omega
theorem oB_small (a0 a1 a2 a3 a4 a5 : Bool) (k : Nat) : ∀ x ∈ oB a0 a1 a2 a3 a4 a5 k, x.data.toList.length ≤ 8 := by
  intro x hx
  unfold oB optN at hx
  obtain ⟨p, hp, hq⟩ := List.mem_filterMap.1 hx
  have hp := List.mem_of_mem_take hp
  split at hq
  · have := Option.some.inj hq
    subst this
    unfold optL at hp
    simp only [List.mem_cons, List.not_mem_nil, or_false] at hp
    rcases hp with h | h | h | h | h | h <;> (rw [h]; simp)
  · cases hq
def oNone (a0 a1 a2 a3 a4 a5 : Bool) : Bool := !a0 && !a1 && !a2 && !a3 && !a4 && !a5
/-- The text of options. -/
def oTxt (a0 a1 a2 a3 a4 a5 : Bool) : ByteArray := if oNone a0 a1 a2 a3 a4 a5 then ⟨#[45]⟩ else joinB (oB a0 a1 a2 a3 a4 a5 6) [32]
set_option maxRecDepth 100000 in
theorem sl_strO : SliceOf Tryd.prog 48 9 1 16 := SliceOf.mk Tryd.underlying48 (z := .string ⟨#[]⟩) (by kernel_rfl) rfl (by decide)
set_option maxRecDepth 100000 in
set_option maxHeartbeats 800000 in
theorem otext_none (w : World) : Calls Tryd.prog 32 #[.agg #[.bool false, .bool false, .bool false, .bool false, .bool false, .bool false]] w fun e w' => e = .returned (.string ⟨#[45]⟩) ∧ Below w.heap.size w w' := by
  have he := op_same false false false false false false
  have hb0 := bl_alloc (bl_refl w) (.cells #[.bool false, .bool false, .bool false, .bool false, .bool false, .bool false] 50)
  go_enter Tryd.func32, Tryd.ntmps32
  go_wp2
  go_ret
  exact ⟨rfl, hb0⟩
set_option maxRecDepth 100000 in
set_option maxHeartbeats 6400000 in
theorem otext_some (a0 a1 a2 a3 a4 a5 : Bool) (w : World) (hz : oNone a0 a1 a2 a3 a4 a5 = false) :
    Calls Tryd.prog 32 #[.agg #[.bool a0, .bool a1, .bool a2, .bool a3, .bool a4, .bool a5]] w fun e w' => e = .returned (.string (joinB (oB a0 a1 a2 a3 a4 a5 6) [32])) ∧ Below w.heap.size w w' := by
  have he : ∀ W, (binOp .eql 50 (.agg #[.bool a0, .bool a1, .bool a2, .bool a3, .bool a4, .bool a5]) (.agg #[.bool false, .bool false, .bool false, .bool false, .bool false, .bool false])).run Tryd.prog W = Result.ok (.bool false) W := fun W => by
    rw [op_eql]
    have : (decide (a0 = false) && (decide (a1 = false) && (decide (a2 = false) && (decide (a3 = false) && (decide (a4 = false) && decide (a5 = false)))))) = oNone a0 a1 a2 a3 a4 a5 := by unfold oNone; revert hz; cases a0 <;> cases a1 <;> cases a2 <;> cases a3 <;> cases a4 <;> cases a5 <;> simp
    rw [this, hz]
  clear hz
  have hs0 := Lib.hid (oB_step a0 a1 a2 a3 a4 a5 0 (x := (a0, ⟨#[97, 115, 52]⟩)) rfl)
  have hs1 := Lib.hid (oB_step a0 a1 a2 a3 a4 a5 1 (x := (a1, ⟨#[101, 120, 116, 101, 110, 100, 101, 100]⟩)) rfl)
  have hs2 := Lib.hid (oB_step a0 a1 a2 a3 a4 a5 2 (x := (a2, ⟨#[109, 112, 52]⟩)) rfl)
  have hs3 := Lib.hid (oB_step a0 a1 a2 a3 a4 a5 3 (x := (a3, ⟨#[109, 112, 54]⟩)) rfl)
  have hs4 := Lib.hid (oB_step a0 a1 a2 a3 a4 a5 4 (x := (a4, ⟨#[97, 100, 100, 52]⟩)) rfl)
  have hs5 := Lib.hid (oB_step a0 a1 a2 a3 a4 a5 5 (x := (a5, ⟨#[97, 100, 100, 54]⟩)) rfl)
  have hln := Lib.hid (oB_len a0 a1 a2 a3 a4 a5)
  have hsm := Lib.hid (oB_small a0 a1 a2 a3 a4 a5 6)
  have h0N : Hid (oB a0 a1 a2 a3 a4 a5 0 = []) := Lib.hid rfl
  generalize oB a0 a1 a2 a3 a4 a5 = N at *
  have hb0 := bl_alloc (bl_alloc (bl_refl w) (.cells #[.bool a0, .bool a1, .bool a2, .bool a3, .bool a4, .bool a5] 50)) (.cells #[.bool a0, .bool a1, .bool a2, .bool a3, .bool a4, .bool a5] 86)
  have o1 := Own.new (w.alloc (.cells #[.bool a0, .bool a1, .bool a2, .bool a3, .bool a4, .bool a5] 50)) 86 #[.bool a0, .bool a1, .bool a2, .bool a3, .bool a4, .bool a5]
  rw [show (w.alloc (.cells #[.bool a0, .bool a1, .bool a2, .bool a3, .bool a4, .bool a5] 50)).heap.size = w.heap.size + 1 by simp] at o1
  go_enter Tryd.func32, Tryd.ntmps32
  go_wp2_with fail
  refine (fields_any _).mono ?_
  rintro e w1 ⟨rfl, hb1⟩
  have o2 := o1.step hb1
  have hb2 := bl_trans hb0 hb1
  have hown0 : w1.ownsRow (w.heap.size + 1 + 1) 9 1 (.slice none 0 0) (N 0).length ((N 0).map Value.string) := by
    rw [h0N.out]
    exact World.ownsRow_nil _ _ _ _
  clear he hb0 hb1 o1
  go_wp2_with fail
  go_loopw [4, 13] (fun v i wr => ∃ k : Nat, k ≤ 6 ∧ i = .int .i64 k ∧ wr.ownsRow (w.heap.size + 1 + 1) 9 1 v (N k).length ((N k).map Value.string) ∧ Own wr (w.heap.size + 1) 86 #[.bool a0, .bool a1, .bool a2, .bool a3, .bool a4, .bool a5] ∧ Below w.heap.size w wr) (fun _ i _ => 6 - (intOf i).toNat)
  case atStart => exact ⟨0, by omega, rfl, hown0, o2, hb2⟩
  case round =>
    obtain ⟨k, hk, rfl, hown, hor, hbr⟩ := hrel
    clear hown0 o2 hb2
    have hl := hor.lt
    have hk6 : k = 0 ∨ k = 1 ∨ k = 2 ∨ k = 3 ∨ k = 4 ∨ k = 5 ∨ k = 6 := by omega
    rcases hk6 with rfl | rfl | rfl | rfl | rfl | rfl | rfl
    · have hidx := fidx0
      have hll := hln.out 0
      by_cases hb : a0 = true
      · have HB := Lib.hid hb
        have hst := Lib.hid (show N 1 = N 0 ++ [⟨#[97, 115, 52]⟩] by have := hs0.out; rw [hb] at this; exact this)
        clear hb
        go_wp2_with (first | (refine wpList_store_row rfl 98 _ _ rfl wr.heap.size #[.string ⟨#[97, 115, 52]⟩, .func (.func 78) #[] #[]] rfl rfl 98 #[.string ⟨#[]⟩, .nilFunc] (Own.new wr 98 #[.string ⟨#[]⟩, .nilFunc]) (fd_info _ _) rfl (fd_one _ _) ?_; have oN := (Own.new wr 98 #[.string ⟨#[]⟩, .nilFunc]).setRow (cs' := #[.string ⟨#[97, 115, 52]⟩, .func (.func 78) #[] #[]]); have hbS := bl_setRow (g := wr.heap.size) (cs := #[.string ⟨#[97, 115, 52]⟩, .func (.func 78) #[] #[]]) (bl_alloc (bl_refl wr) (.cells #[.string ⟨#[]⟩, .nilFunc] 98)) (Nat.le_refl _); have hown1 := own_belowG hown hbS; have hor1 := hor.step hbS; have hbr1 := bl_trans hbr hbS; generalize (wr.alloc (.cells #[.string ⟨#[]⟩, .nilFunc] 98)).setRow wr.heap.size #[.string ⟨#[97, 115, 52]⟩, .func (.func 78) #[] #[]] = V at *; have x0 := oN.cell (i := 0) rfl; have x1 := oN.cell (i := 1) rfl; have hc : V.cell? ⟨w.heap.size + 1, 0, none⟩ = some (.bool true) := (by have := hor1.cell (i := 0) (v := .bool a0) rfl; rw [HB.out] at this; exact this); have hl1 := hor1.lt; have hl2 := oN.lt; clear hown hor hbr hbS oN) | (go_at_call 78; refine (rec0_any _ _).mono ?_; rintro e w' ⟨rfl, rfl⟩) | (at_builtin; refine wpList_append_grow _ rfl _ _ rfl sl_strO (w.heap.size + 1 + 1) _ _ _ rfl (hown1.alloc _) (V.heap.size + 1) (some ⟨V.heap.size, 0, none⟩) 1 1 [_] rfl rfl (Shows.of_owned (Own.new _ _ _) (by omega)) (one1 rfl) (by unfold maxLen; omega) (by omega) (by simp; omega) ?_; intro v1 w3 hown2 hgrow2))
        have hb3 : Below w.heap.size w w3 := (hbr1.alloc hbr1.size _).grown hgrow2 (by have := hbr1.size; simp; omega) (fun j hj => Nat.le_trans (by omega) (own_base hown1 j hj))
        have hor2 : Own w3 (w.heap.size + 1) 86 #[.bool a0, .bool a1, .bool a2, .bool a3, .bool a4, .bool a5] := (hor1.alloc _).grown hgrow2 (by intro e; have := own_base hown1 _ e.symm; omega)
        go_roundw
        case rel =>
          refine ⟨1, by omega, by go_num, ?_, hor2, hb3⟩
          rw [hst.out, List.length_append, List.map_append]
          exact hown2
        case measure => simp [intOf]
      · have HB := Lib.hid (show a0 = false by simpa using hb)
        have hst := Lib.hid (show N 1 = N 0 by have := hs0.out; rw [HB.out] at this; exact this)
        clear hb
        go_wp2_with (first | (refine wpList_store_row rfl 98 _ _ rfl wr.heap.size #[.string ⟨#[97, 115, 52]⟩, .func (.func 78) #[] #[]] rfl rfl 98 #[.string ⟨#[]⟩, .nilFunc] (Own.new wr 98 #[.string ⟨#[]⟩, .nilFunc]) (fd_info _ _) rfl (fd_one _ _) ?_; have oN := (Own.new wr 98 #[.string ⟨#[]⟩, .nilFunc]).setRow (cs' := #[.string ⟨#[97, 115, 52]⟩, .func (.func 78) #[] #[]]); have hbS := bl_setRow (g := wr.heap.size) (cs := #[.string ⟨#[97, 115, 52]⟩, .func (.func 78) #[] #[]]) (bl_alloc (bl_refl wr) (.cells #[.string ⟨#[]⟩, .nilFunc] 98)) (Nat.le_refl _); have hown1 := own_belowG hown hbS; have hor1 := hor.step hbS; have hbr1 := bl_trans hbr hbS; generalize (wr.alloc (.cells #[.string ⟨#[]⟩, .nilFunc] 98)).setRow wr.heap.size #[.string ⟨#[97, 115, 52]⟩, .func (.func 78) #[] #[]] = V at *; have x0 := oN.cell (i := 0) rfl; have x1 := oN.cell (i := 1) rfl; have hc : V.cell? ⟨w.heap.size + 1, 0, none⟩ = some (.bool false) := (by have := hor1.cell (i := 0) (v := .bool a0) rfl; rw [HB.out] at this; exact this); have hl1 := hor1.lt; have hl2 := oN.lt; clear hown hor hbr hbS oN) | (go_at_call 78; refine (rec0_any _ _).mono ?_; rintro e w' ⟨rfl, rfl⟩))
        go_roundw
        case rel => exact ⟨1, by omega, by go_num, by rw [hst.out]; exact hown1, hor1, hbr1⟩
        case measure => simp [intOf]
    · have hidx := fidx1
      have hll := hln.out 1
      by_cases hb : a1 = true
      · have HB := Lib.hid hb
        have hst := Lib.hid (show N 2 = N 1 ++ [⟨#[101, 120, 116, 101, 110, 100, 101, 100]⟩] by have := hs1.out; rw [hb] at this; exact this)
        clear hb
        go_wp2_with (first | (refine wpList_store_row rfl 98 _ _ rfl wr.heap.size #[.string ⟨#[101, 120, 116, 101, 110, 100, 101, 100]⟩, .func (.func 79) #[] #[]] rfl rfl 98 #[.string ⟨#[]⟩, .nilFunc] (Own.new wr 98 #[.string ⟨#[]⟩, .nilFunc]) (fd_info _ _) rfl (fd_one _ _) ?_; have oN := (Own.new wr 98 #[.string ⟨#[]⟩, .nilFunc]).setRow (cs' := #[.string ⟨#[101, 120, 116, 101, 110, 100, 101, 100]⟩, .func (.func 79) #[] #[]]); have hbS := bl_setRow (g := wr.heap.size) (cs := #[.string ⟨#[101, 120, 116, 101, 110, 100, 101, 100]⟩, .func (.func 79) #[] #[]]) (bl_alloc (bl_refl wr) (.cells #[.string ⟨#[]⟩, .nilFunc] 98)) (Nat.le_refl _); have hown1 := own_belowG hown hbS; have hor1 := hor.step hbS; have hbr1 := bl_trans hbr hbS; generalize (wr.alloc (.cells #[.string ⟨#[]⟩, .nilFunc] 98)).setRow wr.heap.size #[.string ⟨#[101, 120, 116, 101, 110, 100, 101, 100]⟩, .func (.func 79) #[] #[]] = V at *; have x0 := oN.cell (i := 0) rfl; have x1 := oN.cell (i := 1) rfl; have hc : V.cell? ⟨w.heap.size + 1, 1, none⟩ = some (.bool true) := (by have := hor1.cell (i := 1) (v := .bool a1) rfl; rw [HB.out] at this; exact this); have hl1 := hor1.lt; have hl2 := oN.lt; clear hown hor hbr hbS oN) | (go_at_call 79; refine (rec1_any _ _).mono ?_; rintro e w' ⟨rfl, rfl⟩) | (at_builtin; refine wpList_append_grow _ rfl _ _ rfl sl_strO (w.heap.size + 1 + 1) _ _ _ rfl (hown1.alloc _) (V.heap.size + 1) (some ⟨V.heap.size, 0, none⟩) 1 1 [_] rfl rfl (Shows.of_owned (Own.new _ _ _) (by omega)) (one1 rfl) (by unfold maxLen; omega) (by omega) (by simp; omega) ?_; intro v1 w3 hown2 hgrow2))
        have hb3 : Below w.heap.size w w3 := (hbr1.alloc hbr1.size _).grown hgrow2 (by have := hbr1.size; simp; omega) (fun j hj => Nat.le_trans (by omega) (own_base hown1 j hj))
        have hor2 : Own w3 (w.heap.size + 1) 86 #[.bool a0, .bool a1, .bool a2, .bool a3, .bool a4, .bool a5] := (hor1.alloc _).grown hgrow2 (by intro e; have := own_base hown1 _ e.symm; omega)
        go_roundw
        case rel =>
          refine ⟨2, by omega, by go_num, ?_, hor2, hb3⟩
          rw [hst.out, List.length_append, List.map_append]
          exact hown2
        case measure => simp [intOf]
      · have HB := Lib.hid (show a1 = false by simpa using hb)
        have hst := Lib.hid (show N 2 = N 1 by have := hs1.out; rw [HB.out] at this; exact this)
        clear hb
        go_wp2_with (first | (refine wpList_store_row rfl 98 _ _ rfl wr.heap.size #[.string ⟨#[101, 120, 116, 101, 110, 100, 101, 100]⟩, .func (.func 79) #[] #[]] rfl rfl 98 #[.string ⟨#[]⟩, .nilFunc] (Own.new wr 98 #[.string ⟨#[]⟩, .nilFunc]) (fd_info _ _) rfl (fd_one _ _) ?_; have oN := (Own.new wr 98 #[.string ⟨#[]⟩, .nilFunc]).setRow (cs' := #[.string ⟨#[101, 120, 116, 101, 110, 100, 101, 100]⟩, .func (.func 79) #[] #[]]); have hbS := bl_setRow (g := wr.heap.size) (cs := #[.string ⟨#[101, 120, 116, 101, 110, 100, 101, 100]⟩, .func (.func 79) #[] #[]]) (bl_alloc (bl_refl wr) (.cells #[.string ⟨#[]⟩, .nilFunc] 98)) (Nat.le_refl _); have hown1 := own_belowG hown hbS; have hor1 := hor.step hbS; have hbr1 := bl_trans hbr hbS; generalize (wr.alloc (.cells #[.string ⟨#[]⟩, .nilFunc] 98)).setRow wr.heap.size #[.string ⟨#[101, 120, 116, 101, 110, 100, 101, 100]⟩, .func (.func 79) #[] #[]] = V at *; have x0 := oN.cell (i := 0) rfl; have x1 := oN.cell (i := 1) rfl; have hc : V.cell? ⟨w.heap.size + 1, 1, none⟩ = some (.bool false) := (by have := hor1.cell (i := 1) (v := .bool a1) rfl; rw [HB.out] at this; exact this); have hl1 := hor1.lt; have hl2 := oN.lt; clear hown hor hbr hbS oN) | (go_at_call 79; refine (rec1_any _ _).mono ?_; rintro e w' ⟨rfl, rfl⟩))
        go_roundw
        case rel => exact ⟨2, by omega, by go_num, by rw [hst.out]; exact hown1, hor1, hbr1⟩
        case measure => simp [intOf]
    · have hidx := fidx2
      have hll := hln.out 2
      by_cases hb : a2 = true
      · have HB := Lib.hid hb
        have hst := Lib.hid (show N 3 = N 2 ++ [⟨#[109, 112, 52]⟩] by have := hs2.out; rw [hb] at this; exact this)
        clear hb
        go_wp2_with (first | (refine wpList_store_row rfl 98 _ _ rfl wr.heap.size #[.string ⟨#[109, 112, 52]⟩, .func (.func 80) #[] #[]] rfl rfl 98 #[.string ⟨#[]⟩, .nilFunc] (Own.new wr 98 #[.string ⟨#[]⟩, .nilFunc]) (fd_info _ _) rfl (fd_one _ _) ?_; have oN := (Own.new wr 98 #[.string ⟨#[]⟩, .nilFunc]).setRow (cs' := #[.string ⟨#[109, 112, 52]⟩, .func (.func 80) #[] #[]]); have hbS := bl_setRow (g := wr.heap.size) (cs := #[.string ⟨#[109, 112, 52]⟩, .func (.func 80) #[] #[]]) (bl_alloc (bl_refl wr) (.cells #[.string ⟨#[]⟩, .nilFunc] 98)) (Nat.le_refl _); have hown1 := own_belowG hown hbS; have hor1 := hor.step hbS; have hbr1 := bl_trans hbr hbS; generalize (wr.alloc (.cells #[.string ⟨#[]⟩, .nilFunc] 98)).setRow wr.heap.size #[.string ⟨#[109, 112, 52]⟩, .func (.func 80) #[] #[]] = V at *; have x0 := oN.cell (i := 0) rfl; have x1 := oN.cell (i := 1) rfl; have hc : V.cell? ⟨w.heap.size + 1, 2, none⟩ = some (.bool true) := (by have := hor1.cell (i := 2) (v := .bool a2) rfl; rw [HB.out] at this; exact this); have hl1 := hor1.lt; have hl2 := oN.lt; clear hown hor hbr hbS oN) | (go_at_call 80; refine (rec2_any _ _).mono ?_; rintro e w' ⟨rfl, rfl⟩) | (at_builtin; refine wpList_append_grow _ rfl _ _ rfl sl_strO (w.heap.size + 1 + 1) _ _ _ rfl (hown1.alloc _) (V.heap.size + 1) (some ⟨V.heap.size, 0, none⟩) 1 1 [_] rfl rfl (Shows.of_owned (Own.new _ _ _) (by omega)) (one1 rfl) (by unfold maxLen; omega) (by omega) (by simp; omega) ?_; intro v1 w3 hown2 hgrow2))
        have hb3 : Below w.heap.size w w3 := (hbr1.alloc hbr1.size _).grown hgrow2 (by have := hbr1.size; simp; omega) (fun j hj => Nat.le_trans (by omega) (own_base hown1 j hj))
        have hor2 : Own w3 (w.heap.size + 1) 86 #[.bool a0, .bool a1, .bool a2, .bool a3, .bool a4, .bool a5] := (hor1.alloc _).grown hgrow2 (by intro e; have := own_base hown1 _ e.symm; omega)
        go_roundw
        case rel =>
          refine ⟨3, by omega, by go_num, ?_, hor2, hb3⟩
          rw [hst.out, List.length_append, List.map_append]
          exact hown2
        case measure => simp [intOf]
      · have HB := Lib.hid (show a2 = false by simpa using hb)
        have hst := Lib.hid (show N 3 = N 2 by have := hs2.out; rw [HB.out] at this; exact this)
        clear hb
        go_wp2_with (first | (refine wpList_store_row rfl 98 _ _ rfl wr.heap.size #[.string ⟨#[109, 112, 52]⟩, .func (.func 80) #[] #[]] rfl rfl 98 #[.string ⟨#[]⟩, .nilFunc] (Own.new wr 98 #[.string ⟨#[]⟩, .nilFunc]) (fd_info _ _) rfl (fd_one _ _) ?_; have oN := (Own.new wr 98 #[.string ⟨#[]⟩, .nilFunc]).setRow (cs' := #[.string ⟨#[109, 112, 52]⟩, .func (.func 80) #[] #[]]); have hbS := bl_setRow (g := wr.heap.size) (cs := #[.string ⟨#[109, 112, 52]⟩, .func (.func 80) #[] #[]]) (bl_alloc (bl_refl wr) (.cells #[.string ⟨#[]⟩, .nilFunc] 98)) (Nat.le_refl _); have hown1 := own_belowG hown hbS; have hor1 := hor.step hbS; have hbr1 := bl_trans hbr hbS; generalize (wr.alloc (.cells #[.string ⟨#[]⟩, .nilFunc] 98)).setRow wr.heap.size #[.string ⟨#[109, 112, 52]⟩, .func (.func 80) #[] #[]] = V at *; have x0 := oN.cell (i := 0) rfl; have x1 := oN.cell (i := 1) rfl; have hc : V.cell? ⟨w.heap.size + 1, 2, none⟩ = some (.bool false) := (by have := hor1.cell (i := 2) (v := .bool a2) rfl; rw [HB.out] at this; exact this); have hl1 := hor1.lt; have hl2 := oN.lt; clear hown hor hbr hbS oN) | (go_at_call 80; refine (rec2_any _ _).mono ?_; rintro e w' ⟨rfl, rfl⟩))
        go_roundw
        case rel => exact ⟨3, by omega, by go_num, by rw [hst.out]; exact hown1, hor1, hbr1⟩
        case measure => simp [intOf]
    · have hidx := fidx3
      have hll := hln.out 3
      by_cases hb : a3 = true
      · have HB := Lib.hid hb
        have hst := Lib.hid (show N 4 = N 3 ++ [⟨#[109, 112, 54]⟩] by have := hs3.out; rw [hb] at this; exact this)
        clear hb
        go_wp2_with (first | (refine wpList_store_row rfl 98 _ _ rfl wr.heap.size #[.string ⟨#[109, 112, 54]⟩, .func (.func 81) #[] #[]] rfl rfl 98 #[.string ⟨#[]⟩, .nilFunc] (Own.new wr 98 #[.string ⟨#[]⟩, .nilFunc]) (fd_info _ _) rfl (fd_one _ _) ?_; have oN := (Own.new wr 98 #[.string ⟨#[]⟩, .nilFunc]).setRow (cs' := #[.string ⟨#[109, 112, 54]⟩, .func (.func 81) #[] #[]]); have hbS := bl_setRow (g := wr.heap.size) (cs := #[.string ⟨#[109, 112, 54]⟩, .func (.func 81) #[] #[]]) (bl_alloc (bl_refl wr) (.cells #[.string ⟨#[]⟩, .nilFunc] 98)) (Nat.le_refl _); have hown1 := own_belowG hown hbS; have hor1 := hor.step hbS; have hbr1 := bl_trans hbr hbS; generalize (wr.alloc (.cells #[.string ⟨#[]⟩, .nilFunc] 98)).setRow wr.heap.size #[.string ⟨#[109, 112, 54]⟩, .func (.func 81) #[] #[]] = V at *; have x0 := oN.cell (i := 0) rfl; have x1 := oN.cell (i := 1) rfl; have hc : V.cell? ⟨w.heap.size + 1, 3, none⟩ = some (.bool true) := (by have := hor1.cell (i := 3) (v := .bool a3) rfl; rw [HB.out] at this; exact this); have hl1 := hor1.lt; have hl2 := oN.lt; clear hown hor hbr hbS oN) | (go_at_call 81; refine (rec3_any _ _).mono ?_; rintro e w' ⟨rfl, rfl⟩) | (at_builtin; refine wpList_append_grow _ rfl _ _ rfl sl_strO (w.heap.size + 1 + 1) _ _ _ rfl (hown1.alloc _) (V.heap.size + 1) (some ⟨V.heap.size, 0, none⟩) 1 1 [_] rfl rfl (Shows.of_owned (Own.new _ _ _) (by omega)) (one1 rfl) (by unfold maxLen; omega) (by omega) (by simp; omega) ?_; intro v1 w3 hown2 hgrow2))
        have hb3 : Below w.heap.size w w3 := (hbr1.alloc hbr1.size _).grown hgrow2 (by have := hbr1.size; simp; omega) (fun j hj => Nat.le_trans (by omega) (own_base hown1 j hj))
        have hor2 : Own w3 (w.heap.size + 1) 86 #[.bool a0, .bool a1, .bool a2, .bool a3, .bool a4, .bool a5] := (hor1.alloc _).grown hgrow2 (by intro e; have := own_base hown1 _ e.symm; omega)
        go_roundw
        case rel =>
          refine ⟨4, by omega, by go_num, ?_, hor2, hb3⟩
          rw [hst.out, List.length_append, List.map_append]
          exact hown2
        case measure => simp [intOf]
      · have HB := Lib.hid (show a3 = false by simpa using hb)
        have hst := Lib.hid (show N 4 = N 3 by have := hs3.out; rw [HB.out] at this; exact this)
        clear hb
        go_wp2_with (first | (refine wpList_store_row rfl 98 _ _ rfl wr.heap.size #[.string ⟨#[109, 112, 54]⟩, .func (.func 81) #[] #[]] rfl rfl 98 #[.string ⟨#[]⟩, .nilFunc] (Own.new wr 98 #[.string ⟨#[]⟩, .nilFunc]) (fd_info _ _) rfl (fd_one _ _) ?_; have oN := (Own.new wr 98 #[.string ⟨#[]⟩, .nilFunc]).setRow (cs' := #[.string ⟨#[109, 112, 54]⟩, .func (.func 81) #[] #[]]); have hbS := bl_setRow (g := wr.heap.size) (cs := #[.string ⟨#[109, 112, 54]⟩, .func (.func 81) #[] #[]]) (bl_alloc (bl_refl wr) (.cells #[.string ⟨#[]⟩, .nilFunc] 98)) (Nat.le_refl _); have hown1 := own_belowG hown hbS; have hor1 := hor.step hbS; have hbr1 := bl_trans hbr hbS; generalize (wr.alloc (.cells #[.string ⟨#[]⟩, .nilFunc] 98)).setRow wr.heap.size #[.string ⟨#[109, 112, 54]⟩, .func (.func 81) #[] #[]] = V at *; have x0 := oN.cell (i := 0) rfl; have x1 := oN.cell (i := 1) rfl; have hc : V.cell? ⟨w.heap.size + 1, 3, none⟩ = some (.bool false) := (by have := hor1.cell (i := 3) (v := .bool a3) rfl; rw [HB.out] at this; exact this); have hl1 := hor1.lt; have hl2 := oN.lt; clear hown hor hbr hbS oN) | (go_at_call 81; refine (rec3_any _ _).mono ?_; rintro e w' ⟨rfl, rfl⟩))
        go_roundw
        case rel => exact ⟨4, by omega, by go_num, by rw [hst.out]; exact hown1, hor1, hbr1⟩
        case measure => simp [intOf]
    · have hidx := fidx4
      have hll := hln.out 4
      by_cases hb : a4 = true
      · have HB := Lib.hid hb
        have hst := Lib.hid (show N 5 = N 4 ++ [⟨#[97, 100, 100, 52]⟩] by have := hs4.out; rw [hb] at this; exact this)
        clear hb
        go_wp2_with (first | (refine wpList_store_row rfl 98 _ _ rfl wr.heap.size #[.string ⟨#[97, 100, 100, 52]⟩, .func (.func 82) #[] #[]] rfl rfl 98 #[.string ⟨#[]⟩, .nilFunc] (Own.new wr 98 #[.string ⟨#[]⟩, .nilFunc]) (fd_info _ _) rfl (fd_one _ _) ?_; have oN := (Own.new wr 98 #[.string ⟨#[]⟩, .nilFunc]).setRow (cs' := #[.string ⟨#[97, 100, 100, 52]⟩, .func (.func 82) #[] #[]]); have hbS := bl_setRow (g := wr.heap.size) (cs := #[.string ⟨#[97, 100, 100, 52]⟩, .func (.func 82) #[] #[]]) (bl_alloc (bl_refl wr) (.cells #[.string ⟨#[]⟩, .nilFunc] 98)) (Nat.le_refl _); have hown1 := own_belowG hown hbS; have hor1 := hor.step hbS; have hbr1 := bl_trans hbr hbS; generalize (wr.alloc (.cells #[.string ⟨#[]⟩, .nilFunc] 98)).setRow wr.heap.size #[.string ⟨#[97, 100, 100, 52]⟩, .func (.func 82) #[] #[]] = V at *; have x0 := oN.cell (i := 0) rfl; have x1 := oN.cell (i := 1) rfl; have hc : V.cell? ⟨w.heap.size + 1, 4, none⟩ = some (.bool true) := (by have := hor1.cell (i := 4) (v := .bool a4) rfl; rw [HB.out] at this; exact this); have hl1 := hor1.lt; have hl2 := oN.lt; clear hown hor hbr hbS oN) | (go_at_call 82; refine (rec4_any _ _).mono ?_; rintro e w' ⟨rfl, rfl⟩) | (at_builtin; refine wpList_append_grow _ rfl _ _ rfl sl_strO (w.heap.size + 1 + 1) _ _ _ rfl (hown1.alloc _) (V.heap.size + 1) (some ⟨V.heap.size, 0, none⟩) 1 1 [_] rfl rfl (Shows.of_owned (Own.new _ _ _) (by omega)) (one1 rfl) (by unfold maxLen; omega) (by omega) (by simp; omega) ?_; intro v1 w3 hown2 hgrow2))
        have hb3 : Below w.heap.size w w3 := (hbr1.alloc hbr1.size _).grown hgrow2 (by have := hbr1.size; simp; omega) (fun j hj => Nat.le_trans (by omega) (own_base hown1 j hj))
        have hor2 : Own w3 (w.heap.size + 1) 86 #[.bool a0, .bool a1, .bool a2, .bool a3, .bool a4, .bool a5] := (hor1.alloc _).grown hgrow2 (by intro e; have := own_base hown1 _ e.symm; omega)
        go_roundw
        case rel =>
          refine ⟨5, by omega, by go_num, ?_, hor2, hb3⟩
          rw [hst.out, List.length_append, List.map_append]
          exact hown2
        case measure => simp [intOf]
      · have HB := Lib.hid (show a4 = false by simpa using hb)
        have hst := Lib.hid (show N 5 = N 4 by have := hs4.out; rw [HB.out] at this; exact this)
        clear hb
        go_wp2_with (first | (refine wpList_store_row rfl 98 _ _ rfl wr.heap.size #[.string ⟨#[97, 100, 100, 52]⟩, .func (.func 82) #[] #[]] rfl rfl 98 #[.string ⟨#[]⟩, .nilFunc] (Own.new wr 98 #[.string ⟨#[]⟩, .nilFunc]) (fd_info _ _) rfl (fd_one _ _) ?_; have oN := (Own.new wr 98 #[.string ⟨#[]⟩, .nilFunc]).setRow (cs' := #[.string ⟨#[97, 100, 100, 52]⟩, .func (.func 82) #[] #[]]); have hbS := bl_setRow (g := wr.heap.size) (cs := #[.string ⟨#[97, 100, 100, 52]⟩, .func (.func 82) #[] #[]]) (bl_alloc (bl_refl wr) (.cells #[.string ⟨#[]⟩, .nilFunc] 98)) (Nat.le_refl _); have hown1 := own_belowG hown hbS; have hor1 := hor.step hbS; have hbr1 := bl_trans hbr hbS; generalize (wr.alloc (.cells #[.string ⟨#[]⟩, .nilFunc] 98)).setRow wr.heap.size #[.string ⟨#[97, 100, 100, 52]⟩, .func (.func 82) #[] #[]] = V at *; have x0 := oN.cell (i := 0) rfl; have x1 := oN.cell (i := 1) rfl; have hc : V.cell? ⟨w.heap.size + 1, 4, none⟩ = some (.bool false) := (by have := hor1.cell (i := 4) (v := .bool a4) rfl; rw [HB.out] at this; exact this); have hl1 := hor1.lt; have hl2 := oN.lt; clear hown hor hbr hbS oN) | (go_at_call 82; refine (rec4_any _ _).mono ?_; rintro e w' ⟨rfl, rfl⟩))
        go_roundw
        case rel => exact ⟨5, by omega, by go_num, by rw [hst.out]; exact hown1, hor1, hbr1⟩
        case measure => simp [intOf]
    · have hidx := fidx5
      have hll := hln.out 5
      by_cases hb : a5 = true
      · have HB := Lib.hid hb
        have hst := Lib.hid (show N 6 = N 5 ++ [⟨#[97, 100, 100, 54]⟩] by have := hs5.out; rw [hb] at this; exact this)
        clear hb
        go_wp2_with (first | (refine wpList_store_row rfl 98 _ _ rfl wr.heap.size #[.string ⟨#[97, 100, 100, 54]⟩, .func (.func 83) #[] #[]] rfl rfl 98 #[.string ⟨#[]⟩, .nilFunc] (Own.new wr 98 #[.string ⟨#[]⟩, .nilFunc]) (fd_info _ _) rfl (fd_one _ _) ?_; have oN := (Own.new wr 98 #[.string ⟨#[]⟩, .nilFunc]).setRow (cs' := #[.string ⟨#[97, 100, 100, 54]⟩, .func (.func 83) #[] #[]]); have hbS := bl_setRow (g := wr.heap.size) (cs := #[.string ⟨#[97, 100, 100, 54]⟩, .func (.func 83) #[] #[]]) (bl_alloc (bl_refl wr) (.cells #[.string ⟨#[]⟩, .nilFunc] 98)) (Nat.le_refl _); have hown1 := own_belowG hown hbS; have hor1 := hor.step hbS; have hbr1 := bl_trans hbr hbS; generalize (wr.alloc (.cells #[.string ⟨#[]⟩, .nilFunc] 98)).setRow wr.heap.size #[.string ⟨#[97, 100, 100, 54]⟩, .func (.func 83) #[] #[]] = V at *; have x0 := oN.cell (i := 0) rfl; have x1 := oN.cell (i := 1) rfl; have hc : V.cell? ⟨w.heap.size + 1, 5, none⟩ = some (.bool true) := (by have := hor1.cell (i := 5) (v := .bool a5) rfl; rw [HB.out] at this; exact this); have hl1 := hor1.lt; have hl2 := oN.lt; clear hown hor hbr hbS oN) | (go_at_call 83; refine (rec5_any _ _).mono ?_; rintro e w' ⟨rfl, rfl⟩) | (at_builtin; refine wpList_append_grow _ rfl _ _ rfl sl_strO (w.heap.size + 1 + 1) _ _ _ rfl (hown1.alloc _) (V.heap.size + 1) (some ⟨V.heap.size, 0, none⟩) 1 1 [_] rfl rfl (Shows.of_owned (Own.new _ _ _) (by omega)) (one1 rfl) (by unfold maxLen; omega) (by omega) (by simp; omega) ?_; intro v1 w3 hown2 hgrow2))
        have hb3 : Below w.heap.size w w3 := (hbr1.alloc hbr1.size _).grown hgrow2 (by have := hbr1.size; simp; omega) (fun j hj => Nat.le_trans (by omega) (own_base hown1 j hj))
        have hor2 : Own w3 (w.heap.size + 1) 86 #[.bool a0, .bool a1, .bool a2, .bool a3, .bool a4, .bool a5] := (hor1.alloc _).grown hgrow2 (by intro e; have := own_base hown1 _ e.symm; omega)
        go_roundw
        case rel =>
          refine ⟨6, by omega, by go_num, ?_, hor2, hb3⟩
          rw [hst.out, List.length_append, List.map_append]
          exact hown2
        case measure => simp [intOf]
      · have HB := Lib.hid (show a5 = false by simpa using hb)
        have hst := Lib.hid (show N 6 = N 5 by have := hs5.out; rw [HB.out] at this; exact this)
        clear hb
        go_wp2_with (first | (refine wpList_store_row rfl 98 _ _ rfl wr.heap.size #[.string ⟨#[97, 100, 100, 54]⟩, .func (.func 83) #[] #[]] rfl rfl 98 #[.string ⟨#[]⟩, .nilFunc] (Own.new wr 98 #[.string ⟨#[]⟩, .nilFunc]) (fd_info _ _) rfl (fd_one _ _) ?_; have oN := (Own.new wr 98 #[.string ⟨#[]⟩, .nilFunc]).setRow (cs' := #[.string ⟨#[97, 100, 100, 54]⟩, .func (.func 83) #[] #[]]); have hbS := bl_setRow (g := wr.heap.size) (cs := #[.string ⟨#[97, 100, 100, 54]⟩, .func (.func 83) #[] #[]]) (bl_alloc (bl_refl wr) (.cells #[.string ⟨#[]⟩, .nilFunc] 98)) (Nat.le_refl _); have hown1 := own_belowG hown hbS; have hor1 := hor.step hbS; have hbr1 := bl_trans hbr hbS; generalize (wr.alloc (.cells #[.string ⟨#[]⟩, .nilFunc] 98)).setRow wr.heap.size #[.string ⟨#[97, 100, 100, 54]⟩, .func (.func 83) #[] #[]] = V at *; have x0 := oN.cell (i := 0) rfl; have x1 := oN.cell (i := 1) rfl; have hc : V.cell? ⟨w.heap.size + 1, 5, none⟩ = some (.bool false) := (by have := hor1.cell (i := 5) (v := .bool a5) rfl; rw [HB.out] at this; exact this); have hl1 := hor1.lt; have hl2 := oN.lt; clear hown hor hbr hbS oN) | (go_at_call 83; refine (rec5_any _ _).mono ?_; rintro e w' ⟨rfl, rfl⟩))
        go_roundw
        case rel => exact ⟨6, by omega, by go_num, by rw [hst.out]; exact hown1, hor1, hbr1⟩
        case measure => simp [intOf]
    · go_wp2_with fail
      refine (join_row 8 ⟨#[32]⟩ hown (by have := hln.out 6; omega) hsm.out (by omega) (by decide)).mono ?_
      rintro e w2 ⟨rfl, hb3⟩
      go_wp2
      go_ret
      exact ⟨rfl, bl_trans hbr hb3⟩
set_option maxRecDepth 100000 in
theorem otext_any (a0 a1 a2 a3 a4 a5 : Bool) (w : World) :
    Calls Tryd.prog 32 #[.agg #[.bool a0, .bool a1, .bool a2, .bool a3, .bool a4, .bool a5]] w fun e w' => e = .returned (.string (oTxt a0 a1 a2 a3 a4 a5)) ∧ Below w.heap.size w w' := by
  unfold oTxt
  cases hz : oNone a0 a1 a2 a3 a4 a5 with
  | true =>
    have h : a0 = false ∧ a1 = false ∧ a2 = false ∧ a3 = false ∧ a4 = false ∧ a5 = false := by unfold oNone at hz; simpa [and_assoc] using hz
    obtain ⟨rfl, rfl, rfl, rfl, rfl, rfl⟩ := h
    exact otext_none w
  | false => exact otext_some a0 a1 a2 a3 a4 a5 w hz
theorem oex1 : oTxt true false false true false false = ⟨#[97, 115, 52, 32, 109, 112, 54]⟩ := by decide +kernel
theorem oex2 : oTxt false false false false false false = ⟨#[45]⟩ := rfl
set_option maxRecDepth 100000 in
theorem alive05_any (w : World) : Calls Tryd.prog 26 #[] w fun e w' => e = .returned (.bool true) ∧ Below w.heap.size w w' := by
  have h1 := Lib.hid (fun W => otext_any true false false true false false W)
  have h2 := Lib.hid (fun W => otext_any false false false false false false W)
  rw [oex1] at h1
  rw [oex2] at h2
  go_enter Tryd.func26, Tryd.ntmps26
  go_wp2_with fail
  refine (h1.out _).mono ?_
  rintro e w1 ⟨rfl, hb1⟩
  go_wp2_with fail
  refine (h2.out _).mono ?_
  rintro e w2 ⟨rfl, hb2⟩
  go_wp2
  go_ret
  exact ⟨rfl, bl_trans hb1 hb2⟩
end Go.Proofs.YtmcmhljonkijjaaDoor
