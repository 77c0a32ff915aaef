/- option's fields, the record's methods, option.Text, alive of layer 5 -/
import Derived.Test.YtmcnpkfeipelgaaGreatDoorTen
import Derived.Test.YtmcnpkfeipelgaaGreatDoorPfxM
import Derived.Laws.StructEq
import Derived.StillTailTactics
import Derived.Test.YtmcnpkfeipelgaaGreatDoorStepG
namespace Go.Proofs.YtmcnpkfeipelgaaGreatDoor
open Go.RowKit Go.Sort

theorem results_cell1 {P : Program} {fn : Func} {p : Tmp} {ty : TypeId} (h : fn.results = #[.cell p ty]) (tmps : Array Value) (w : World) (g : Nat) (T : TypeId) (cs : Array Value) (d : TypeDesc)
    (hp : tmps.getD p undef = .pointer (some ⟨g, 0, none⟩)) (hg : Own w g T cs) (hu : P.underlying ty = some d) (hd : (match d with | .struct _ | .array _ _ => true | _ => false) = true) (hi : (P.info? ty).map (·.size) = some cs.size) :
    (results fn tmps).run P w = .ok (.agg cs) w := by
  have hp' : tmps[p]?.getD undef = .pointer (some ⟨g, 0, none⟩) := by simpa using hp
  simp [results, h, hp', asAddr, run_loadVar_row w g T ty cs (0, 0) d hg hu hd hi]
def fldZ : Array Value := #[.string ⟨#[]⟩, .nilFunc, .string ⟨#[]⟩, .nilFunc, .string ⟨#[]⟩, .nilFunc, .string ⟨#[]⟩, .nilFunc, .string ⟨#[]⟩, .nilFunc, .string ⟨#[]⟩, .nilFunc]
theorem six_fields {fs : List Field} {n0 : String} {t0 : TypeId} {o0 : Nat} {n1 : String} {t1 : TypeId} {o1 : Nat} {n2 : String} {t2 : TypeId} {o2 : Nat} {n3 : String} {t3 : TypeId} {o3 : Nat} {n4 : String} {t4 : TypeId} {o4 : Nat} {n5 : String} {t5 : TypeId} {o5 : Nat} (hf : fs.map (fun x => (x.name, x.type, x.offset)) = [(n0, t0, o0), (n1, t1, o1), (n2, t2, o2), (n3, t3, o3), (n4, t4, o4), (n5, t5, o5)]) :
    ∃ f0 f1 f2 f3 f4 f5 : Field, fs = [f0, f1, f2, f3, f4, f5] ∧ (f0.name = n0 ∧ f0.type = t0 ∧ f0.offset = o0) ∧ (f1.name = n1 ∧ f1.type = t1 ∧ f1.offset = o1) ∧ (f2.name = n2 ∧ f2.type = t2 ∧ f2.offset = o2) ∧ (f3.name = n3 ∧ f3.type = t3 ∧ f3.offset = o3) ∧ (f4.name = n4 ∧ f4.type = t4 ∧ f4.offset = o4) ∧ (f5.name = n5 ∧ f5.type = t5 ∧ f5.offset = o5) := by
  obtain ⟨f0, g0, rfl, h0, hf⟩ := List.map_eq_cons_iff.1 hf
  obtain ⟨f1, g1, rfl, h1, hf⟩ := List.map_eq_cons_iff.1 hf
  obtain ⟨f2, g2, rfl, h2, hf⟩ := List.map_eq_cons_iff.1 hf
  obtain ⟨f3, g3, rfl, h3, hf⟩ := List.map_eq_cons_iff.1 hf
  obtain ⟨f4, g4, rfl, h4, hf⟩ := List.map_eq_cons_iff.1 hf
  obtain ⟨f5, g5, rfl, h5, hf⟩ := List.map_eq_cons_iff.1 hf
  rw [List.map_eq_nil_iff] at hf
  subst hf
  simp only [Prod.mk.injEq] at h0 h1 h2 h3 h4 h5
  exact ⟨f0, f1, f2, f3, f4, f5, rfl, h0, h1, h2, h3, h4, h5⟩
set_option maxRecDepth 100000 in
theorem op_desc : Tryz.prog.underlying 23 = some (.struct (Tryz.prog.fieldsOf 23)) := by kernel_rfl
set_option maxRecDepth 100000 in
theorem op_info (a b c d e f : Value) : (Tryz.prog.info? 23).map (·.size) = some (#[a, b, c, d, e, f] : Array Value).size := by kernel_rfl
set_option maxRecDepth 100000 in
theorem op_eqIn (a0 a1 a2 a3 a4 a5 b0 b1 b2 b3 b4 b5 : Bool) (W : World) : (Op.equalIn 10000 23 (.agg #[.bool a0, .bool a1, .bool a2, .bool a3, .bool a4, .bool a5]) (.agg #[.bool b0, .bool b1, .bool b2, .bool b3, .bool b4, .bool b5])).run Tryz.prog W = Result.ok (decide (a0 = b0) && (decide (a1 = b1) && (decide (a2 = b2) && (decide (a3 = b3) && (decide (a4 = b4) && decide (a5 = b5)))))) W := by
  have hz := Tryz.underlying4
  rw [run_equalIn_agg W 9999 23 _ _ op_desc (by kernel_rfl)]
  have hf : (Tryz.prog.fieldsOf 23).toList.map (fun x => (x.name, x.type, x.offset)) = [("AS4", 4, 0), ("Extended", 4, 1), ("MP4", 4, 2), ("MP6", 4, 3), ("Add4", 4, 4), ("Add6", 4, 5)] := by kernel_rfl
  obtain ⟨f0, f1, f2, f3, f4, f5, e, ⟨n0, t0, o0⟩, ⟨n1, t1, o1⟩, ⟨n2, t2, o2⟩, ⟨n3, t3, o3⟩, ⟨n4, t4, o4⟩, ⟨n5, t5, o5⟩⟩ := six_fields hf
  have q : ∀ (x y : Bool) W, (Op.equalIn 9999 4 (.bool x) (.bool y)).run Tryz.prog W = Result.ok (x == y) W := fun x y W => by rw [run_equalIn_bool' W 9998 4 _ _ hz]
  have p0 : ∀ (a b c d e f : Bool) W, (Go.part 4 #[.bool a, .bool b, .bool c, .bool d, .bool e, .bool f] 0).run Tryz.prog W = Result.ok (.bool a) W := fun _ _ _ _ _ _ W => by kernel_rfl
  have p1 : ∀ (a b c d e f : Bool) W, (Go.part 4 #[.bool a, .bool b, .bool c, .bool d, .bool e, .bool f] 1).run Tryz.prog W = Result.ok (.bool b) W := fun _ _ _ _ _ _ W => by kernel_rfl
  have p2 : ∀ (a b c d e f : Bool) W, (Go.part 4 #[.bool a, .bool b, .bool c, .bool d, .bool e, .bool f] 2).run Tryz.prog W = Result.ok (.bool c) W := fun _ _ _ _ _ _ W => by kernel_rfl
  have p3 : ∀ (a b c d e f : Bool) W, (Go.part 4 #[.bool a, .bool b, .bool c, .bool d, .bool e, .bool f] 3).run Tryz.prog W = Result.ok (.bool d) W := fun _ _ _ _ _ _ W => by kernel_rfl
  have p4 : ∀ (a b c d e f : Bool) W, (Go.part 4 #[.bool a, .bool b, .bool c, .bool d, .bool e, .bool f] 4).run Tryz.prog W = Result.ok (.bool e) W := fun _ _ _ _ _ _ W => by kernel_rfl
  have p5 : ∀ (a b c d e f : Bool) W, (Go.part 4 #[.bool a, .bool b, .bool c, .bool d, .bool e, .bool f] 5).run Tryz.prog W = Result.ok (.bool f) W := fun _ _ _ _ _ _ W => by kernel_rfl
  rw [e]
  simp only [Op.eqFields, n0, t0, o0, n1, t1, o1, n2, t2, o2, n3, t3, o3, n4, t4, o4, n5, t5, o5]
  simp only [show ("AS4" ≠ "_") = True by decide, show ("Extended" ≠ "_") = True by decide, show ("MP4" ≠ "_") = True by decide, show ("MP6" ≠ "_") = True by decide, show ("Add4" ≠ "_") = True by decide, show ("Add6" ≠ "_") = True by decide, if_true, Sem.run_bind, p0, Result.andThen_ok, q]
  clear hf e n0 t0 o0 n1 t1 o1 n2 t2 o2 n3 t3 o3 n4 t4 o4 n5 t5 o5 hz
  by_cases h0 : a0 = b0
  · subst h0
    by_cases h1 : a1 = b1
    · subst h1
      by_cases h2 : a2 = b2
      · subst h2
        by_cases h3 : a3 = b3
        · subst h3
          by_cases h4 : a4 = b4
          · subst h4
            by_cases h5 : a5 = b5
            · subst h5
              simp [p1, p2, p3, p4, p5, q]
            · simp [h5, p1, p2, p3, p4, p5, q]
          · simp [h4, p1, p2, p3, p4, q]
        · simp [h3, p1, p2, p3, q]
      · simp [h2, p1, p2, q]
    · simp [h1, p1, q]
  · simp [h0]
set_option maxRecDepth 100000 in
theorem op_eql (a0 a1 a2 a3 a4 a5 b0 b1 b2 b3 b4 b5 : Bool) (W : World) : (binOp .eql 23 (.agg #[.bool a0, .bool a1, .bool a2, .bool a3, .bool a4, .bool a5]) (.agg #[.bool b0, .bool b1, .bool b2, .bool b3, .bool b4, .bool b5])).run Tryz.prog W = Result.ok (.bool (decide (a0 = b0) && (decide (a1 = b1) && (decide (a2 = b2) && (decide (a3 = b3) && (decide (a4 = b4) && decide (a5 = b5))))))) W := by
  rw [run_eql_struct W, op_eqIn]; rfl
set_option maxRecDepth 100000 in
theorem op_same (a0 a1 a2 a3 a4 a5 : Bool) (W : World) : (binOp .eql 23 (.agg #[.bool a0, .bool a1, .bool a2, .bool a3, .bool a4, .bool a5]) (.agg #[.bool a0, .bool a1, .bool a2, .bool a3, .bool a4, .bool a5])).run Tryz.prog W = Result.ok (.bool true) W := by
  rw [op_eql]; simp
theorem fd_one (s : ByteArray) (f : Nat) : (#[Value.string s, .func (.func f) #[] #[]] : Array Value).all (·.oneCell') = true := by simp [Value.oneCell']
def optL (a0 a1 a2 a3 a4 a5 : Bool) : List (Bool × ByteArray) := [(a0, ⟨#[97, 115, 52]⟩), (a1, ⟨#[101, 120, 116, 101, 110, 100, 101, 100]⟩), (a2, ⟨#[109, 112, 52]⟩), (a3, ⟨#[109, 112, 54]⟩), (a4, ⟨#[97, 100, 100, 52]⟩), (a5, ⟨#[97, 100, 100, 54]⟩)]
def optN (l : List (Bool × ByteArray)) : List ByteArray := l.filterMap fun p => if p.1 then some p.2 else none
/-- The names of the options among the first k. -/
def oB (a0 a1 a2 a3 a4 a5 : Bool) (k : Nat) : List ByteArray := optN ((optL a0 a1 a2 a3 a4 a5).take k)
theorem oB_step (a0 a1 a2 a3 a4 a5 : Bool) (k : Nat) {x : Bool × ByteArray} (h : (optL a0 a1 a2 a3 a4 a5)[k]? = some x) : oB a0 a1 a2 a3 a4 a5 (k + 1) = if x.1 then oB a0 a1 a2 a3 a4 a5 k ++ [x.2] else oB a0 a1 a2 a3 a4 a5 k := by
  unfold oB optN
  rw [List.take_add_one, h]
  cases hx : x.1 <;> simp [hx]
theorem oB_len (a0 a1 a2 a3 a4 a5 : Bool) (k : Nat) : (oB a0 a1 a2 a3 a4 a5 k).length ≤ 6 := by
  unfold oB optN
  have h1 := List.length_filterMap_le (fun p : Bool × ByteArray => if p.1 then some p.2 else none) ((optL a0 a1 a2 a3 a4 a5).take k)
  have h2 : ((optL a0 a1 a2 a3 a4 a5).take k).length ≤ 6 := by rw [List.length_take]; exact Nat.min_le_right _ _
  omega
theorem oB_small (a0 a1 a2 a3 a4 a5 : Bool) (k : Nat) : ∀ x ∈ oB a0 a1 a2 a3 a4 a5 k, x.data.toList.length ≤ 8 := by
  intro x hx
  unfold oB optN at hx
  obtain ⟨p, hp, hq⟩ := List.mem_filterMap.1 hx
  have hp := List.mem_of_mem_take hp
  split at hq
  · have := Option.some.inj hq
    subst this
    unfold optL at hp
    simp only [List.mem_cons, List.not_mem_nil, or_false] at hp
    rcases hp with h | h | h | h | h | h <;> (rw [h]; simp)
  · cases hq
def oNone (a0 a1 a2 a3 a4 a5 : Bool) : Bool := !a0 && !a1 && !a2 && !a3 && !a4 && !a5
/-- The text of options. -/
def oTxt (a0 a1 a2 a3 a4 a5 : Bool) : ByteArray := if oNone a0 a1 a2 a3 a4 a5 then ⟨#[45]⟩ else joinB (oB a0 a1 a2 a3 a4 a5 6) [32]
set_option maxRecDepth 100000 in
theorem sl_strO : SliceOf Tryz.prog 143 9 1 16 := SliceOf.mk Tryz.underlying143 (z := .string ⟨#[]⟩) (by kernel_rfl) rfl (by decide)
theorem oex1 : oTxt true false false true false false = ⟨#[97, 115, 52, 32, 109, 112, 54]⟩ := by decide +kernel
theorem oex2 : oTxt false false false false false false = ⟨#[45]⟩ := rfl
end Go.Proofs.YtmcnpkfeipelgaaGreatDoor
