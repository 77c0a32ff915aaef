/- routes that are equal: '!=' says no -/
import Derived.Test.YtngeldgohijheaaDoorNe
import Derived.Laws.StructEq
namespace Go.Proofs.YtngeldgohijheaaDoor
open Go.RowKit
open Go.RowKit Extern.Stop

set_option maxRecDepth 100000 in
theorem part_pfx {r : Rt} (h : r.a.length = 16) (W : World) : (Go.part 168 (rt r) 1).run Tryd.prog W = Result.ok (.agg (pfx r.f r.l r.a)) W := by
  obtain ⟨p, f, l, a⟩ := r
  obtain ⟨x0, x1, x2, x3, x4, x5, x6, x7, x8, x9, x10, x11, x12, x13, x14, x15, rfl⟩ := list16 h
  kernel_rfl
set_option maxRecDepth 100000 in
theorem part_path {r : Rt} (h : r.a.length = 16) (W : World) : (Go.part 24 (rt r) 0).run Tryd.prog W = Result.ok (.int .u32 r.p) W := by
  obtain ⟨p, f, l, a⟩ := r
  obtain ⟨x0, x1, x2, x3, x4, x5, x6, x7, x8, x9, x10, x11, x12, x13, x14, x15, rfl⟩ := list16 h
  kernel_rfl
set_option maxRecDepth 100000 in
theorem part_fam {f l : Int} {a : List Int} (h : a.length = 16) (W : World) : (Go.part 3 (pfx f l a) 0).run Tryd.prog W = Result.ok (.int .i64 f) W := by
  obtain ⟨x0, x1, x2, x3, x4, x5, x6, x7, x8, x9, x10, x11, x12, x13, x14, x15, rfl⟩ := list16 h
  kernel_rfl
set_option maxRecDepth 100000 in
theorem part_len {f l : Int} {a : List Int} (h : a.length = 16) (W : World) : (Go.part 3 (pfx f l a) 1).run Tryd.prog W = Result.ok (.int .i64 l) W := by
  obtain ⟨x0, x1, x2, x3, x4, x5, x6, x7, x8, x9, x10, x11, x12, x13, x14, x15, rfl⟩ := list16 h
  kernel_rfl
set_option maxRecDepth 100000 in
theorem part_addr {f l : Int} {a : List Int} (h : a.length = 16) (W : World) : (Go.part 166 (pfx f l a) 2).run Tryd.prog W = Result.ok (.agg (arr a)) W := by
  obtain ⟨x0, x1, x2, x3, x4, x5, x6, x7, x8, x9, x10, x11, x12, x13, x14, x15, rfl⟩ := list16 h
  kernel_rfl
set_option maxRecDepth 100000 in
theorem eqIn_arr (d : Nat) {a : List Int} (ha : IsAddr a) (W : World) : (Op.equalIn (d + 2) 166 (.agg (arr a)) (.agg (arr a))).run Tryd.prog W = Result.ok true W := by
  obtain ⟨us, rfl⟩ := bytes_lift a ha.2
  have e : arr (us.map (fun u => (u.toNat : Int))) = (us.map cell).toArray := by
    unfold arr; rw [List.map_map]; rfl
  have hl : us.length = 16 := by have := ha.1; simpa using this
  rw [e, run_equalIn_bytes W d 166 5 16 Tryd.underlying166 Tryd.underlying5 (fun _ => by kernel_rfl) us us hl hl]
  simp
theorem fields3 {fs : List Field} {n1 n2 n3 : String} {t1 t2 t3 : TypeId} {o1 o2 o3 : Nat} (hf : fs.map (fun x => (x.name, x.type, x.offset)) = [(n1, t1, o1), (n2, t2, o2), (n3, t3, o3)]) :
    ∃ f1 f2 f3 : Field, fs = [f1, f2, f3] ∧ (f1.name = n1 ∧ f1.type = t1 ∧ f1.offset = o1) ∧ (f2.name = n2 ∧ f2.type = t2 ∧ f2.offset = o2) ∧ f3.name = n3 ∧ f3.type = t3 ∧ f3.offset = o3 := by
  obtain ⟨f1, g1, rfl, h1, hf⟩ := List.map_eq_cons_iff.1 hf
  obtain ⟨f2, g2, rfl, h2, hf⟩ := List.map_eq_cons_iff.1 hf
  obtain ⟨f3, g3, rfl, h3, hf⟩ := List.map_eq_cons_iff.1 hf
  rw [List.map_eq_nil_iff] at hf
  subst hf
  simp only [Prod.mk.injEq] at h1 h2 h3
  exact ⟨f1, f2, f3, rfl, h1, h2, h3⟩
theorem fields2 {fs : List Field} {n1 n2 : String} {t1 t2 : TypeId} {o1 o2 : Nat} (hf : fs.map (fun x => (x.name, x.type, x.offset)) = [(n1, t1, o1), (n2, t2, o2)]) :
    ∃ f1 f2 : Field, fs = [f1, f2] ∧ (f1.name = n1 ∧ f1.type = t1 ∧ f1.offset = o1) ∧ f2.name = n2 ∧ f2.type = t2 ∧ f2.offset = o2 := by
  obtain ⟨f1, g1, rfl, h1, hf⟩ := List.map_eq_cons_iff.1 hf
  obtain ⟨f2, g2, rfl, h2, hf⟩ := List.map_eq_cons_iff.1 hf
  rw [List.map_eq_nil_iff] at hf
  subst hf
  simp only [Prod.mk.injEq] at h1 h2
  exact ⟨f1, f2, rfl, h1, h2⟩
set_option maxRecDepth 100000 in
theorem eqIn_pfx (d : Nat) {f l : Int} {a : List Int} (ha : IsAddr a) (W : World) : (Op.equalIn (d + 3) 168 (.agg (pfx f l a)) (.agg (pfx f l a))).run Tryd.prog W = Result.ok true W := by
  have hz := Tryd.underlying3
  rw [run_equalIn_agg W (d + 2) 168 _ _ pfx_desc (by kernel_rfl)]
  have hf : (Tryd.prog.fieldsOf 168).toList.map (fun x => (x.name, x.type, x.offset)) = [("Fam", 3, 0), ("Len", 3, 1), ("Addr", 166, 2)] := by kernel_rfl
  obtain ⟨f1, f2, f3, e, ⟨n1, t1, o1⟩, ⟨n2, t2, o2⟩, n3, t3, o3⟩ := fields3 hf
  have q1 : ∀ W, (Op.equalIn (d + 2) 3 (.int .i64 f) (.int .i64 f)).run Tryd.prog W = Result.ok true W := fun W => by rw [run_equalIn_int W (d + 1) 3 .i64 .i64 _ _ hz]; simp
  have q2 : ∀ W, (Op.equalIn (d + 2) 3 (.int .i64 l) (.int .i64 l)).run Tryd.prog W = Result.ok true W := fun W => by rw [run_equalIn_int W (d + 1) 3 .i64 .i64 _ _ hz]; simp
  rw [e]
  simp only [Op.eqFields, n1, t1, o1, n2, t2, o2, n3, t3, o3]
  simp only [show ("Fam" ≠ "_") = True by decide, show ("Len" ≠ "_") = True by decide, show ("Addr" ≠ "_") = True by decide, if_true, Sem.run_bind, part_fam ha.1, part_len ha.1, part_addr ha.1, Result.andThen_ok, q1, q2, eqIn_arr d ha, Bool.not_true, Bool.false_eq_true, if_false, Sem.run_pure]
set_option maxRecDepth 100000 in
theorem eqIn_rt (d : Nat) {r : Rt} (ho : r.Ok) (W : World) : (Op.equalIn (d + 4) 170 (.agg (rt r)) (.agg (rt r))).run Tryd.prog W = Result.ok true W := by
  have hz := Tryd.underlying24
  rw [run_equalIn_agg W (d + 3) 170 _ _ rt_desc (by kernel_rfl)]
  have hf : (Tryd.prog.fieldsOf 170).toList.map (fun x => (x.name, x.type, x.offset)) = [("Path", 24, 0), ("Prefix", 168, 1)] := by kernel_rfl
  obtain ⟨f1, f2, e, ⟨n1, t1, o1⟩, n2, t2, o2⟩ := fields2 hf
  have q1 : ∀ W, (Op.equalIn (d + 3) 24 (.int .u32 r.p) (.int .u32 r.p)).run Tryd.prog W = Result.ok true W := fun W => by rw [run_equalIn_int W (d + 2) 24 .u32 .u32 _ _ hz]; simp
  rw [e]
  simp only [Op.eqFields, n1, t1, o1, n2, t2, o2]
  simp only [show ("Path" ≠ "_") = True by decide, show ("Prefix" ≠ "_") = True by decide, if_true, Sem.run_bind, part_path ho.1.1, part_pfx ho.1.1, Result.andThen_ok, q1, eqIn_pfx d ho.1, Bool.not_true, Bool.false_eq_true, if_false, Sem.run_pure]
set_option maxRecDepth 100000 in
theorem neq_rt {r : Rt} (ho : r.Ok) (W : World) : (binOp .neq 170 (.agg (rt r)) (.agg (rt r))).run Tryd.prog W = Result.ok (.bool false) W := by
  rw [run_neq_struct W, eqIn_rt 9996 ho]
  rfl
end Go.Proofs.YtngeldgohijheaaDoor
