/- layer 22: negotiate.Of; sessions compared -/
import Derived.Test.YtniheakafkakhaaDoorNgM2
import Derived.Deep.DeepCutAuto
namespace Go.Proofs.YtniheakafkakhaaDoor
open Go.RowKit Go.Sort
theorem own_13 {w : World} {g : Nat} {T : TypeId} {v0 v1 v2 v3 v4 v5 v6 v7 v8 v9 v10 v11 v12 : Value} (h : Own w g T #[v0, v1, v2, v3, v4, v5, v6, v7, v8, v9, v10, v11, v12]) : w.cell? ⟨g, 0, none⟩ = some v0 ∧ w.cell? ⟨g, 1, none⟩ = some v1 ∧ w.cell? ⟨g, 2, none⟩ = some v2 ∧ w.cell? ⟨g, 3, none⟩ = some v3 ∧ w.cell? ⟨g, 4, none⟩ = some v4 ∧ w.cell? ⟨g, 5, none⟩ = some v5 ∧ w.cell? ⟨g, 6, none⟩ = some v6 ∧ w.cell? ⟨g, 7, none⟩ = some v7 ∧ w.cell? ⟨g, 8, none⟩ = some v8 ∧ w.cell? ⟨g, 9, none⟩ = some v9 ∧ w.cell? ⟨g, 10, none⟩ = some v10 ∧ w.cell? ⟨g, 11, none⟩ = some v11 ∧ w.cell? ⟨g, 12, none⟩ = some v12 := ⟨h.cell rfl, h.cell rfl, h.cell rfl, h.cell rfl, h.cell rfl, h.cell rfl, h.cell rfl, h.cell rfl, h.cell rfl, h.cell rfl, h.cell rfl, h.cell rfl, h.cell rfl⟩
def sets13 (w : World) (g : Nat) (v0 v1 v2 v3 v4 v5 v6 v7 v8 v9 v10 v11 v12 : Value) : World := (((((((((((((w.setCell ⟨g, 0, none⟩ v0).setCell ⟨g, 1, none⟩ v1).setCell ⟨g, 2, none⟩ v2).setCell ⟨g, 3, none⟩ v3).setCell ⟨g, 4, none⟩ v4).setCell ⟨g, 5, none⟩ v5).setCell ⟨g, 6, none⟩ v6).setCell ⟨g, 7, none⟩ v7).setCell ⟨g, 8, none⟩ v8).setCell ⟨g, 9, none⟩ v9).setCell ⟨g, 10, none⟩ v10).setCell ⟨g, 11, none⟩ v11).setCell ⟨g, 12, none⟩ v12)
section
variable {w : World} {g : Nat} {v0 v1 v2 v3 v4 v5 v6 v7 v8 v9 v10 v11 v12 : Value}
theorem sets13_own {T : TypeId} {u0 u1 u2 u3 u4 u5 u6 u7 u8 u9 u10 u11 u12 : Value} (h : Own w g T #[u0, u1, u2, u3, u4, u5, u6, u7, u8, u9, u10, u11, u12]) : Own (sets13 w g v0 v1 v2 v3 v4 v5 v6 v7 v8 v9 v10 v11 v12) g T #[v0, v1, v2, v3, v4, v5, v6, v7, v8, v9, v10, v11, v12] := by
  have h0 : Own (w.setCell ⟨g, 0, none⟩ v0) g T #[v0, u1, u2, u3, u4, u5, u6, u7, u8, u9, u10, u11, u12] := h.set_ 0 v0
  have h1 : Own ((w.setCell ⟨g, 0, none⟩ v0).setCell ⟨g, 1, none⟩ v1) g T #[v0, v1, u2, u3, u4, u5, u6, u7, u8, u9, u10, u11, u12] := h0.set_ 1 v1
  have h2 : Own (((w.setCell ⟨g, 0, none⟩ v0).setCell ⟨g, 1, none⟩ v1).setCell ⟨g, 2, none⟩ v2) g T #[v0, v1, v2, u3, u4, u5, u6, u7, u8, u9, u10, u11, u12] := h1.set_ 2 v2
  have h3 : Own ((((w.setCell ⟨g, 0, none⟩ v0).setCell ⟨g, 1, none⟩ v1).setCell ⟨g, 2, none⟩ v2).setCell ⟨g, 3, none⟩ v3) g T #[v0, v1, v2, v3, u4, u5, u6, u7, u8, u9, u10, u11, u12] := h2.set_ 3 v3
  have h4 : Own (((((w.setCell ⟨g, 0, none⟩ v0).setCell ⟨g, 1, none⟩ v1).setCell ⟨g, 2, none⟩ v2).setCell ⟨g, 3, none⟩ v3).setCell ⟨g, 4, none⟩ v4) g T #[v0, v1, v2, v3, v4, u5, u6, u7, u8, u9, u10, u11, u12] := h3.set_ 4 v4
  have h5 : Own ((((((w.setCell ⟨g, 0, none⟩ v0).setCell ⟨g, 1, none⟩ v1).setCell ⟨g, 2, none⟩ v2).setCell ⟨g, 3, none⟩ v3).setCell ⟨g, 4, none⟩ v4).setCell ⟨g, 5, none⟩ v5) g T #[v0, v1, v2, v3, v4, v5, u6, u7, u8, u9, u10, u11, u12] := h4.set_ 5 v5
  have h6 : Own (((((((w.setCell ⟨g, 0, none⟩ v0).setCell ⟨g, 1, none⟩ v1).setCell ⟨g, 2, none⟩ v2).setCell ⟨g, 3, none⟩ v3).setCell ⟨g, 4, none⟩ v4).setCell ⟨g, 5, none⟩ v5).setCell ⟨g, 6, none⟩ v6) g T #[v0, v1, v2, v3, v4, v5, v6, u7, u8, u9, u10, u11, u12] := h5.set_ 6 v6
  have h7 : Own ((((((((w.setCell ⟨g, 0, none⟩ v0).setCell ⟨g, 1, none⟩ v1).setCell ⟨g, 2, none⟩ v2).setCell ⟨g, 3, none⟩ v3).setCell ⟨g, 4, none⟩ v4).setCell ⟨g, 5, none⟩ v5).setCell ⟨g, 6, none⟩ v6).setCell ⟨g, 7, none⟩ v7) g T #[v0, v1, v2, v3, v4, v5, v6, v7, u8, u9, u10, u11, u12] := h6.set_ 7 v7
  have h8 : Own (((((((((w.setCell ⟨g, 0, none⟩ v0).setCell ⟨g, 1, none⟩ v1).setCell ⟨g, 2, none⟩ v2).setCell ⟨g, 3, none⟩ v3).setCell ⟨g, 4, none⟩ v4).setCell ⟨g, 5, none⟩ v5).setCell ⟨g, 6, none⟩ v6).setCell ⟨g, 7, none⟩ v7).setCell ⟨g, 8, none⟩ v8) g T #[v0, v1, v2, v3, v4, v5, v6, v7, v8, u9, u10, u11, u12] := h7.set_ 8 v8
  have h9 : Own ((((((((((w.setCell ⟨g, 0, none⟩ v0).setCell ⟨g, 1, none⟩ v1).setCell ⟨g, 2, none⟩ v2).setCell ⟨g, 3, none⟩ v3).setCell ⟨g, 4, none⟩ v4).setCell ⟨g, 5, none⟩ v5).setCell ⟨g, 6, none⟩ v6).setCell ⟨g, 7, none⟩ v7).setCell ⟨g, 8, none⟩ v8).setCell ⟨g, 9, none⟩ v9) g T #[v0, v1, v2, v3, v4, v5, v6, v7, v8, v9, u10, u11, u12] := h8.set_ 9 v9
  have h10 : Own (((((((((((w.setCell ⟨g, 0, none⟩ v0).setCell ⟨g, 1, none⟩ v1).setCell ⟨g, 2, none⟩ v2).setCell ⟨g, 3, none⟩ v3).setCell ⟨g, 4, none⟩ v4).setCell ⟨g, 5, none⟩ v5).setCell ⟨g, 6, none⟩ v6).setCell ⟨g, 7, none⟩ v7).setCell ⟨g, 8, none⟩ v8).setCell ⟨g, 9, none⟩ v9).setCell ⟨g, 10, none⟩ v10) g T #[v0, v1, v2, v3, v4, v5, v6, v7, v8, v9, v10, u11, u12] := h9.set_ 10 v10
  have h11 : Own ((((((((((((w.setCell ⟨g, 0, none⟩ v0).setCell ⟨g, 1, none⟩ v1).setCell ⟨g, 2, none⟩ v2).setCell ⟨g, 3, none⟩ v3).setCell ⟨g, 4, none⟩ v4).setCell ⟨g, 5, none⟩ v5).setCell ⟨g, 6, none⟩ v6).setCell ⟨g, 7, none⟩ v7).setCell ⟨g, 8, none⟩ v8).setCell ⟨g, 9, none⟩ v9).setCell ⟨g, 10, none⟩ v10).setCell ⟨g, 11, none⟩ v11) g T #[v0, v1, v2, v3, v4, v5, v6, v7, v8, v9, v10, v11, u12] := h10.set_ 11 v11
  have h12 : Own (((((((((((((w.setCell ⟨g, 0, none⟩ v0).setCell ⟨g, 1, none⟩ v1).setCell ⟨g, 2, none⟩ v2).setCell ⟨g, 3, none⟩ v3).setCell ⟨g, 4, none⟩ v4).setCell ⟨g, 5, none⟩ v5).setCell ⟨g, 6, none⟩ v6).setCell ⟨g, 7, none⟩ v7).setCell ⟨g, 8, none⟩ v8).setCell ⟨g, 9, none⟩ v9).setCell ⟨g, 10, none⟩ v10).setCell ⟨g, 11, none⟩ v11).setCell ⟨g, 12, none⟩ v12) g T #[v0, v1, v2, v3, v4, v5, v6, v7, v8, v9, v10, v11, v12] := h11.set_ 12 v12
  exact h12
theorem sets13_far {k : Nat} {T : TypeId} {cs : Array Value} (h : Own w k T cs) (hk : k ≠ g) : Own (sets13 w g v0 v1 v2 v3 v4 v5 v6 v7 v8 v9 v10 v11 v12) k T cs := (((((((((((((h.far (p := ⟨g, 0, none⟩) hk v0).far (p := ⟨g, 1, none⟩) hk v1).far (p := ⟨g, 2, none⟩) hk v2).far (p := ⟨g, 3, none⟩) hk v3).far (p := ⟨g, 4, none⟩) hk v4).far (p := ⟨g, 5, none⟩) hk v5).far (p := ⟨g, 6, none⟩) hk v6).far (p := ⟨g, 7, none⟩) hk v7).far (p := ⟨g, 8, none⟩) hk v8).far (p := ⟨g, 9, none⟩) hk v9).far (p := ⟨g, 10, none⟩) hk v10).far (p := ⟨g, 11, none⟩) hk v11).far (p := ⟨g, 12, none⟩) hk v12)
theorem sets13_below {w0 : World} {B : Nat} (h : Below B w0 w) (hg : B ≤ g) : Below B w0 (sets13 w g v0 v1 v2 v3 v4 v5 v6 v7 v8 v9 v10 v11 v12) := (((((((((((((h.setCell (p := ⟨g, 0, none⟩) hg v0).setCell (p := ⟨g, 1, none⟩) hg v1).setCell (p := ⟨g, 2, none⟩) hg v2).setCell (p := ⟨g, 3, none⟩) hg v3).setCell (p := ⟨g, 4, none⟩) hg v4).setCell (p := ⟨g, 5, none⟩) hg v5).setCell (p := ⟨g, 6, none⟩) hg v6).setCell (p := ⟨g, 7, none⟩) hg v7).setCell (p := ⟨g, 8, none⟩) hg v8).setCell (p := ⟨g, 9, none⟩) hg v9).setCell (p := ⟨g, 10, none⟩) hg v10).setCell (p := ⟨g, 11, none⟩) hg v11).setCell (p := ⟨g, 12, none⟩) hg v12)
end
set_option maxRecDepth 100000 in
theorem se_descN : Tryd.prog.underlying 75 = some (.struct (Tryd.prog.fieldsOf 75)) := by kernel_rfl
set_option maxRecDepth 100000 in
theorem se_infoN (v0 v1 v2 v3 v4 v5 v6 v7 v8 v9 v10 v11 v12 : Value) : (Tryd.prog.info? 75).map (·.size) = some (#[v0, v1, v2, v3, v4, v5, v6, v7, v8, v9, v10, v11, v12] : Array Value).size := by kernel_rfl
theorem holdK_comm (q q' : Int) : holdK q q' = holdK q' q := by
  unfold holdK
  by_cases h : q = 0
  · by_cases h' : q' = 0
    · rw [if_pos h, if_pos h']
    · rw [if_pos h, if_neg h', if_pos h]
  · by_cases h' : q' = 0
    · rw [if_neg h, if_pos h', if_pos h']
    · rw [if_neg h, if_neg h', if_neg h', if_neg h, Int.min_comm]
set_option maxRecDepth 100000 in
theorem op_sameN (n : Nat) (a0 a1 a2 a3 a4 a5 : Bool) (W : World) : (Op.equalIn (n + 2) 23 (.agg #[.bool a0, .bool a1, .bool a2, .bool a3, .bool a4, .bool a5]) (.agg #[.bool a0, .bool a1, .bool a2, .bool a3, .bool a4, .bool a5])).run Tryd.prog W = Result.ok true W := by
  have hz := Tryd.underlying4
  rw [run_equalIn_agg W (n + 1) 23 _ _ op_desc (by kernel_rfl)]
  have hf : (Tryd.prog.fieldsOf 23).toList.map (fun x => (x.name, x.type, x.offset)) = [("AS4", 4, 0), ("Extended", 4, 1), ("MP4", 4, 2), ("MP6", 4, 3), ("Add4", 4, 4), ("Add6", 4, 5)] := by kernel_rfl
  obtain ⟨f0, f1, f2, f3, f4, f5, e, ⟨n0, t0, o0⟩, ⟨n1, t1, o1⟩, ⟨n2, t2, o2⟩, ⟨n3, t3, o3⟩, ⟨n4, t4, o4⟩, ⟨n5, t5, o5⟩⟩ := six_fields hf
  have q : ∀ (x : Bool) W, (Op.equalIn (n + 1) 4 (.bool x) (.bool x)).run Tryd.prog W = Result.ok true W := fun x W => by rw [run_equalIn_bool' W n 4 _ _ hz]; simp
  have p0 : ∀ W, (Go.part 4 #[.bool a0, .bool a1, .bool a2, .bool a3, .bool a4, .bool a5] 0).run Tryd.prog W = Result.ok (.bool a0) W := fun W => by kernel_rfl
  have p1 : ∀ W, (Go.part 4 #[.bool a0, .bool a1, .bool a2, .bool a3, .bool a4, .bool a5] 1).run Tryd.prog W = Result.ok (.bool a1) W := fun W => by kernel_rfl
  have p2 : ∀ W, (Go.part 4 #[.bool a0, .bool a1, .bool a2, .bool a3, .bool a4, .bool a5] 2).run Tryd.prog W = Result.ok (.bool a2) W := fun W => by kernel_rfl
  have p3 : ∀ W, (Go.part 4 #[.bool a0, .bool a1, .bool a2, .bool a3, .bool a4, .bool a5] 3).run Tryd.prog W = Result.ok (.bool a3) W := fun W => by kernel_rfl
  have p4 : ∀ W, (Go.part 4 #[.bool a0, .bool a1, .bool a2, .bool a3, .bool a4, .bool a5] 4).run Tryd.prog W = Result.ok (.bool a4) W := fun W => by kernel_rfl
  have p5 : ∀ W, (Go.part 4 #[.bool a0, .bool a1, .bool a2, .bool a3, .bool a4, .bool a5] 5).run Tryd.prog W = Result.ok (.bool a5) W := fun W => by kernel_rfl
  rw [e]
  simp only [Op.eqFields, n0, t0, o0, n1, t1, o1, n2, t2, o2, n3, t3, o3, n4, t4, o4, n5, t5, o5]
  simp only [show ("AS4" ≠ "_") = True by decide, show ("Extended" ≠ "_") = True by decide, show ("MP4" ≠ "_") = True by decide, show ("MP6" ≠ "_") = True by decide, show ("Add4" ≠ "_") = True by decide, show ("Add6" ≠ "_") = True by decide, if_true, Sem.run_bind, p0, Result.andThen_ok, q]
  simp [p1, p2, p3, p4, p5, q]
theorem three_fieldsN {fs : List Field} {n0 : String} {t0 : TypeId} {o0 : Nat} {n1 : String} {t1 : TypeId} {o1 : Nat} {n2 : String} {t2 : TypeId} {o2 : Nat} (hf : fs.map (fun x => (x.name, x.type, x.offset)) = [(n0, t0, o0), (n1, t1, o1), (n2, t2, o2)]) :
    ∃ f0 f1 f2 : Field, fs = [f0, f1, f2] ∧ (f0.name = n0 ∧ f0.type = t0 ∧ f0.offset = o0) ∧ (f1.name = n1 ∧ f1.type = t1 ∧ f1.offset = o1) ∧ (f2.name = n2 ∧ f2.type = t2 ∧ f2.offset = o2) := by
  obtain ⟨f0, g0, rfl, h0, hf⟩ := List.map_eq_cons_iff.1 hf
  obtain ⟨f1, g1, rfl, h1, hf⟩ := List.map_eq_cons_iff.1 hf
  obtain ⟨f2, g2, rfl, h2, hf⟩ := List.map_eq_cons_iff.1 hf
  rw [List.map_eq_nil_iff] at hf
  subst hf
  simp only [Prod.mk.injEq] at h0 h1 h2
  exact ⟨f0, f1, f2, rfl, h0, h1, h2⟩
set_option maxRecDepth 100000 in
theorem se_eqIn (x0 x1 x2 x3 x4 x5 y0 y1 y2 y3 y4 y5 : Bool) (H : Int) (W : World) : (Op.equalIn 10000 75 (.agg #[.bool x0, .bool x1, .bool x2, .bool x3, .bool x4, .bool x5, .bool y0, .bool y1, .bool y2, .bool y3, .bool y4, .bool y5, .int .i64 H]) (.agg #[.bool x0, .bool x1, .bool x2, .bool x3, .bool x4, .bool x5, .bool y0, .bool y1, .bool y2, .bool y3, .bool y4, .bool y5, .int .i64 H])).run Tryd.prog W = Result.ok true W := by
  have hz := Tryd.underlying3
  rw [run_equalIn_agg W 9999 75 _ _ se_descN (by kernel_rfl)]
  have hf : (Tryd.prog.fieldsOf 75).toList.map (fun x => (x.name, x.type, x.offset)) = [("Out", 23, 0), ("In", 23, 6), ("Hold", 3, 12)] := by kernel_rfl
  obtain ⟨f0, f1, f2, e, ⟨n0, t0, o0⟩, ⟨n1, t1, o1⟩, ⟨n2, t2, o2⟩⟩ := three_fieldsN hf
  have q : ∀ (a0 a1 a2 a3 a4 a5 : Bool) W, (Op.equalIn 9999 23 (.agg #[.bool a0, .bool a1, .bool a2, .bool a3, .bool a4, .bool a5]) (.agg #[.bool a0, .bool a1, .bool a2, .bool a3, .bool a4, .bool a5])).run Tryd.prog W = Result.ok true W := fun a0 a1 a2 a3 a4 a5 W => op_sameN 9997 a0 a1 a2 a3 a4 a5 W
  have qi : ∀ W, (Op.equalIn 9999 3 (.int .i64 H) (.int .i64 H)).run Tryd.prog W = Result.ok true W := fun W => by rw [run_equalIn_int W 9998 3 .i64 .i64 H H hz]; simp
  have p0 : ∀ W, (Go.part 23 #[.bool x0, .bool x1, .bool x2, .bool x3, .bool x4, .bool x5, .bool y0, .bool y1, .bool y2, .bool y3, .bool y4, .bool y5, .int .i64 H] 0).run Tryd.prog W = Result.ok (.agg #[.bool x0, .bool x1, .bool x2, .bool x3, .bool x4, .bool x5]) W := fun W => by kernel_rfl
  have p1 : ∀ W, (Go.part 23 #[.bool x0, .bool x1, .bool x2, .bool x3, .bool x4, .bool x5, .bool y0, .bool y1, .bool y2, .bool y3, .bool y4, .bool y5, .int .i64 H] 6).run Tryd.prog W = Result.ok (.agg #[.bool y0, .bool y1, .bool y2, .bool y3, .bool y4, .bool y5]) W := fun W => by kernel_rfl
  have p2 : ∀ W, (Go.part 3 #[.bool x0, .bool x1, .bool x2, .bool x3, .bool x4, .bool x5, .bool y0, .bool y1, .bool y2, .bool y3, .bool y4, .bool y5, .int .i64 H] 12).run Tryd.prog W = Result.ok (.int .i64 H) W := fun W => by kernel_rfl
  rw [e]
  simp only [Op.eqFields, n0, t0, o0, n1, t1, o1, n2, t2, o2]
  simp only [show ("Out" ≠ "_") = True by decide, show ("In" ≠ "_") = True by decide, show ("Hold" ≠ "_") = True by decide, if_true, Sem.run_bind, p0, Result.andThen_ok, q]
  simp [p1, p2, q, qi]
set_option maxRecDepth 100000 in
theorem se_same (x0 x1 x2 x3 x4 x5 y0 y1 y2 y3 y4 y5 : Bool) (H : Int) (W : World) : (binOp .eql 75 (.agg #[.bool x0, .bool x1, .bool x2, .bool x3, .bool x4, .bool x5, .bool y0, .bool y1, .bool y2, .bool y3, .bool y4, .bool y5, .int .i64 H]) (.agg #[.bool x0, .bool x1, .bool x2, .bool x3, .bool x4, .bool x5, .bool y0, .bool y1, .bool y2, .bool y3, .bool y4, .bool y5, .int .i64 H])).run Tryd.prog W = Result.ok (.bool true) W := by
  rw [run_eql_struct W, se_eqIn]; rfl
set_option maxRecDepth 100000 in
set_option maxHeartbeats 6400000 in
theorem nof_any (p q r : Int) (A : Option Addr) (n c : Nat) (p' q' r' : Int) (A' : Option Addr) (n' c' : Nat) (ss ts : List Cp) (w : World) (h : Caps w w.heap.size A n ss) (h' : Caps w w.heap.size A' n' ts) (hn : n ≤ 1000) (hn' : n' ≤ 1000) (hs : ∀ s ∈ ss, s.n ≤ 100000) (hs' : ∀ s ∈ ts, s.n ≤ 100000) (hf : Fams w)
    (x0 x1 x2 x3 x4 x5 y0 y1 y2 y3 y4 y5 : Bool) (ex : towK (ss.map cpK) (ts.map cpK) = #[.bool x0, .bool x1, .bool x2, .bool x3, .bool x4, .bool x5]) (ey : towK (ts.map cpK) (ss.map cpK) = #[.bool y0, .bool y1, .bool y2, .bool y3, .bool y4, .bool y5]) (H : Int) (eh : holdK q q' = H) :
    Calls Tryd.prog 45 #[.agg #[.int .u32 p, .int .i64 q, .int .u32 r, .slice A n c], .agg #[.int .u32 p', .int .i64 q', .int .u32 r', .slice A' n' c']] w fun e w' => e = .returned (.agg #[.bool x0, .bool x1, .bool x2, .bool x3, .bool x4, .bool x5, .bool y0, .bool y1, .bool y2, .bool y3, .bool y4, .bool y5, .int .i64 H]) ∧ Below w.heap.size w w' := by
  have hBt : Hid (∀ W, Below w.heap.size w W → Calls Tryd.prog 39 #[.agg #[.int .u32 p, .int .i64 q, .int .u32 r, .slice A n c], .agg #[.int .u32 p', .int .i64 q', .int .u32 r', .slice A' n' c']] W fun e w' => e = .returned (.tuple #[.agg #[.bool x0, .bool x1, .bool x2, .bool x3, .bool x4, .bool x5], .agg #[.bool y0, .bool y1, .bool y2, .bool y3, .bool y4, .bool y5]]) ∧ Below W.heap.size W w') := Lib.hid fun W hb => by
    have := between_any p q r A n c p' q' r' A' n' c' ss ts W (h.step hb) (h'.step hb) hn hn' hs hs' (hf.below hb)
    rwa [ex, ey] at this
  have hHo := Lib.hid (fun W => nhold_any p q r A n c p' q' r' A' n' c' W)
  rw [eh] at hHo
  clear h h' hn hn' hs hs' hf ex ey eh
  obtain ⟨X, hX, oA, oB, oZ, hbX, hXs⟩ := three_boxesN w #[.int .u32 p, .int .i64 q, .int .u32 r, .slice A n c] #[.int .u32 p', .int .i64 q', .int .u32 r', .slice A' n' c'] #[.bool false, .bool false, .bool false, .bool false, .bool false, .bool false, .bool false, .bool false, .bool false, .bool false, .bool false, .bool false, .int .i64 0] 47 47 75
  clear hXs
  obtain ⟨a0, a1, a2, a3⟩ := own_end oA
  obtain ⟨b0, b1, b2, b3⟩ := own_end oB
  go_enter Tryd.func45, Tryd.ntmps45
  go_upto_region 1 with fail
  rw [← hX]
  clear hX
  go_wp2_with fail
  refine (hBt.out _ hbX).mono ?_
  rintro e w2 ⟨rfl, hb2⟩
  clear a0 a1 a2 a3 b0 b1 b2 b3
  obtain ⟨V, hV, oX, oY, hbV, hVs⟩ := two_boxesN w2 #[.bool x0, .bool x1, .bool x2, .bool x3, .bool x4, .bool x5] #[.bool y0, .bool y1, .bool y2, .bool y3, .bool y4, .bool y5] 23 23
  clear hVs
  go_upto_region 2 with fail
  rw [← hV]
  clear hV
  have hb3 := bl_trans hb2 hbV
  have hb4 := bl_trans hbX hb3
  have oA3 := oA.step hb3
  have oB3 := oB.step hb3
  have oZ3 := oZ.step hb3
  have hZlt := (oZ.step hb2).lt
  clear oA oB oZ hbX hb2 hbV hb3
  refine wp_region_held_drew (S := (fun X => (Own X w.heap.size 47 #[.int .u32 p, .int .i64 q, .int .u32 r, .slice A n c] ∧ Own X (w.heap.size + 1) 47 #[.int .u32 p', .int .i64 q', .int .u32 r', .slice A' n' c']) ∧ Own X w2.heap.size 23 #[.bool x0, .bool x1, .bool x2, .bool x3, .bool x4, .bool x5] ∧ Own X (w2.heap.size + 1) 23 #[.bool y0, .bool y1, .bool y2, .bool y3, .bool y4, .bool y5])) (by kernel_rfl) ⟨⟨oA3.drew, oB3.drew⟩, oX.drew, oY.drew⟩ (fun hHeld => ?_)
  have oA4 := oA3.drew
  have oB4 := oB3.drew
  have oX4 := oX.drew
  have oY4 := oY.drew
  have oZ4 := oZ3.drew
  have hb5 := bl_drewN hb4 1
  clear oA3 oB3 oX oY oZ3 hb4
  refine wpAnyH_take (i := 0) (v := ?_) rfl (by kernel_rfl) (by kernel_rfl) (by kernel_rfl) (fun _ _ _ h => h) (Or.inl ⟨by rfl, ?_⟩) (by assumption) ?_
  rotate_left
  · (intro W hSw; have s0 : Own W w.heap.size 47 #[.int .u32 p, .int .i64 q, .int .u32 r, .slice A n c] := hSw.1.1; have s1 : Own W (w.heap.size + 1) 47 #[.int .u32 p', .int .i64 q', .int .u32 r', .slice A' n' c'] := hSw.1.2; have s2 : Own W w2.heap.size 23 #[.bool x0, .bool x1, .bool x2, .bool x3, .bool x4, .bool x5] := hSw.2.1; have s3 : Own W (w2.heap.size + 1) 23 #[.bool y0, .bool y1, .bool y2, .bool y3, .bool y4, .bool y5] := hSw.2.2; obtain ⟨e0, e1, e2, e3, e4, e5⟩ := own_six s2; go_simp; try with_reducible rfl)
  simp only [Act.put, List.getElem_toArray, List.getElem_cons_zero, List.setIfInBounds_toArray, List.set_cons_zero, List.set_cons_succ]
  refine wpAnyH_take (i := 1) (v := ?_) rfl (by kernel_rfl) (by kernel_rfl) (by kernel_rfl) (fun _ _ _ h => h) (Or.inl ⟨by rfl, ?_⟩) (by assumption) ?_
  rotate_left
  · (intro W hSw; have s0 : Own W w.heap.size 47 #[.int .u32 p, .int .i64 q, .int .u32 r, .slice A n c] := hSw.1.1; have s1 : Own W (w.heap.size + 1) 47 #[.int .u32 p', .int .i64 q', .int .u32 r', .slice A' n' c'] := hSw.1.2; have s2 : Own W w2.heap.size 23 #[.bool x0, .bool x1, .bool x2, .bool x3, .bool x4, .bool x5] := hSw.2.1; have s3 : Own W (w2.heap.size + 1) 23 #[.bool y0, .bool y1, .bool y2, .bool y3, .bool y4, .bool y5] := hSw.2.2; obtain ⟨e0, e1, e2, e3, e4, e5⟩ := own_six s3; go_simp; try with_reducible rfl)
  simp only [Act.put, List.getElem_toArray, List.getElem_cons_zero, List.getElem_cons_succ, List.setIfInBounds_toArray, List.set_cons_zero, List.set_cons_succ]
  refine wpAnyH_take (i := 2) (v := ?_) rfl (by kernel_rfl) (by kernel_rfl) (by kernel_rfl) (fun _ _ _ h => h) (Or.inl ⟨by rfl, ?_⟩) (by assumption) ?_
  rotate_left
  · (intro W hSw; have s0 : Own W w.heap.size 47 #[.int .u32 p, .int .i64 q, .int .u32 r, .slice A n c] := hSw.1.1; have s1 : Own W (w.heap.size + 1) 47 #[.int .u32 p', .int .i64 q', .int .u32 r', .slice A' n' c'] := hSw.1.2; have s2 : Own W w2.heap.size 23 #[.bool x0, .bool x1, .bool x2, .bool x3, .bool x4, .bool x5] := hSw.2.1; have s3 : Own W (w2.heap.size + 1) 23 #[.bool y0, .bool y1, .bool y2, .bool y3, .bool y4, .bool y5] := hSw.2.2; obtain ⟨e0, e1, e2, e3⟩ := own_end s0; go_simp; try with_reducible rfl)
  simp only [Act.put, List.getElem_toArray, List.getElem_cons_zero, List.getElem_cons_succ, List.setIfInBounds_toArray, List.set_cons_zero, List.set_cons_succ]
  refine wpAnyH_take (i := 3) (v := ?_) rfl (by kernel_rfl) (by kernel_rfl) (by kernel_rfl) (fun _ _ _ h => h) (Or.inl ⟨by rfl, ?_⟩) (by assumption) ?_
  rotate_left
  · (intro W hSw; have s0 : Own W w.heap.size 47 #[.int .u32 p, .int .i64 q, .int .u32 r, .slice A n c] := hSw.1.1; have s1 : Own W (w.heap.size + 1) 47 #[.int .u32 p', .int .i64 q', .int .u32 r', .slice A' n' c'] := hSw.1.2; have s2 : Own W w2.heap.size 23 #[.bool x0, .bool x1, .bool x2, .bool x3, .bool x4, .bool x5] := hSw.2.1; have s3 : Own W (w2.heap.size + 1) 23 #[.bool y0, .bool y1, .bool y2, .bool y3, .bool y4, .bool y5] := hSw.2.2; obtain ⟨e0, e1, e2, e3⟩ := own_end s1; go_simp; try with_reducible rfl)
  simp only [Act.put, List.getElem_toArray, List.getElem_cons_zero, List.getElem_cons_succ, List.setIfInBounds_toArray, List.set_cons_zero, List.set_cons_succ]
  refine wpAnyH_ready (rs := [4]) (by kernel_rfl) (by simp) ?_
  refine (AllReadyH.cons rfl (fun K hK => ?_) AllReadyH.nil)
  go_simp
  go_at_call 44
  refine (hHo.out _).mono ?_
  rintro e w5 ⟨rfl, hc5⟩
  have hb6 := bl_trans hb5 hc5
  have oA5 := oA4.step hc5
  have oB5 := oB4.step hc5
  have oX5 := oX4.step hc5
  have oY5 := oY4.step hc5
  have oZ5 := oZ4.step hc5
  clear oA4 oB4 oX4 oY4 oZ4
  refine hK.out _ _ ⟨⟨oA5, oB5⟩, oX5, oY5⟩ (fun hHeld2 => ?_)
  clear hK K hHeld
  have hHeld := hHeld2
  clear hHeld2
  try simp only [Act.put, List.getElem_toArray, List.getElem_cons_zero, List.getElem_cons_succ, List.setIfInBounds_toArray, List.set_cons_zero, List.set_cons_succ]
  refine wpAnyH_take (i := 5) (v := ?_) rfl (by kernel_rfl) (by kernel_rfl) (by kernel_rfl) (fun _ _ _ h => h) (Or.inl ⟨by rfl, ?_⟩) (by assumption) ?_
  rotate_left
  · (intro W hSw; skip; go_simp; try with_reducible rfl)
  simp only [Act.put, List.getElem_toArray, List.getElem_cons_zero, List.getElem_cons_succ, List.setIfInBounds_toArray, List.set_cons_zero, List.set_cons_succ]
  refine wpAnyH_ready (rs := [6]) (by kernel_rfl) (by simp) ?_
  refine (AllReadyH.cons rfl (fun K hK => ?_) AllReadyH.nil)
  have z0 := oZ5.frozen 0
  have z1 := oZ5.frozen 1
  have z2 := oZ5.frozen 2
  have z3 := oZ5.frozen 3
  have z4 := oZ5.frozen 4
  have z5 := oZ5.frozen 5
  have z6 := oZ5.frozen 6
  have z7 := oZ5.frozen 7
  have z8 := oZ5.frozen 8
  have z9 := oZ5.frozen 9
  have z10 := oZ5.frozen 10
  have z11 := oZ5.frozen 11
  have z12 := oZ5.frozen 12
  obtain ⟨y0_, y1_, y2_, y3_, y4_, y5_, y6_, y7_, y8_, y9_, y10_, y11_, y12_⟩ := own_13 oZ5
  go_simp
  rw [show (((((((((((((w5.setCell ⟨w.heap.size + 1 + 1, 0, none⟩ (.bool x0)).setCell ⟨w.heap.size + 1 + 1, 1, none⟩ (.bool x1)).setCell ⟨w.heap.size + 1 + 1, 2, none⟩ (.bool x2)).setCell ⟨w.heap.size + 1 + 1, 3, none⟩ (.bool x3)).setCell ⟨w.heap.size + 1 + 1, 4, none⟩ (.bool x4)).setCell ⟨w.heap.size + 1 + 1, 5, none⟩ (.bool x5)).setCell ⟨w.heap.size + 1 + 1, 6, none⟩ (.bool y0)).setCell ⟨w.heap.size + 1 + 1, 7, none⟩ (.bool y1)).setCell ⟨w.heap.size + 1 + 1, 8, none⟩ (.bool y2)).setCell ⟨w.heap.size + 1 + 1, 9, none⟩ (.bool y3)).setCell ⟨w.heap.size + 1 + 1, 10, none⟩ (.bool y4)).setCell ⟨w.heap.size + 1 + 1, 11, none⟩ (.bool y5)).setCell ⟨w.heap.size + 1 + 1, 12, none⟩ (.int .i64 H)) = sets13 w5 (w.heap.size + 1 + 1) (.bool x0) (.bool x1) (.bool x2) (.bool x3) (.bool x4) (.bool x5) (.bool y0) (.bool y1) (.bool y2) (.bool y3) (.bool y4) (.bool y5) (.int .i64 H) from rfl]
  have oZ6 := sets13_own (v0 := .bool x0) (v1 := .bool x1) (v2 := .bool x2) (v3 := .bool x3) (v4 := .bool x4) (v5 := .bool x5) (v6 := .bool y0) (v7 := .bool y1) (v8 := .bool y2) (v9 := .bool y3) (v10 := .bool y4) (v11 := .bool y5) (v12 := .int .i64 H) oZ5
  have oA6 := sets13_far (g := w.heap.size + 1 + 1) (v0 := .bool x0) (v1 := .bool x1) (v2 := .bool x2) (v3 := .bool x3) (v4 := .bool x4) (v5 := .bool x5) (v6 := .bool y0) (v7 := .bool y1) (v8 := .bool y2) (v9 := .bool y3) (v10 := .bool y4) (v11 := .bool y5) (v12 := .int .i64 H) oA5 (by have := hb6.size; omega)
  have oB6 := sets13_far (g := w.heap.size + 1 + 1) (v0 := .bool x0) (v1 := .bool x1) (v2 := .bool x2) (v3 := .bool x3) (v4 := .bool x4) (v5 := .bool x5) (v6 := .bool y0) (v7 := .bool y1) (v8 := .bool y2) (v9 := .bool y3) (v10 := .bool y4) (v11 := .bool y5) (v12 := .int .i64 H) oB5 (by have := hb6.size; omega)
  have hlt := oX5.lt
  have hX6 : w2.heap.size ≠ w.heap.size + 1 + 1 := by have := hZlt; omega
  have hY6 : w2.heap.size + 1 ≠ w.heap.size + 1 + 1 := by have := hZlt; omega
  have oX6 := sets13_far (g := w.heap.size + 1 + 1) (v0 := .bool x0) (v1 := .bool x1) (v2 := .bool x2) (v3 := .bool x3) (v4 := .bool x4) (v5 := .bool x5) (v6 := .bool y0) (v7 := .bool y1) (v8 := .bool y2) (v9 := .bool y3) (v10 := .bool y4) (v11 := .bool y5) (v12 := .int .i64 H) oX5 hX6
  have oY6 := sets13_far (g := w.heap.size + 1 + 1) (v0 := .bool x0) (v1 := .bool x1) (v2 := .bool x2) (v3 := .bool x3) (v4 := .bool x4) (v5 := .bool x5) (v6 := .bool y0) (v7 := .bool y1) (v8 := .bool y2) (v9 := .bool y3) (v10 := .bool y4) (v11 := .bool y5) (v12 := .int .i64 H) oY5 hY6
  have hb7 := sets13_below (g := w.heap.size + 1 + 1) (v0 := .bool x0) (v1 := .bool x1) (v2 := .bool x2) (v3 := .bool x3) (v4 := .bool x4) (v5 := .bool x5) (v6 := .bool y0) (v7 := .bool y1) (v8 := .bool y2) (v9 := .bool y3) (v10 := .bool y4) (v11 := .bool y5) (v12 := .int .i64 H) hb6 (by omega)
  generalize hge : sets13 w5 (w.heap.size + 1 + 1) (.bool x0) (.bool x1) (.bool x2) (.bool x3) (.bool x4) (.bool x5) (.bool y0) (.bool y1) (.bool y2) (.bool y3) (.bool y4) (.bool y5) (.int .i64 H) = U at *
  clear hge
  refine hK.out _ _ ⟨⟨oA6, oB6⟩, oX6, oY6⟩ (fun hHeld2 => ?_)
  clear hK K hHeld
  have hHeld := hHeld2
  clear hHeld2
  try simp only [Act.put, List.getElem_toArray, List.getElem_cons_zero, List.getElem_cons_succ, List.setIfInBounds_toArray, List.set_cons_zero, List.set_cons_succ]
  refine wpAnyH_done (by kernel_rfl) ?_ _
  go_wp2
  exact bodyPost_ret (results_cell1N (p := 4) (fn := Tryd.f45) rfl _ _ (w.heap.size + 1 + 1) 75 #[.bool x0, .bool x1, .bool x2, .bool x3, .bool x4, .bool x5, .bool y0, .bool y1, .bool y2, .bool y3, .bool y4, .bool y5, .int .i64 H] _ rfl oZ6 se_descN rfl (se_infoN _ _ _ _ _ _ _ _ _ _ _ _ _)) rfl ⟨rfl, hb7⟩
end Go.Proofs.YtniheakafkakhaaDoor
