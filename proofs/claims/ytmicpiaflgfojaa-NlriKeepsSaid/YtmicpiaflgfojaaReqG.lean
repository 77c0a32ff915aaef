/- routes compared, equal or not -/
import Derived.Test.YtmicpiaflgfojaaReq
namespace Go.Proofs.Ytmicpiaflgfojaa
open Go.RowKit Extern.Stop

def rtEq (r q : Rt) : Bool := decide (r.p = q.p) && (decide (r.f = q.f) && (decide (r.l = q.l) && decide (r.a = q.a)))
theorem rtEq_iff {r q : Rt} : rtEq r q = true ↔ r = q := by
  obtain ⟨p, f, l, a⟩ := r
  obtain ⟨p', f', l', a'⟩ := q
  simp [rtEq]
set_option maxRecDepth 100000 in
theorem eqIn_arr2 (d : Nat) {a b : List Int} (ha : IsAddr a) (hb : IsAddr b) (W : World) : (Op.equalIn (d + 2) 27 (.agg (arr a)) (.agg (arr b))).run Try.prog W = Result.ok (decide (a = b)) W := by
  obtain ⟨us, rfl⟩ := bytes_lift a ha.2
  obtain ⟨vs, rfl⟩ := bytes_lift b hb.2
  have e : ∀ us : List UInt8, arr (us.map (fun u => (u.toNat : Int))) = (us.map cell).toArray := fun us => by
    unfold arr; rw [List.map_map]; rfl
  have hl : us.length = 16 := by have := ha.1; simpa using this
  have hm : vs.length = 16 := by have := hb.1; simpa using this
  rw [e, e, run_equalIn_bytes W d 27 5 16 Try.underlying27 Try.underlying5 (fun _ => by kernel_rfl) us vs hl hm]
  have inj : us.map (fun u => (u.toNat : Int)) = vs.map (fun u => (u.toNat : Int)) ↔ us = vs :=
    List.map_inj_right (fun x y h => UInt8.toNat_inj.1 (Int.ofNat.inj h))
  by_cases h : us = vs
  · subst h; simp
  · have h' : ¬ us.map (fun u => (u.toNat : Int)) = vs.map (fun u => (u.toNat : Int)) := fun e => h (inj.1 e)
    rw [decide_eq_false h', beq_eq_false_iff_ne.2 h]
set_option maxRecDepth 100000 in
theorem eqIn_pfx2 (d : Nat) {f l f' l' : Int} {a a' : List Int} (ha : IsAddr a) (ha' : IsAddr a') (W : World) : (Op.equalIn (d + 3) 29 (.agg (pfx f l a)) (.agg (pfx f' l' a'))).run Try.prog W = Result.ok (decide (f = f') && (decide (l = l') && decide (a = a'))) W := by
  have hz := Try.underlying3
  rw [run_equalIn_agg W (d + 2) 29 _ _ pfx_desc (by kernel_rfl)]
  have hf : (Try.prog.fieldsOf 29).toList.map (fun x => (x.name, x.type, x.offset)) = [("Fam", 3, 0), ("Len", 3, 1), ("Addr", 27, 2)] := by kernel_rfl
  obtain ⟨f1, f2, f3, e, ⟨n1, t1, o1⟩, ⟨n2, t2, o2⟩, n3, t3, o3⟩ := fields3 hf
  have q : ∀ (x y : Int) W, (Op.equalIn (d + 2) 3 (.int .i64 x) (.int .i64 y)).run Try.prog W = Result.ok (x == y) W := fun x y W => by rw [run_equalIn_int W (d + 1) 3 .i64 .i64 _ _ hz]
  rw [e]
  simp only [Op.eqFields, n1, t1, o1, n2, t2, o2, n3, t3, o3]
  simp only [show ("Fam" ≠ "_") = True by decide, show ("Len" ≠ "_") = True by decide, show ("Addr" ≠ "_") = True by decide, if_true, Sem.run_bind, part_fam ha.1, part_fam ha'.1, Result.andThen_ok, q]
  by_cases h1 : f = f'
  · by_cases h2 : l = l'
    · by_cases h3 : a = a'
      · subst h1 h2 h3
        simp [part_len ha.1, part_addr ha.1, q, eqIn_arr2 d ha ha]
      · subst h1 h2
        simp [h3, part_len ha.1, part_len ha'.1, part_addr ha.1, part_addr ha'.1, q, eqIn_arr2 d ha ha']
    · subst h1
      simp [h2, part_len ha.1, part_len ha'.1, q]
  · simp [h1]
set_option maxRecDepth 100000 in
theorem eqIn_rt2 (d : Nat) {r s : Rt} (ho : r.Ok) (hs : s.Ok) (W : World) : (Op.equalIn (d + 4) 31 (.agg (rt r)) (.agg (rt s))).run Try.prog W = Result.ok (rtEq r s) W := by
  have hz := Try.underlying26
  rw [run_equalIn_agg W (d + 3) 31 _ _ rt_desc (by kernel_rfl)]
  have hf : (Try.prog.fieldsOf 31).toList.map (fun x => (x.name, x.type, x.offset)) = [("Path", 26, 0), ("Prefix", 29, 1)] := by kernel_rfl
  obtain ⟨f1, f2, e, ⟨n1, t1, o1⟩, n2, t2, o2⟩ := fields2 hf
  have q1 : ∀ W, (Op.equalIn (d + 3) 26 (.int .u32 r.p) (.int .u32 s.p)).run Try.prog W = Result.ok (r.p == s.p) W := fun W => by rw [run_equalIn_int W (d + 2) 26 .u32 .u32 _ _ hz]
  rw [e]
  simp only [Op.eqFields, n1, t1, o1, n2, t2, o2]
  simp only [show ("Path" ≠ "_") = True by decide, show ("Prefix" ≠ "_") = True by decide, if_true, Sem.run_bind, part_path ho.1.1, part_path hs.1.1, Result.andThen_ok, q1]
  unfold rtEq
  by_cases h1 : r.p = s.p
  · rw [h1]
    simp only [beq_self_eq_true, Bool.not_true, Bool.false_eq_true, if_false, Sem.run_bind, part_pfx ho.1.1, part_pfx hs.1.1, Result.andThen_ok, eqIn_pfx2 d ho.1 hs.1]
    generalize (decide (r.f = s.f) && (decide (r.l = s.l) && decide (r.a = s.a))) = b
    cases b <;> simp
  · simp [h1]
set_option maxRecDepth 100000 in
theorem eql_rt {r s : Rt} (ho : r.Ok) (hs : s.Ok) (W : World) : (binOp .eql 31 (.agg (rt r)) (.agg (rt s))).run Try.prog W = Result.ok (.bool (rtEq r s)) W := by
  rw [run_eql_struct W, eqIn_rt2 9996 ho hs]
  rfl
set_option maxRecDepth 100000 in
theorem neq_rt2 {r s : Rt} (ho : r.Ok) (hs : s.Ok) (W : World) : (binOp .neq 31 (.agg (rt r)) (.agg (rt s))).run Try.prog W = Result.ok (.bool (!rtEq r s)) W := by
  rw [run_neq_struct W, eqIn_rt2 9996 ho hs]
  rfl
end Go.Proofs.Ytmicpiaflgfojaa
