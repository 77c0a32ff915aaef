/- nlri.Read -/
import Derived.Test.YtngeldgohijheaaDoorNo
import Derived.Great.BuildSlice
namespace Go.Proofs.YtngeldgohijheaaDoor
open Go.RowKit

/-- The first p of the bytes xs are the routes rs. -/
inductive Parsed (f : Int) (add : Bool) (xs : List Int) : Nat → List Rt → Prop where
  | nil : Parsed f add xs 0 []
  | cons {p : Nat} {rs : List Rt} : Parsed f add xs p rs → p < xs.length → oneOk f add (xs.drop p) = true → Parsed f add xs (p + oneN add (xs.drop p)) (rs ++ [oneR f add (xs.drop p)])
theorem pOk_len {f : Int} {xs : List Int} (h : pOk f xs = true) : pN xs ≤ xs.length := by
  match xs, h with
  | x :: ys, h =>
    simp only [pOk, Bool.and_eq_true, decide_eq_true_eq] at h
    unfold pN
    rw [List.headD_cons, List.length_cons]
    omega
theorem oneOk_len {f : Int} {add : Bool} {xs : List Int} (h : oneOk f add xs = true) : oneN add xs ≤ xs.length := by
  cases add
  · exact pOk_len h
  · simp only [oneOk, if_true, Bool.and_eq_true, decide_eq_true_eq] at h
    have := pOk_len h.2
    rw [List.length_drop] at this
    show 4 + pN (xs.drop 4) ≤ _
    omega
theorem oneN_pos (add : Bool) (xs : List Int) : 1 ≤ oneN add xs := by
  cases add
  · show 1 ≤ 1 + _; omega
  · show 1 ≤ 4 + _; omega
theorem Parsed.le {f : Int} {add : Bool} {xs : List Int} {p : Nat} {rs : List Rt} (h : Parsed f add xs p rs) : p ≤ xs.length ∧ rs.length ≤ p := by
  induction h with
  | nil => exact ⟨Nat.zero_le _, Nat.le_refl _⟩
  | @cons p rs h hp hk ih =>
    have h1 := oneOk_len hk
    have h2 := oneN_pos add (xs.drop p)
    rw [List.length_drop] at h1
    rw [List.length_append, List.length_singleton]
    omega
theorem oneR_ok {f : Int} {add : Bool} {xs : List Int} (h : ∀ x ∈ xs, 0 ≤ x ∧ x ≤ 255) : (oneR f add xs).Ok := by
  cases add
  · exact ⟨pA_addr h, by show (0 : Int) ≤ 0; omega, by show (0 : Int) ≤ _; omega⟩
  · by_cases h4 : 4 ≤ xs.length
    · have e : oneR f true xs = ⟨big (xs.take 4), pF f (xs.drop 4), pL f (xs.drop 4), pA f (xs.drop 4)⟩ := by simp [oneR, h4]
      rw [e]
      have hb := big_range 4 (xs.take 4) (by rw [List.length_take]; omega) (fun x hx => h x (List.mem_of_mem_take hx))
      exact ⟨pA_addr (fun x hx => h x (List.mem_of_mem_drop hx)), hb.1, by have := hb.2; show big _ ≤ _; omega⟩
    · have e : oneR f true xs = rt0 := by simp [oneR, h4]
      rw [e]
      exact ⟨zero16_addr, by show (0 : Int) ≤ 0; omega, by show (0 : Int) ≤ _; omega⟩
theorem Parsed.ok {f : Int} {add : Bool} {xs : List Int} {p : Nat} {rs : List Rt} (h : Parsed f add xs p rs) (hr : ∀ x ∈ xs, 0 ≤ x ∧ x ≤ 255) : ∀ r ∈ rs, r.Ok := by
  induction h with
  | nil => intro r h; cases h
  | cons h hp hk ih =>
    intro r hm
    rcases List.mem_append.1 hm with hm | hm
    · exact ih r hm
    · rw [List.mem_singleton] at hm; subst hm
      exact oneR_ok (fun x hx => hr x (List.mem_of_mem_drop hx))

def flatR (rs : List Rt) : List Value := rs.flatMap fun r => (rt r).toList
theorem flatR_get : ∀ {rs : List Rt}, (∀ r ∈ rs, r.Ok) → ∀ (i : Nat) (r : Rt), rs[i]? = some r → ∀ (j : Nat) (v : Value), (rt r).toList[j]? = some v → (flatR rs)[i * 19 + j]? = some v
  | [], _, i, r, hi, _, _, _ => by simp at hi
  | q :: rs, h, i, r, hi, j, v, hj => by
    have hq : (rt q).toList.length = 19 := by rw [Array.length_toList, rt_size (h q (List.mem_cons_self ..)).1.1]
    show ((rt q).toList ++ flatR rs)[_]? = _
    match i, hi with
    | 0, hi =>
      have e : q = r := by simpa using hi
      subst e
      rw [List.getElem?_append_left (by rw [Nat.zero_mul, Nat.zero_add]; exact (List.getElem?_eq_some_iff.1 hj).1), Nat.zero_mul, Nat.zero_add]
      exact hj
    | i + 1, hi =>
      rw [List.getElem?_append_right (by omega), hq, show (i + 1) * 19 + j - 19 = i * 19 + j by omega]
      exact flatR_get (fun r hr => h r (List.mem_cons_of_mem _ hr)) i r (by simpa using hi) j v hj
theorem own_routes {w : World} {base n : Nat} {v : Value} {rs : List Rt} (h : w.ownsRow base 170 19 v n (flatR rs)) (hr : ∀ r ∈ rs, r.Ok) (hn : n = rs.length) : ∃ A c, v = .slice A n c ∧ n ≤ c ∧ Routes w w.heap.size A n rs := by
  obtain ⟨A, c, rfl, hc, hs⟩ := own_val h
  refine ⟨A, c, rfl, hc, hn, hr, ?_⟩
  match rs, hr, hs with
  | [], _, _ => exact .inl rfl
  | q :: rs, hr, hs =>
    right
    have hq : (rt q).toList.length = 19 := by rw [Array.length_toList, rt_size (hr q (List.mem_cons_self ..)).1.1]
    rcases hs with h0 | ⟨b, o, hA, hb, hcc⟩
    · have : (flatR (q :: rs)).length = 0 := by rw [h0]; rfl
      have e : flatR (q :: rs) = (rt q).toList ++ flatR rs := rfl
      rw [e, List.length_append] at this
      omega
    · refine ⟨b, o, hA, hb, fun i r hi j u hu => ?_⟩
      have := hcc _ _ (flatR_get hr i r hi j u hu)
      rw [← Nat.add_assoc] at this
      exact this

def lit19 : Array Value := #[.int .u32 0, .int .i64 0, .int .i64 0, .int .u8 0, .int .u8 0, .int .u8 0, .int .u8 0, .int .u8 0, .int .u8 0, .int .u8 0, .int .u8 0, .int .u8 0, .int .u8 0, .int .u8 0, .int .u8 0, .int .u8 0, .int .u8 0, .int .u8 0, .int .u8 0]
set_option maxRecDepth 100000 in
theorem sl_routes : SliceOf Tryd.prog 27 170 19 40 := SliceOf.mk Tryd.underlying27 (z := .agg lit19) (by kernel_rfl) rfl (by decide)
theorem fill_route {r : Rt} (h : r.a.length = 16) : Instr.fill (fun i => some (i * 19, 19)) ((Array.range (1 * 19)).map ((Value.agg lit19).cells[· % (Value.agg lit19).cells.size]!)) [(0, .agg (rt r))] = some (rt r) := by
  obtain ⟨p, f, l, a⟩ := r
  obtain ⟨x0, x1, x2, x3, x4, x5, x6, x7, x8, x9, x10, x11, x12, x13, x14, x15, rfl⟩ := list16 h
  kernel_rfl
set_option maxRecDepth 100000 in
theorem wpList_build_route {ops : Array Oper} {rest : List Oper} {o : Oper} {a : Act} {w : World} {Q : Exit → Act → World → Prop} (hg : o.guard = none) (parts : Array (Nat × Operand)) (ho : o.op = .buildSlice 27 1 parts)
    (r : Rt) (hr : r.a.length = 16) (hp : (parts.map fun (i, x) => (i, a.eval x)).toList = [(0, .agg (rt r))])
    (h : wpList Tryd.prog ops Q rest (a.put o.dst (.slice (some ⟨w.heap.size, 0, none⟩) 1 1)) (w.alloc (.cells (rt r) 170))) : wpList Tryd.prog ops Q (o :: rest) a w := by
  have h1 : (Tryd.prog.info? 170).map (·.size) = some 19 := by kernel_rfl
  have h2 : (Tryd.prog.info? 170).bind (·.zero) = some (.agg lit19) := by kernel_rfl
  cases hie : Tryd.prog.info? 170 with
  | none => rw [hie] at h1; cases h1
  | some ie =>
    rw [hie] at h1 h2
    simp only [Option.map_some, Option.some.injEq, Option.bind_some] at h1 h2
    refine wpList_buildSlice hg 27 170 1 parts ho (rt r) ie (.agg lit19) Tryd.underlying27 hie h2 (by rw [h1]; decide) (by rw [h1]; decide) ?_ h
    rw [hp, h1]
    exact fill_route hr
theorem rt_one_mem {r : Rt} : ∀ u ∈ (rt r).toList, u.oneCell' = true := fun u hu => Array.all_eq_true_iff_forall_mem.1 (rt_one r) u (by simpa using hu)
def lenOf : Value → Nat
  | .slice _ n _ => n
  | _ => 0
end Go.Proofs.YtngeldgohijheaaDoor
