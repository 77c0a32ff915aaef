/- Maps keyed by routes -/
import Derived.Test.YtmicpiaflgfojaaRUn
import Derived.Test.YtmicpiaflgfojaaApAt
import Derived.Maps.OwnIn
import Derived.Maps.Views
import Derived.DeepKeys4
import Derived.DataBytes
namespace Go.Proofs.Ytmicpiaflgfojaa
open Go.RowKit Go.Maps

set_option maxRecDepth 100000 in
theorem cells_rt : Try.prog.cellsOf 31 = 19 := by kernel_rfl
set_option maxRecDepth 100000 in
theorem cells_pf : Try.prog.cellsOf 29 = 18 := by kernel_rfl
set_option maxRecDepth 100000 in
theorem cells_ar : Try.prog.cellsOf 27 = 16 := by kernel_rfl
set_option maxRecDepth 100000 in
theorem cells_u8 : Try.prog.cellsOf 5 = 1 := by kernel_rfl
set_option maxRecDepth 100000 in
theorem cells_u32 : Try.prog.cellsOf 26 = 1 := by kernel_rfl
set_option maxRecDepth 100000 in
theorem cells_int : Try.prog.cellsOf 3 = 1 := by kernel_rfl
set_option maxRecDepth 100000 in
theorem laidOutK : laidOutB Try.prog = true := by kernel_rfl
set_option maxRecDepth 100000 in
theorem rt_rowK : (31 : TypeId) < Try.prog.types.size := of_decide_eq_true (by kernel_rfl)
set_option maxRecDepth 100000 in
theorem rt_keyed : Keyed Try.prog 31 := Keyed.of_law (deep_law_laid laidOutK (m := 4) (by omega) rt_rowK (by kernel_rfl) (by rw [Try.underlying31]))
set_option maxRecDepth 100000 in
theorem kl_int (d : Nat) {t : TypeId} {q : IntKind} (ht : Try.prog.underlying t = some (.int q)) {x : Int} (h : (Lit.int q x).wf = true) : Try.prog.keyLits (d + 1) t [.int q x] = some [.int q x] := by
  unfold Program.keyLits
  simp [ht, h]
theorem wf_u8_mk {x : Int} (h : 0 ≤ x ∧ x ≤ 255) : (Lit.int .u8 x).wf = true := by
  simp only [Lit.wf, Bool.and_eq_true, decide_eq_true_eq]
  have h1 : IntKind.u8.min = 0 := rfl
  have h2 : IntKind.u8.max = 255 := rfl
  omega
set_option maxRecDepth 100000 in
theorem kl_arr (d : Nat) {a : List Int} (ha : IsAddr a) : ∃ L, Try.prog.keyLits (d + 2) 27 (a.map (Value.int .u8)) = some L := by
  unfold Program.keyLits
  rw [Try.underlying27]
  simp only [cells_ar, cells_u8]
  rw [if_pos (by rw [List.length_map]; exact ha.1), mapM_some_of_forall (g := fun i => [Lit.int .u8 (nth a i)]) _ (fun i hi => ?_)]
  · exact ⟨_, rfl⟩
  · rw [List.mem_range] at hi
    have hl : i < a.length := by rw [ha.1]; exact hi
    have e : ((a.map (Value.int .u8)).drop (i * 1)).take 1 = [.int .u8 (nth a i)] := by
      rw [Nat.mul_one, ← List.map_drop, drop_nth hl]
      simp
    rw [e]
    exact kl_int d Try.underlying5 (wf_u8_mk (ha.2 _ (nth_mem hl)))
/-- Its numbers are numbers of their types. -/
def KR (r : Rt) : Prop := (Lit.int .i64 r.f).wf = true ∧ (Lit.int .i64 r.l).wf = true
set_option maxRecDepth 100000 in
theorem kl_pfx (d : Nat) {r : Rt} (ho : r.Ok) (hk : KR r) : ∃ L, Try.prog.keyLits (d + 3) 29 (pfx r.f r.l r.a).toList = some L := by
  obtain ⟨L, hL⟩ := kl_arr d ho.1
  have h1 := kl_int (d + 1) Try.underlying3 hk.1
  have h2 := kl_int (d + 1) Try.underlying3 hk.2
  have e : (pfx r.f r.l r.a).toList = .int .i64 r.f :: .int .i64 r.l :: r.a.map (Value.int .u8) := by simp [pfx, arr]
  have hl : (r.a.map (Value.int .u8)).length = 16 := by rw [List.length_map]; exact ho.1.1
  have ht : (r.a.map (Value.int .u8)).take 16 = r.a.map (Value.int .u8) := by rw [← hl, List.take_length]
  rw [e]
  unfold Program.keyLits
  rw [Try.underlying29]
  simp [cells_pf, cells_ar, cells_int, hl, List.mapM_cons, ht, h1, h2, hL]
set_option maxRecDepth 100000 in
theorem kl_rt (d : Nat) {r : Rt} (ho : r.Ok) (hk : KR r) : ∃ L, Try.prog.keyLits (d + 4) 31 (rt r).toList = some L := by
  obtain ⟨L, hL⟩ := kl_pfx d ho hk
  have hp := ho.2
  have h1 := kl_int (d + 2) Try.underlying26 (x := r.p) (q := .u32) (by
    simp only [Lit.wf, Bool.and_eq_true, decide_eq_true_eq]
    have h1 : IntKind.u32.min = 0 := rfl
    have h2 : IntKind.u32.max = 4294967295 := rfl
    omega)
  have e : (rt r).toList = .int .u32 r.p :: (pfx r.f r.l r.a).toList := by simp [rt]
  have hl : (pfx r.f r.l r.a).toList.length = 18 := by rw [Array.length_toList, pfx_size ho.1.1]
  have ht : (pfx r.f r.l r.a).toList.take 18 = (pfx r.f r.l r.a).toList := by rw [← hl, List.take_length]
  rw [e]
  generalize (pfx r.f r.l r.a).toList = P at *
  unfold Program.keyLits
  rw [Try.underlying31]
  simp [cells_rt, cells_pf, cells_u32, hl, List.mapM_cons, ht, h1, hL]
set_option maxRecDepth 100000 in
theorem rt_key {r : Rt} (ho : r.Ok) (hk : KR r) : ∃ kl, keyOf Try.prog 31 (.agg (rt r)) = some kl := by
  obtain ⟨m, hm⟩ : ∃ m, Try.prog.types.size + 1 = m + 4 := by
    have h4 : 3 < Try.prog.types.size := of_decide_eq_true (by kernel_rfl)
    exact ⟨Try.prog.types.size - 3, by omega⟩
  have h1 : Try.prog.keyType 31 = true := by kernel_rfl
  have h2 : (Value.agg (rt r)).formed Try.prog 31 = true := by
    simp [Value.formed, cells_rt, rt_size ho.1.1]
  unfold keyOf
  rw [Try.underlying31]
  dsimp only
  rw [h1, h2]
  simp only [Bool.and_self, if_true]
  obtain ⟨L, hL⟩ := kl_rt m ho hk
  rw [hm]
  show ∃ kl, Option.map _ (Try.prog.keyLits (m + 4) 31 (rt r).toList) = some kl
  rw [hL]
  exact ⟨_, rfl⟩
noncomputable def kr (r : Rt) : Lit := (keyOf Try.prog 31 (.agg (rt r))).getD (.bool false)
set_option maxRecDepth 100000 in
theorem kr_some {r : Rt} (ho : r.Ok) (hk : KR r) : keyOf Try.prog 31 (.agg (rt r)) = some (kr r) := by
  obtain ⟨kl, h⟩ := rt_key ho hk
  unfold kr
  rw [h]
  rfl
theorem rt_inj {r q : Rt} (hr : r.Ok) (hq : q.Ok) (h : rt r = rt q) : r = q := by
  have h0 := congrArg (fun a => a[0]?) h
  have h1 := congrArg (fun a => a[1]?) h
  have h2 := congrArg (fun a => a[2]?) h
  simp only [rt_0, rt_1, rt_2, Option.some.injEq, Value.int.injEq, true_and] at h0 h1 h2
  have h3 : r.a = q.a := by
    apply List.ext_getElem?
    intro i
    by_cases hi : i < 16
    · have h4 := congrArg (fun a => a[1 + (i + 2)]?) h
      have e : ∀ x : Rt, x.Ok → (rt x)[1 + (i + 2)]? = some (.int .u8 (nth x.a i)) := fun x hx => by
        rw [rt_at, Nat.add_comm i 2, pfx_at, arr_get (by rw [hx.1.1]; exact hi)]
      simp only [e r hr, e q hq, Option.some.injEq, Value.int.injEq, true_and] at h4
      have hri : i < r.a.length := by rw [hr.1.1]; exact hi
      have hqi : i < q.a.length := by rw [hq.1.1]; exact hi
      unfold nth at h4
      rw [List.getElem?_eq_getElem hri, List.getElem?_eq_getElem hqi]
      simpa [List.getD, List.getElem?_eq_getElem hri, List.getElem?_eq_getElem hqi] using h4
    · rw [List.getElem?_eq_none (by rw [hr.1.1]; omega), List.getElem?_eq_none (by rw [hq.1.1]; omega)]
  obtain ⟨p, f, l, a⟩ := r
  obtain ⟨p', f', l', a'⟩ := q
  simp only [] at h0 h1 h2 h3
  rw [h0, h1, h2, h3]
set_option maxRecDepth 100000 in
theorem kr_inj {r q : Rt} (hr : r.Ok) (kr1 : KR r) (hq : q.Ok) (kq : KR q) : kr r = kr q ↔ rtEq q r = true := by
  rw [rtEq_iff]
  constructor
  · intro h
    have := rt_keyed.inj (kr_some hr kr1) (h ▸ kr_some hq kq)
    exact (rt_inj hr hq (Value.agg.inj this)).symm
  · rintro rfl
    rfl
set_option maxRecDepth 100000 in
theorem kr_isKey {r : Rt} (ho : r.Ok) (hk : KR r) : WideAt.IsKeyLit (kr r) := rt_keyed.key (kr_some ho hk)
attribute [irreducible] kr
/-- The map holds just the routes that came. -/
def MetR (D : DataW Unit) (pre : List Rt) : Prop := IsMap D ∧ ∀ t : Rt, t.Ok → KR t → D.atKey (kr t) (.lit (.bool false)) = .lit (.bool (pre.any (fun q => rtEq q t)))
theorem MetR.nil : MetR (.map []) [] := ⟨⟨_, rfl⟩, fun _ _ _ => rfl⟩
set_option maxRecDepth 100000 in
theorem MetR.put {D : DataW Unit} {pre : List Rt} (h : MetR D pre) {x : Rt} (hx : x.Ok) (hk : KR x) : MetR (D.put (kr x) (.lit (.bool true))) (pre ++ [x]) := by
  refine ⟨h.1.put _ _, fun t ht kt => ?_⟩
  rw [List.any_append]
  by_cases e : kr t = kr x
  · rw [e, atKey_put_same h.1 (kr_isKey hx hk)]
    have := (kr_inj ht kt hx hk).1 e
    simp [this]
  · rw [atKey_put_other e, h.2 t ht kt]
    have h1 : rtEq x t = false := by
      cases hh : rtEq x t
      · rfl
      · exact absurd ((kr_inj ht kt hx hk).2 hh) e
    simp [h1]
set_option maxRecDepth 100000 in
theorem look_metR {w : World} {b n : Nat} {D : DataW Unit} {pre : List Rt} (h : w.ownsMap Try.prog 31 (plainElem Try.prog 4) b n D) (hD : MetR D pre) {x : Rt} (hx : x.Ok) (hk : KR x) :
    (Instr.lookup 54 (.map (some b)) (.agg (rt x)) false).run Try.prog w = .ok (.bool (pre.any (fun q => rtEq q x))) w := by
  obtain ⟨v, ps, hrun, hv⟩ := h.lookup rt_keyed Try.underlying54 (z := .bool false) (zd := .lit (.bool false)) (zp := []) (by kernel_rfl) (plainElem_bool Try.underlying4 false) (kr_some hx hk)
  rw [hD.2 x hx hk] at hv
  unfold plainElem at hv
  rw [Try.underlying4] at hv
  cases v <;> simp at hv
  rw [hrun, hv.1]
/-- Without repetitions, twice is once. -/
theorem uniqR_snoc (L : List Rt) (x : Rt) : uniqR (L ++ [x]) = if (uniqR L).any (fun q => rtEq q x) = true then uniqR L else uniqR L ++ [x] := by unfold uniqR; rw [List.foldl_append]; rfl
theorem any_rt (L : List Rt) (x : Rt) : L.any (fun q => rtEq q x) = true ↔ x ∈ L := by
  rw [List.any_eq_true]
  constructor
  · rintro ⟨q, hq, he⟩
    rw [rtEq_iff.1 he] at hq
    exact hq
  · intro h
    exact ⟨x, h, rtEq_iff.2 rfl⟩
theorem rsnoc_ind {p : List Rt → Prop} (h0 : p []) (h1 : ∀ L x, p L → p (L ++ [x])) : ∀ L, p L := by
  intro L
  have : ∀ n, ∀ L : List Rt, L.length = n → p L := by
    intro n
    induction n with
    | zero => intro L hL; rw [List.eq_nil_of_length_eq_zero hL]; exact h0
    | succ n ih =>
      intro L hL
      have hne : L ≠ [] := by rintro rfl; simp at hL
      rw [← List.dropLast_concat_getLast hne]
      exact h1 _ _ (ih _ (by rw [List.length_dropLast, hL]; rfl))
  exact this _ L rfl
theorem uniqR_iff (L : List Rt) (x : Rt) : x ∈ uniqR L ↔ x ∈ L := by
  induction L using rsnoc_ind with
  | h0 => exact Iff.rfl
  | h1 L y ih =>
    rw [uniqR_snoc]
    by_cases hy : (uniqR L).any (fun q => rtEq q y) = true
    · rw [if_pos hy, ih, List.mem_append, List.mem_singleton]
      constructor
      · exact .inl
      · rintro (h | rfl)
        · exact h
        · exact ih.1 ((any_rt _ _).1 hy)
    · rw [if_neg hy, List.mem_append, List.mem_append, ih]
theorem uniqR_app (L : List Rt) : ∀ M, (∀ x ∈ M, x ∈ L) → uniqR (L ++ M) = uniqR L := by
  intro M
  induction M using rsnoc_ind with
  | h0 => intro _; rw [List.append_nil]
  | h1 M y ih =>
    intro h
    rw [← List.append_assoc, uniqR_snoc, ih (fun x hx => h x (List.mem_append_left _ hx)), if_pos]
    rw [any_rt, uniqR_iff]
    exact h y (by simp)
theorem uniqR_nd {L : List Rt} (h : L.Nodup) : uniqR L = L := by
  induction L using rsnoc_ind with
  | h0 => rfl
  | h1 L y ih =>
    rw [List.nodup_append] at h
    rw [uniqR_snoc, ih h.1, if_neg]
    rw [any_rt]
    exact fun hy => h.2.2 y hy y (by simp) rfl
theorem uniqR_nodup (L : List Rt) : (uniqR L).Nodup := by
  induction L using rsnoc_ind with
  | h0 => exact List.nodup_nil
  | h1 L y ih =>
    rw [uniqR_snoc]
    split
    · exact ih
    · rename_i hy
      rw [any_rt] at hy
      rw [List.nodup_append]
      refine ⟨ih, by simp, ?_⟩
      intro a ha b hb e
      rw [List.mem_singleton] at hb
      subst hb
      subst e
      exact hy ha
theorem uniqR_uniqR (L : List Rt) : uniqR (uniqR L) = uniqR L := uniqR_nd (uniqR_nodup L)
theorem uniqR_two (L : List Rt) : uniqR (L ++ L) = uniqR L := uniqR_app L L (fun _ h => h)
end Go.Proofs.Ytmicpiaflgfojaa
