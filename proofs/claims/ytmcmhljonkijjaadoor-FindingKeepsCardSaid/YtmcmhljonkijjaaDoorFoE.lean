/- slices.Grow of nil and slices.Concat, at verdicts -/
import Derived.Test.YtmcmhljonkijjaaDoorGrow
import Derived.Test.YtmcmhljonkijjaaDoorFoD
import Derived.Lib.AppendZeros
namespace Go.Proofs.YtmcmhljonkijjaaDoor
open Go.RowKit

def flatV (vs : List Vd) : List Value := vs.flatMap fun v => (vdc v).toList
/-- A slice of routes as a value, with what it holds. -/
structure VPart where
  a : Option Addr
  n : Nat
  c : Nat
  xs : List Vd
def VPart.v (p : VPart) : Value := .slice p.a p.n p.c
def VPart.ok (w : World) (B : Nat) (p : VPart) : Prop := Vds w B p.a p.n p.xs
def vflat (ps : List VPart) : List Vd := ps.flatMap VPart.xs
def vpth (ps : List VPart) (k : Nat) : VPart := ps.getD k ⟨none, 0, 0, []⟩
theorem vpth_some {ps : List VPart} {k : Nat} (h : k < ps.length) : ps[k]? = some (vpth ps k) := by simp [vpth, h]
theorem vpth_mem {ps : List VPart} {k : Nat} (h : k < ps.length) : vpth ps k ∈ ps := List.mem_of_getElem? (vpth_some h)
theorem vflat_take {ps : List VPart} {k : Nat} (h : k < ps.length) : vflat (ps.take (k + 1)) = vflat (ps.take k) ++ (vpth ps k).xs := by
  unfold vflat
  rw [List.take_add_one, vpth_some h]; simp
def VParts (w : World) (B : Nat) (A : Option Addr) (n : Nat) (ps : List VPart) : Prop :=
  n = ps.length ∧ (∀ p ∈ ps, p.ok w B) ∧ Shows w B A (ps.map VPart.v)
theorem VParts.at_ {w : World} {B : Nat} {A : Option Addr} {n : Nat} {ps : List VPart} (h : VParts w B A n ps) {k : Nat} (hk : k < n) :
    ∃ b o, A = some ⟨b, o, none⟩ ∧ b < B ∧ w.cell? ⟨b, o + k, none⟩ = some (.slice (vpth ps k).a (vpth ps k).n (vpth ps k).c) ∧ Vds w B (vpth ps k).a (vpth ps k).n (vpth ps k).xs := by
  obtain ⟨hn, hp, hs⟩ := h
  have hk' : k < ps.length := by omega
  have e2 : (ps.map VPart.v)[k]? = some (.slice (vpth ps k).a (vpth ps k).n (vpth ps k).c) := by rw [List.getElem?_map, vpth_some hk']; rfl
  obtain ⟨b, o, hA, hb, hc⟩ := hs.at_ e2
  exact ⟨b, o, hA, hb, hc, hp _ (vpth_mem hk')⟩
theorem vflat_len_take (ps : List VPart) (k : Nat) : (vflat (ps.take k)).length ≤ (vflat ps).length := by
  have : vflat ps = vflat (ps.take k) ++ vflat (ps.drop k) := by unfold vflat; rw [← List.flatMap_append, List.take_append_drop]
  rw [this, List.length_append]; omega
theorem VParts.below {w w' : World} {B : Nat} {A : Option Addr} {n : Nat} {ps : List VPart} (h : VParts w B A n ps) (hb : Below B w w') : VParts w' B A n ps :=
  ⟨h.1, fun p hp => (h.2.1 p hp).below hb, h.2.2.below hb⟩
def vlenTo (ps : List VPart) (k : Nat) : Nat := (vflat (ps.take k)).length
theorem vlenTo_succ {ps : List VPart} {w : World} {B k : Nat} (h : k < ps.length) (hp : ∀ p ∈ ps, p.ok w B) : vlenTo ps (k + 1) = vlenTo ps k + (vpth ps k).n := by
  unfold vlenTo; rw [vflat_take h, List.length_append, (hp _ (vpth_mem h)).1]
theorem vlenTo_le (ps : List VPart) (k : Nat) : vlenTo ps k ≤ (vflat ps).length := vflat_len_take ps k
theorem vlenTo_all (ps : List VPart) : vlenTo ps ps.length = (vflat ps).length := by unfold vlenTo; rw [List.take_length]
theorem flatV_append (a b : List Vd) : flatV (a ++ b) = flatV a ++ flatV b := by simp [flatV]
theorem vdc_len (v : Vd) : (vdc v).toList.length = 5 := rfl
theorem flatV_len {vs : List Vd} : (flatV vs).length = vs.length * 5 := by
  induction vs with
  | nil => rfl
  | cons r rs ih =>
    have e : flatV (r :: rs) = (vdc r).toList ++ flatV rs := by simp [flatV]
    rw [e, List.length_append, ih, vdc_len, List.length_cons]; omega
theorem flatV_one (vs : List Vd) : ∀ u ∈ flatV vs, u.oneCell' = true := by
  intro u hu
  obtain ⟨r, _, hr⟩ := List.mem_flatMap.1 hu
  unfold vdc at hr
  simp only [List.mem_cons, List.not_mem_nil, or_false] at hr
  rcases hr with rfl | rfl | rfl | rfl | rfl <;> rfl
theorem flatV_get {vs : List Vd} : ∀ (i : Nat) (v : Vd), vs[i]? = some v → ∀ (j : Nat) (u : Value), (vdc v).toList[j]? = some u → (flatV vs)[i * 5 + j]? = some u := by
  induction vs with
  | nil => intro i v h; cases h
  | cons x xs ih =>
    intro i v h j u hu
    have e : flatV (x :: xs) = (vdc x).toList ++ flatV xs := by simp [flatV]
    have hj : j < 5 := (List.getElem?_eq_some_iff.1 hu).1
    cases i with
    | zero =>
      obtain rfl : x = v := by simpa using h
      rw [e, Nat.zero_mul, Nat.zero_add, List.getElem?_append_left hj]
      exact hu
    | succ i =>
      rw [e, List.getElem?_append_right (by rw [vdc_len]; omega), vdc_len, show (i + 1) * 5 + j - 5 = i * 5 + j by omega]
      exact ih i v (by simpa using h) j u hu
theorem flatV_at {vs : List Vd} {j : Nat} {u : Value} (hv : (flatV vs)[j]? = some u) : ∃ v, vs[j / 5]? = some v ∧ (vdc v).toList[j % 5]? = some u := by
  have hj := (List.getElem?_eq_some_iff.1 hv).1
  rw [flatV_len] at hj
  have hi : j / 5 < vs.length := by omega
  have hr := nthV_some hi
  have hl : j % 5 < (vdc (nthV vs (j / 5))).toList.length := by rw [vdc_len]; omega
  refine ⟨_, hr, ?_⟩
  have h3 := flatV_get (j / 5) _ hr (j % 5) _ (List.getElem?_eq_getElem hl)
  rw [show j / 5 * 5 + j % 5 = j by omega, hv] at h3
  rw [List.getElem?_eq_getElem hl, h3]
theorem Vds.shows {w : World} {B : Nat} {A : Option Addr} {n : Nat} {vs : List Vd} (h : Vds w B A n vs) : Shows w B A (flatV vs) := by
  obtain ⟨hn, ho, h0 | ⟨b, o, hA, hb, hc⟩⟩ := h
  · subst h0; exact .inl rfl
  · refine .inr ⟨b, o, hA, hb, fun j v hv => ?_⟩
    obtain ⟨r, hr, hrv⟩ := flatV_at hv
    have := hc _ _ hr _ _ hrv
    rw [show o + j / 5 * 5 + j % 5 = o + j by omega] at this
    exact this
set_option maxRecDepth 100000 in
theorem sl_vds : SliceOf Tryd.prog 34 40 5 56 := SliceOf.mk Tryd.underlying34 (z := .agg #[.int .i64 0, .int .i64 0, .int .i64 0, .slice none 0 0, .int .i64 0]) (by kernel_rfl) rfl (by decide)
/-- A row of verdicts of the call's own reads as a list of verdicts. -/
theorem own_vds {w : World} {base : Nat} {v : Value} {vs : List Vd} (h : w.ownsRow base 40 5 v vs.length (flatV vs)) (ho : ∀ x ∈ vs, x.Ok w w.heap.size) : ∃ A c, v = .slice A vs.length c ∧ Vds w w.heap.size A vs.length vs := by
  rcases h.2 with ⟨h1, h0⟩ | ⟨g, cap, cur, h1, hg, hc, h3, h4, h5, h6⟩
  · have hnil : vs = [] := List.length_eq_zero_iff.1 h0
    refine ⟨none, 0, by rw [h1, h0], rfl, ho, .inl hnil⟩
  · refine ⟨_, cap, h1, rfl, ho, .inr ⟨g, 0, rfl, (h.lt g (by rw [h1]; rfl)).2, fun i x hi j u hu => ?_⟩⟩
    have := h.cells (g := g) (by rw [h1]; rfl) _ _ (flatV_get i x hi j u hu)
    simpa [Addr.add_lit] using this

end Go.Proofs.YtmcmhljonkijjaaDoor
