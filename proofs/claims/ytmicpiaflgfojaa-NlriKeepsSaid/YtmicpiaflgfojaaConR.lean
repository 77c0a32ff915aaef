/- slices.Grow of nil and slices.Concat, at routes -/
import Derived.Test.YtmicpiaflgfojaaGrow
import Derived.Test.YtmicpiaflgfojaaPut
import Derived.Test.YtmicpiaflgfojaaNd
import Derived.Lib.AppendZeros
namespace Go.Proofs.Ytmicpiaflgfojaa
open Go.RowKit

set_option maxRecDepth 100000 in
theorem rgrow_zero (w : World) : Calls Try.prog 16 #[.slice none 0 0, .int .i64 0] w fun e w' => e = .returned (.slice none 0 0) ∧ w = w' := by
  go_enter Try.func16, Try.ntmps16
  go_wp2
  go_ret
  exact ⟨rfl, rfl⟩
set_option maxRecDepth 100000 in
set_option maxHeartbeats 400000 in
theorem rgrow_some (k : Nat) (w : World) (h0 : 0 < k) (hk : k ≤ 1000000) : Calls Try.prog 16 #[.slice none 0 0, .int .i64 k] w fun e w' => ∃ v, e = .returned v ∧ w'.ownsRow w.heap.size 31 19 v 0 [] ∧ Below w.heap.size w w' := by
  have h1 : (0 : Int) < (k : Int) := by omega
  have hi0 : (Try.prog.info? 31).map (fun i => (i.zero, i.size, i.bytes)) = some (some (.agg lit19), 19, 40) := by kernel_rfl
  obtain ⟨i, hi, hz, hsz, hby⟩ := info_parts hi0
  have hr := Lib.run_append_nil_zeros (P := Try.prog) w 22 3 22 31 i (.agg lit19) .i64 .i64 Try.underlying22 Try.underlying3 hi hz k h0 (by omega) (by omega) (by rw [hby]; omega)
  have hge := grownCap_ge w k 0 31
  have hle := grownCap_le_maxLen w k 0 31 (by unfold maxLen; omega)
  have HR := Lib.hid hr
  have HG := Lib.hid (And.intro hge hle)
  clear hr hge hle hi0 hi hz hsz hby
  go_enter Try.func16, Try.ntmps16
  go_wp2_with (at_builtin; refine Lib.wpList_append_run _ rfl _ _ 22 3 rfl _ _ rfl rfl _ _ HR.out ?_)
  go_ret
  obtain ⟨hge, hle⟩ := HG.out
  refine ⟨_, rfl, ?_, (bl_alloc (bl_refl w) _).drew⟩
  exact World.ownsRow_made w.drew _ _ (Nat.le_refl _) hle (by
    rw [Array.size_append, size_zeroCells, size_zeroCells, ← Nat.add_mul, Nat.add_sub_cancel' hge]; rfl)


/-- A slice of routes as a value, with what it holds. -/
structure RPart where
  a : Option Addr
  n : Nat
  c : Nat
  xs : List Rt
def RPart.v (p : RPart) : Value := .slice p.a p.n p.c
def RPart.ok (w : World) (B : Nat) (p : RPart) : Prop := Routes w B p.a p.n p.xs
def rflat (ps : List RPart) : List Rt := ps.flatMap RPart.xs
def rpth (ps : List RPart) (k : Nat) : RPart := ps.getD k ⟨none, 0, 0, []⟩
theorem rpth_some {ps : List RPart} {k : Nat} (h : k < ps.length) : ps[k]? = some (rpth ps k) := by simp [rpth, h]
theorem rpth_mem {ps : List RPart} {k : Nat} (h : k < ps.length) : rpth ps k ∈ ps := List.mem_of_getElem? (rpth_some h)
theorem rflat_take {ps : List RPart} {k : Nat} (h : k < ps.length) : rflat (ps.take (k + 1)) = rflat (ps.take k) ++ (rpth ps k).xs := by
  unfold rflat
  rw [List.take_add_one, rpth_some h]; simp
def RParts (w : World) (B : Nat) (A : Option Addr) (n : Nat) (ps : List RPart) : Prop :=
  n = ps.length ∧ (∀ p ∈ ps, p.ok w B) ∧ Shows w B A (ps.map RPart.v)
theorem RParts.at_ {w : World} {B : Nat} {A : Option Addr} {n : Nat} {ps : List RPart} (h : RParts w B A n ps) {k : Nat} (hk : k < n) :
    ∃ b o, A = some ⟨b, o, none⟩ ∧ b < B ∧ w.cell? ⟨b, o + k, none⟩ = some (.slice (rpth ps k).a (rpth ps k).n (rpth ps k).c) ∧ Routes w B (rpth ps k).a (rpth ps k).n (rpth ps k).xs := by
  obtain ⟨hn, hp, hs⟩ := h
  have hk' : k < ps.length := by omega
  have e2 : (ps.map RPart.v)[k]? = some (.slice (rpth ps k).a (rpth ps k).n (rpth ps k).c) := by rw [List.getElem?_map, rpth_some hk']; rfl
  obtain ⟨b, o, hA, hb, hc⟩ := hs.at_ e2
  exact ⟨b, o, hA, hb, hc, hp _ (rpth_mem hk')⟩
theorem rflat_len_take (ps : List RPart) (k : Nat) : (rflat (ps.take k)).length ≤ (rflat ps).length := by
  have : rflat ps = rflat (ps.take k) ++ rflat (ps.drop k) := by unfold rflat; rw [← List.flatMap_append, List.take_append_drop]
  rw [this, List.length_append]; omega
theorem RParts.below {w w' : World} {B : Nat} {A : Option Addr} {n : Nat} {ps : List RPart} (h : RParts w B A n ps) (hb : Below B w w') : RParts w' B A n ps :=
  ⟨h.1, fun p hp => (h.2.1 p hp).below hb, h.2.2.below hb⟩
def rlenTo (ps : List RPart) (k : Nat) : Nat := (rflat (ps.take k)).length
theorem rlenTo_succ {ps : List RPart} {w : World} {B k : Nat} (h : k < ps.length) (hp : ∀ p ∈ ps, p.ok w B) : rlenTo ps (k + 1) = rlenTo ps k + (rpth ps k).n := by
  unfold rlenTo; rw [rflat_take h, List.length_append, (hp _ (rpth_mem h)).1]
theorem rlenTo_le (ps : List RPart) (k : Nat) : rlenTo ps k ≤ (rflat ps).length := rflat_len_take ps k
theorem rlenTo_all (ps : List RPart) : rlenTo ps ps.length = (rflat ps).length := by unfold rlenTo; rw [List.take_length]
theorem flatR_append (a b : List Rt) : flatR (a ++ b) = flatR a ++ flatR b := by simp [flatR]
theorem flatR_len {rs : List Rt} (h : ∀ r ∈ rs, r.Ok) : (flatR rs).length = rs.length * 19 := by
  induction rs with
  | nil => rfl
  | cons r rs ih =>
    have h1 : (rt r).toList.length = 19 := by rw [Array.length_toList, rt_size (h r (List.mem_cons_self ..)).1.1]
    have h2 := ih (fun q hq => h q (List.mem_cons_of_mem _ hq))
    have e : flatR (r :: rs) = (rt r).toList ++ flatR rs := by simp [flatR]
    rw [e, List.length_append, h1, h2, List.length_cons]; omega
theorem flatR_one (rs : List Rt) : ∀ u ∈ flatR rs, u.oneCell' = true := by
  intro u hu
  obtain ⟨r, _, hr⟩ := List.mem_flatMap.1 hu
  exact rt_one_mem u hr
theorem flatR_at {rs : List Rt} (h : ∀ r ∈ rs, r.Ok) {j : Nat} {v : Value} (hv : (flatR rs)[j]? = some v) : ∃ r, rs[j / 19]? = some r ∧ (rt r).toList[j % 19]? = some v := by
  have hj := (List.getElem?_eq_some_iff.1 hv).1
  rw [flatR_len h] at hj
  have hi : j / 19 < rs.length := by omega
  have hr := nthR_some hi
  have hok := h _ (nthR_mem hi)
  have hl : j % 19 < (rt (nthR rs (j / 19))).toList.length := by rw [Array.length_toList, rt_size hok.1.1]; omega
  refine ⟨_, hr, ?_⟩
  have h3 := flatR_get h (j / 19) _ hr (j % 19) _ (List.getElem?_eq_getElem hl)
  rw [show j / 19 * 19 + j % 19 = j by omega, hv] at h3
  rw [List.getElem?_eq_getElem hl, h3]
theorem Routes.shows {w : World} {B : Nat} {A : Option Addr} {n : Nat} {rs : List Rt} (h : Routes w B A n rs) : Shows w B A (flatR rs) := by
  obtain ⟨hn, ho, h0 | ⟨b, o, hA, hb, hc⟩⟩ := h
  · subst h0; exact .inl rfl
  · refine .inr ⟨b, o, hA, hb, fun j v hv => ?_⟩
    obtain ⟨r, hr, hrv⟩ := flatR_at ho hv
    have := hc _ _ hr _ _ hrv
    rw [show o + j / 19 * 19 + j % 19 = o + j by omega] at this
    exact this

set_option maxRecDepth 100000 in
set_option maxHeartbeats 800000 in
theorem rconcat_any (A : Option Addr) (n c : Nat) (ps : List RPart) (w : World) (hx : RParts w w.heap.size A n ps) (hn : n ≤ 1000000) (hl : (rflat ps).length ≤ 1000000) :
    Calls Try.prog 9 #[.slice A n c] w fun e w' => ∃ v, e = .returned v ∧
      w'.ownsRow w.heap.size 31 19 v (rflat ps).length (flatR (rflat ps)) ∧ Below w.heap.size w w' := by
  have HN := Lib.hid hx.1
  go_enter Try.func9, Try.ntmps9
  go_wp2
  go_loop [3, 11] (fun s i => ∃ j : Nat, j ≤ n ∧ i = .int .i64 j ∧ s = .int .i64 (rlenTo ps j)) (fun _ i => n - (intOf i).toNat)
  case atStart => exact ⟨0, Nat.zero_le _, rfl, by simp [rlenTo, rflat]⟩
  case round =>
    obtain ⟨j, hj, rfl, rfl⟩ := hrel
    have h1 := rlenTo_le ps j
    have h2 := rlenTo_le ps (j + 1)
    by_cases hlt : j < n
    · have hjl : j < ps.length := HN.out ▸ hlt
      have hs := rlenTo_succ hjl hx.2.1
      have h4 : rlenTo ps j + (rpth ps j).n ≤ 1000000 := by omega
      have hneg : ¬ ((rlenTo ps j : Int) + ((rpth ps j).n : Int) < 0) := by omega
      have HS := Lib.hid hs
      clear hs
      obtain ⟨bb, o, rfl, hbb, hc, hB⟩ := hx.at_ hlt
      clear hB
      go_wp2
      go_round
      case rel => exact ⟨j + 1, by omega, by go_num, by rw [HS.out]; go_num⟩
      case measure => simp [intOf]; omega
    · have e2 : rlenTo ps j = (rflat ps).length := by rw [show j = ps.length by have := HN.out; omega, rlenTo_all]
      have HE := Lib.hid e2
      clear e2
      have GR : Calls Try.prog 16 #[.slice none 0 0, .int .i64 (rlenTo ps j)] w fun e w' => ∃ v, e = .returned v ∧ w'.ownsRow w.heap.size 31 19 v 0 [] ∧ Below w.heap.size w w' := by
        rcases Nat.eq_zero_or_pos (rlenTo ps j) with h | h
        · rw [h]
          exact (rgrow_zero w).mono fun _ _ ⟨he, hw⟩ => ⟨_, he, by rw [← hw]; exact World.ownsRow_nil _ _ _ _, by rw [← hw]; exact bl_refl w⟩
        · exact rgrow_some _ w h (by omega)
      have HG := Lib.hid GR
      clear GR
      go_wp2_with fail
      refine HG.out.mono ?_
      rintro e w1 ⟨v, rfl, hown1, hb1⟩
      have HX := Lib.hid hx
      clear hx
      go_wp2
      go_loopw [6, 27] (fun v i wr => ∃ j : Nat, j ≤ n ∧ i = .int .i64 j ∧
        wr.ownsRow w.heap.size 31 19 v (rlenTo ps j) (flatR (rflat (ps.take j))) ∧ Below w.heap.size w wr) (fun _ i _ => n - (intOf i).toNat)
      case atStart => exact ⟨0, Nat.zero_le _, rfl, by simpa [rlenTo, rflat, flatR] using hown1, hb1⟩
      case round =>
        obtain ⟨j, hj, rfl, hown, hb⟩ := hrel
        clear hown1 hb1
        have h1 := rlenTo_le ps j
        have h2 := rlenTo_le ps (j + 1)
        by_cases hlt : j < n
        · have hjl : j < ps.length := HN.out ▸ hlt
          have hs := rlenTo_succ hjl HX.out.2.1
          have h4 : rlenTo ps j + (rpth ps j).n ≤ 1000000 := by omega
          have HS := Lib.hid hs
          clear hs
          obtain ⟨bb, o, rfl, hbb, hc, hB⟩ := (HX.out.below hb).at_ hlt
          have HB := Lib.hid hB
          clear hB
          go_wp2_with (at_builtin; refine wpList_append_grow _ rfl _ _ rfl sl_routes w.heap.size _ (rlenTo ps j) _ rfl hown w.heap.size _ _ _ _ rfl (by rw [flatR_len HB.out.2.1, ← HB.out.1]) HB.out.shows (flatR_one _) (by unfold maxLen; omega) (by omega) hb.size ?_; intro v1 w1 hown1 hgrow1)
          have hb1 : Below w.heap.size w w1 := hb.grown hgrow1 hb.size (own_base hown)
          go_roundw
          case rel =>
            refine ⟨j + 1, by omega, by go_num, ?_, hb1⟩
            rw [HS.out, rflat_take hjl, flatR_append]
            exact hown1
          case measure => simp [intOf]; omega
        · have e2 : rlenTo ps j = (rflat ps).length := by rw [show j = ps.length by have := HN.out; omega, rlenTo_all]
          have e3 : rflat (ps.take j) = rflat ps := by rw [show j = ps.length by have := HN.out; omega, List.take_length]
          have HF := Lib.hid (And.intro e2 e3)
          clear e2 e3
          go_wp2
          go_ret
          obtain ⟨f1, f2⟩ := HF.out
          rw [f1, f2] at hown
          exact ⟨_, rfl, hown, hb⟩
end Go.Proofs.Ytmicpiaflgfojaa
