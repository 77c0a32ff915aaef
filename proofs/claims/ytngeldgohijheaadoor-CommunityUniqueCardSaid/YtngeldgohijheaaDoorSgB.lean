/- segment.Same and its reference -/
import Derived.Test.YtngeldgohijheaaDoorSgA
namespace Go.Proofs.YtngeldgohijheaaDoor
open Go.RowKit

/-- What Same compares of a segment. -/
def sgK (s : Sg) : Int × List Int := (s.k, s.xs)
theorem sgtake_step {ss ts : List Sg} {k : Nat} (hk : k < ss.length) (hk' : k < ts.length) (h : (ss.map sgK).take k = (ts.map sgK).take k) (e : sgK (sgth ss k) = sgK (sgth ts k)) : (ss.map sgK).take (k + 1) = (ts.map sgK).take (k + 1) := by
  rw [List.take_add_one, List.take_add_one, h, List.getElem?_map, List.getElem?_map, sgth_some hk, sgth_some hk', Option.map_some, Option.map_some, e]
theorem sgne {ss ts : List Sg} {k : Nat} (hk : k < ss.length) (hk' : k < ts.length) (e : sgK (sgth ss k) ≠ sgK (sgth ts k)) : ss.map sgK ≠ ts.map sgK := fun h => e (by
  have h2 := congrArg (fun l => l[k]?) h
  simpa [List.getElem?_map, sgth_some hk, sgth_some hk'] using h2)
set_option maxRecDepth 100000 in
theorem u32eq_any (A A' : Option Addr) (n n' c c' : Nat) (xs ys : List Int) (w : World) (B B' : Nat) (hx : U32s w B A n xs) (hy : U32s w B' A' n' ys) (hn : n ≤ 1000000000) (hn' : n' ≤ 1000000000) :
    Calls Tryd.prog 18 #[.slice A n c, .slice A' n' c'] w fun e w' => e = .returned (.bool (decide (xs = ys))) ∧ ∃ m, w.drewN m = w' := by
  have HN := Lib.hid hx.1
  have HN' := Lib.hid hy.1
  by_cases hne : n = n'
  · subst hne
    go_enter Tryd.func18, Tryd.ntmps18
    go_wp2
    go_loopw [4, 5, 13] (fun _ _ i wr => ∃ (k m : Nat), k ≤ n ∧ i = .int .i64 k ∧ xs.take k = ys.take k ∧ wr = w.drewN m) (fun _ _ i _ => n - (intOf i).toNat)
    case atStart => exact ⟨0, 0, Nat.zero_le _, rfl, by simp, rfl⟩
    case round =>
      obtain ⟨k, m, hk, rfl, heq, rfl⟩ := hrel
      have HEQ := Lib.hid heq
      clear heq
      by_cases hlt : k < n
      · obtain ⟨b, o, rfl, hb, hc⟩ := hx.at_ hlt
        obtain ⟨b', o', rfl, hb', hc'⟩ := hy.at_ hlt
        have hkx : k < xs.length := HN.out ▸ hlt
        have hky : k < ys.length := HN'.out ▸ hlt
        by_cases he : nth xs k = nth ys k
        · have he1 : (nth xs k != nth ys k) = false := by simp [he]
          have HE := Lib.hid he
          clear he
          go_wp2
          go_quiet (fail)
          go_wp2
          go_roundw
          case rel => exact ⟨k + 1, _, by omega, by go_num, take_eq_succ hkx hky HEQ.out HE.out, rfl⟩
          case measure => simp [intOf]; omega
        · have he1 : (nth xs k != nth ys k) = true := by simp [he]
          have HE := Lib.hid he
          clear he
          go_wp2
          go_quiet (fail)
          go_wp2
          go_ret
          exact ⟨by rw [decide_eq_false (ne_of_nth HE.out)]; rfl, m + nq, by simp⟩
      · have e : xs = ys := by
          have h1 := HN.out
          have h2 := HN'.out
          have h3 := HEQ.out
          rw [List.take_of_length_le (by omega), List.take_of_length_le (by omega)] at h3
          exact h3
        have HE := Lib.hid e
        clear e
        go_wp2
        go_ret
        exact ⟨by rw [decide_eq_true HE.out]; rfl, _, rfl⟩
  · have he1 : ((n : Int) != (n' : Int)) = true := by rw [bne_iff_ne]; omega
    have e : xs ≠ ys := by
      rintro rfl
      exact hne (HN.out.trans HN'.out.symm)
    clear hne
    go_enter Tryd.func18, Tryd.ntmps18
    go_wp2
    go_ret
    exact ⟨by rw [decide_eq_false e]; rfl, 0, rfl⟩
theorem sgK_ne {k k' : Int} {A A' : Option Addr} {n n' c c' : Nat} {xs xs' : List Int} (h : ¬ (k = k' ∧ xs = xs')) : sgK ⟨k, A, n, c, xs⟩ ≠ sgK ⟨k', A', n', c', xs'⟩ := fun e => h (Prod.mk.injEq .. ▸ e)
theorem sgK_eq {k k' : Int} {A A' : Option Addr} {n n' c c' : Nat} {xs xs' : List Int} (h : k = k' ∧ xs = xs') : sgK ⟨k, A, n, c, xs⟩ = sgK ⟨k', A', n', c', xs'⟩ := by
  obtain ⟨rfl, rfl⟩ := h
  rfl
theorem segs_u32 {w : World} {B n : Nat} {A : Option Addr} {ss : List Sg} (h : Segs w B A n ss) {k : Nat} (hk : k < ss.length) : U32s w B (sgth ss k).A (sgth ss k).n (sgth ss k).xs := (h.2.1 _ (sgth_mem hk)).2.2.2.2
end Go.Proofs.YtngeldgohijheaaDoor
