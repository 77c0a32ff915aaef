/- peeragelaw01.alive -/
import Derived.Test.YtbojfoefelbakaaPut
import Derived.Deep.QuietTactic
import Derived.BigQuiet
namespace Go.Proofs.Ytbojfoefelbakaa
open Go.RowKit

theorem alive_any (w : World) : Calls Try.prog 9 #[] w fun e w' => e = .returned (.bool true) ∧ Below w.heap.size w w' := by
  go_enter Try.func9, Try.ntmps9
  go_wp2_with fail
  refine (put_yes 2 258 w (by omega) (by omega) (by omega) (by decide)).mono ?_
  rintro e w1 ⟨rfl, ho, hb1⟩
  have hs1 := hb1.size
  go_wp2_with fail
  refine (new_any _ _ _ [7, 8, 9, 10] _ (Bytes.of_owned (Own.new _ _ _) (by decide) (by simp)) (by simp)).mono ?_
  rintro e w2 ⟨g, rfl, hg, hr, hb2⟩
  have hb2' : Below w1.heap.size w1 w2 := ((Below.refl _ _).alloc (Nat.le_refl _) _).trans (hb2.mono (by simp))
  have hs2 := hb2'.size
  have ho2 := ho.below hb2' ho.lt
  clear hb2
  have hgl := hr.lt
  go_wp2_with fail
  refine (take_yes g [7, 8, 9, 10] 0 3 _ hr (by decide) (by decide) (by decide) (by decide)).mono ?_
  rintro e w3 ⟨j, rfl, hj, hoj, hr3, hg3⟩
  have ho3 := ho2.grown hg3 (by intro e; have := Option.some.inj e; have h1 := ho.lt; simp at hg; omega)
  have c0 := ho3.cell (i := 0) (v := .int .u8 1) rfl
  have c1 := ho3.cell (i := 1) (v := .int .u8 2) rfl
  have hb3 : Below w.heap.size w w3 := (hb1.trans (hb2'.mono hs1)).grown hg3 (by omega) (fun k hk => by cases hk; simp at hg; omega)
  have hr4 : Rdr w3 g [10] 3 := hr3
  go_wp2_with fail
  refine (at_any _ _ _ _ hr4).mono ?_
  rintro e w' ⟨rfl, rfl⟩
  go_wp2_with fail
  refine (left_any _ _ _ _ hr4).mono ?_
  rintro e w' ⟨rfl, rfl⟩
  go_wp2
  go_ret
  exact ⟨rfl, hb3⟩
end Go.Proofs.Ytbojfoefelbakaa
