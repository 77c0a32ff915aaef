/- cmp.Compare, bytes.Compare, cmp.Or, peerageref02.order -/
import Derived.Test.YtiehbmhekncbhaaDoorTen
import Derived.Test.YtiehbmhekncbhaaDoorPfxR
import Derived.Lib.Bytealg
import Derived.Lib.BytesEntry
import Derived.StillTailTactics
namespace Go.Proofs.YtiehbmhekncbhaaDoor
open Go.RowKit Go.Sort

def cmpI (x y : Int) : Int := if x < y then -1 else if y < x then 1 else 0
theorem cmpI_range (x y : Int) : cmpI x y = -1 ∨ cmpI x y = 0 ∨ cmpI x y = 1 := by
  unfold cmpI; split; · exact .inl rfl
  split; · exact .inr (.inr rfl)
  exact .inr (.inl rfl)
set_option maxRecDepth 100000 in
theorem nan_any (x : Int) (w : World) : Calls Tryd.prog 107 #[.int .i64 x] w fun e w' => e = .returned (.bool false) ∧ w = w' := by
  go_enter Tryd.func107, Tryd.ntmps107
  go_wp2
  go_ret
  exact ⟨by simp, rfl⟩
set_option maxRecDepth 100000 in
theorem icmp_any (x y : Int) (w : World) : Calls Tryd.prog 78 #[.int .i64 x, .int .i64 y] w fun e w' => e = .returned (.int .i64 (cmpI x y)) ∧ w' = w := by
  have hc : Hid (cmpI x y = if x < y then -1 else if y < x then 1 else 0) := Lib.hid rfl
  rcases Int.lt_trichotomy x y with h | h | h
  · have h1 : decide (x < y) = true := decide_eq_true h
    have HC : Hid (cmpI x y = -1) := Lib.hid (by rw [hc.out, if_pos h])
    clear h
    go_enter Tryd.func78, Tryd.ntmps78
    go_wp2_with (go_at_call 107; refine (nan_any _ _).mono ?_; rintro e w' ⟨rfl, rfl⟩)
    go_ret
    exact ⟨by rw [HC.out]; rfl, rfl⟩
  · subst h
    have HC : Hid (cmpI x x = 0) := Lib.hid (by rw [hc.out, if_neg (by omega), if_neg (by omega)])
    have h1 : decide (x < x) = false := by simp
    go_enter Tryd.func78, Tryd.ntmps78
    go_wp2_with (go_at_call 107; refine (nan_any _ _).mono ?_; rintro e w' ⟨rfl, rfl⟩)
    go_ret
    exact ⟨by rw [HC.out]; rfl, rfl⟩
  · have h1 : decide (x < y) = false := by simp; omega
    have h2 : decide (y < x) = true := decide_eq_true h
    have HC : Hid (cmpI x y = 1) := Lib.hid (by rw [hc.out, if_neg (by omega), if_pos h])
    clear h
    go_enter Tryd.func78, Tryd.ntmps78
    go_wp2_with (go_at_call 107; refine (nan_any _ _).mono ?_; rintro e w' ⟨rfl, rfl⟩)
    go_ret
    exact ⟨by rw [HC.out]; rfl, rfl⟩
set_option maxRecDepth 100000 in
theorem rorder_any (x y : Int) (w : World) : Calls Tryd.prog 80 #[.int .i64 x, .int .i64 y] w fun e w' => e = .returned (.int .i64 (cmpI x y)) ∧ w' = w := by
  have hc : Hid (cmpI x y = if x < y then -1 else if y < x then 1 else 0) := Lib.hid rfl
  rcases Int.lt_trichotomy x y with h | h | h
  · have h1 : decide (x < y) = true := decide_eq_true h
    have HC : Hid (cmpI x y = -1) := Lib.hid (by rw [hc.out, if_pos h])
    clear h
    go_enter Tryd.func80, Tryd.ntmps80
    go_wp2
    go_ret
    exact ⟨by rw [HC.out]; rfl, rfl⟩
  · subst h
    have HC : Hid (cmpI x x = 0) := Lib.hid (by rw [hc.out, if_neg (by omega), if_neg (by omega)])
    have h1 : decide (x < x) = false := by simp
    go_enter Tryd.func80, Tryd.ntmps80
    go_wp2
    go_ret
    exact ⟨by rw [HC.out]; rfl, rfl⟩
  · have h1 : decide (x < y) = false := by simp; omega
    have h2 : decide (y < x) = true := decide_eq_true h
    have HC : Hid (cmpI x y = 1) := Lib.hid (by rw [hc.out, if_neg (by omega), if_pos h])
    clear h
    go_enter Tryd.func80, Tryd.ntmps80
    go_wp2
    go_ret
    exact ⟨by rw [HC.out]; rfl, rfl⟩
set_option maxRecDepth 100000 in
theorem run_bytesOf {w : World} {b o n c : Nat} {xs : List Int} (hn : n = xs.length) (hc : ∀ i v, (xs.map (Value.int .u8))[i]? = some v → w.cell? ⟨b, o + i, none⟩ = some v) :
    (Extern.Bytes.bytesOf (.slice (some ⟨b, o, none⟩) n c)).run Tryd.prog w = .ok ⟨(Lib.bytesOf xs).toArray⟩ w := by
  subst hn
  unfold Extern.Bytes.bytesOf
  have := Lib.run_loadBytesX (P := Tryd.prog) w xs ⟨b, o, none⟩ .empty (fun j x hx => by
    rw [Addr.add_lit]
    exact hc j _ (by rw [List.getElem?_map, hx]; rfl))
  simpa using this
set_option maxRecDepth 100000 in
theorem bcompare_any (b o b' o' c c' : Nat) (xs ys : List Int) (w : World) (hx : ∀ i v, (xs.map (Value.int .u8))[i]? = some v → w.cell? ⟨b, o + i, none⟩ = some v) (hy : ∀ i v, (ys.map (Value.int .u8))[i]? = some v → w.cell? ⟨b', o' + i, none⟩ = some v) :
    Calls Tryd.prog 79 #[.slice (some ⟨b, o, none⟩) xs.length c, .slice (some ⟨b', o', none⟩) ys.length c'] w fun e w' => e = .returned (.int .i64 (Lib.compareBytes (Lib.bytesOf xs) (Lib.bytesOf ys))) ∧ w' = w := by
  have hrun : (Extern.BytealgCompare.compare #[.slice (some ⟨b, o, none⟩) xs.length c, .slice (some ⟨b', o', none⟩) ys.length c']).run Tryd.prog w = .ok (.int .i64 (Lib.compareBytes (Lib.bytesOf xs) (Lib.bytesOf ys))) w := by
    change Sem.run Tryd.prog (do pure (goInt (Extern.BytealgCompare.cmp (← Extern.Bytes.bytesOf (.slice (some ⟨b, o, none⟩) xs.length c)) (← Extern.Bytes.bytesOf (.slice (some ⟨b', o', none⟩) ys.length c'))))) w = _
    simp only [Sem.run_bind, run_bytesOf rfl hx, run_bytesOf rfl hy, Result.andThen, Sem.run_pure]
    rw [Lib.cmp_eq]
    rfl
  have HR := Lib.hid hrun
  clear hrun hx hy
  go_enter Tryd.func79, Tryd.ntmps79
  go_wp2
  rw [run_callFunc_extern Tryd.func108 (by kernel_rfl) (by kernel_rfl) (by kernel_rfl) (e := Extern.BytealgCompare.compare) (by kernel_rfl), HR.out]
  simp only [Result.andThen]
  rw [Oper.upon_value]
  go_wp2
  go_ret
  exact ⟨rfl, rfl⟩
end Go.Proofs.YtiehbmhekncbhaaDoor
