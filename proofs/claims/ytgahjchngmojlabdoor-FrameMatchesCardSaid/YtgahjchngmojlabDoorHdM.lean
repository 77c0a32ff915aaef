/- peerageref04.Parse -/
import Derived.Test.YtgahjchngmojlabDoorHdL
namespace Go.Proofs.YtgahjchngmojlabDoor
open Go.RowKit

theorem results_ttc {P : Program} {fn : Func} {p q r : Tmp} {ty : TypeId} (h : fn.results = #[.tmp q, .tmp r, .cell p ty]) (tmps : Array Value) (w : World) (g : Nat) (T : TypeId) (cs : Array Value) (d : TypeDesc)
    (hp : tmps.getD p undef = .pointer (some ⟨g, 0, none⟩)) (hg : Own w g T cs) (hu : P.underlying ty = some d) (hd : (match d with | .struct _ | .array _ _ => true | _ => false) = true) (hi : (P.info? ty).map (·.size) = some cs.size) :
    (results fn tmps).run P w = .ok (.tuple #[tmps.getD q undef, tmps.getD r undef, .agg cs]) w := by
  have hp' : tmps[p]?.getD undef = .pointer (some ⟨g, 0, none⟩) := by simpa using hp
  simp [results, h, hp', asAddr, run_loadVar_row w g T ty cs (0, 0) d hg hu hd hi]
theorem st5_three {w : World} {g b o : Nat} {x y z : Value} (n1 : b ≠ g) (q0 : w.cell? ⟨b, o + 16, none⟩ = some x) (q1 : w.cell? ⟨b, o + 17, none⟩ = some y) (q2 : w.cell? ⟨b, o + 18, none⟩ = some z) (v0 v1 v2 v3 v4 : Value) :
    (((((w.setCell ⟨g, 0, none⟩ v0).setCell ⟨g, 1, none⟩ v1).setCell ⟨g, 2, none⟩ v2).setCell ⟨g, 3, none⟩ v3).setCell ⟨g, 4, none⟩ v4).cell? ⟨b, o + 16, none⟩ = some x ∧ (((((w.setCell ⟨g, 0, none⟩ v0).setCell ⟨g, 1, none⟩ v1).setCell ⟨g, 2, none⟩ v2).setCell ⟨g, 3, none⟩ v3).setCell ⟨g, 4, none⟩ v4).cell? ⟨b, o + 17, none⟩ = some y ∧ (((((w.setCell ⟨g, 0, none⟩ v0).setCell ⟨g, 1, none⟩ v1).setCell ⟨g, 2, none⟩ v2).setCell ⟨g, 3, none⟩ v3).setCell ⟨g, 4, none⟩ v4).cell? ⟨b, o + 18, none⟩ = some z := by
  have key : ∀ k, (((((w.setCell ⟨g, 0, none⟩ v0).setCell ⟨g, 1, none⟩ v1).setCell ⟨g, 2, none⟩ v2).setCell ⟨g, 3, none⟩ v3).setCell ⟨g, 4, none⟩ v4).cell? ⟨b, k, none⟩ = w.cell? ⟨b, k, none⟩ := fun k => by rw [cell_far4 _ n1, cell_far4 _ n1, cell_far4 _ n1, cell_far4 _ n1, cell_far4 _ n1]
  generalize (((((w.setCell ⟨g, 0, none⟩ v0).setCell ⟨g, 1, none⟩ v1).setCell ⟨g, 2, none⟩ v2).setCell ⟨g, 3, none⟩ v3).setCell ⟨g, 4, none⟩ v4) = W7 at key ⊢
  exact ⟨(key _).trans q0, (key _).trans q1, (key _).trans q2⟩
theorem st5_far {w : World} {g G : Nat} {T : TypeId} {cs : Array Value} (h : Own w G T cs) (n1 : G ≠ g) (v0 v1 v2 v3 v4 : Value) : Own (((((w.setCell ⟨g, 0, none⟩ v0).setCell ⟨g, 1, none⟩ v1).setCell ⟨g, 2, none⟩ v2).setCell ⟨g, 3, none⟩ v3).setCell ⟨g, 4, none⟩ v4) G T cs :=
  ((((h.far (p := ⟨g, 0, none⟩) n1 v0).far (p := ⟨g, 1, none⟩) n1 v1).far (p := ⟨g, 2, none⟩) n1 v2).far (p := ⟨g, 3, none⟩) n1 v3).far (p := ⟨g, 4, none⟩) n1 v4
theorem rp_worlds (a0 a1 a2 a3 a4 a5 : Bool) (w : World) : ∃ V, V = (w.alloc (.cells #[.bool a0, .bool a1, .bool a2, .bool a3, .bool a4, .bool a5] 23)).alloc (.cells #[.int .i64 0, .int .i64 0, .int .i64 0, .slice none 0 0, .int .i64 0] 49) ∧
    Own V w.heap.size 23 #[.bool a0, .bool a1, .bool a2, .bool a3, .bool a4, .bool a5] ∧ Own V (w.heap.size + 1) 49 #[.int .i64 0, .int .i64 0, .int .i64 0, .slice none 0 0, .int .i64 0] ∧ Below w.heap.size w V ∧ V.heap.size = w.heap.size + 1 + 1 := by
  refine ⟨_, rfl, (Own.new w _ _).alloc _, ?_, bl_alloc (bl_alloc (bl_refl w) _) _, by simp⟩
  have h := Own.new (w.alloc (.cells #[.bool a0, .bool a1, .bool a2, .bool a3, .bool a4, .bool a5] 23)) 49 #[.int .i64 0, .int .i64 0, .int .i64 0, .slice none 0 0, .int .i64 0]
  rw [show (w.alloc (.cells #[.bool a0, .bool a1, .bool a2, .bool a3, .bool a4, .bool a5] 23)).heap.size = w.heap.size + 1 by simp] at h
  exact h
set_option maxRecDepth 100000 in
set_option maxHeartbeats 3200000 in
theorem rparse_mark (a0 a1 a2 a3 a4 a5 : Bool) (A : Option Addr) (n c : Nat) (xs : List Int) (w : World) (hx : Bytes w w.heap.size A n xs) (_hn : n ≤ 1000000000) (i : Nat) (hi : i < 16) (hin : i < n) (hall : ∀ j, j < i → nth xs j = 255) (hne : nth xs i ≠ 255) :
    Calls Tryd.prog 41 #[.agg #[.bool a0, .bool a1, .bool a2, .bool a3, .bool a4, .bool a5], .slice A n c] w fun e w' => ∃ G : Value, e = .returned (.tuple #[.int .i64 0, .int .i64 0, .agg #[.int .i64 4, .int .i64 1, .int .i64 1, G, .int .i64 i]]) ∧ G = .slice none 0 0 ∧ Below w.heap.size w w' := by
  obtain ⟨V, hV, oO, oV, hb0, hsz⟩ := rp_worlds a0 a1 a2 a3 a4 a5 w
  have hx1 := (hx.below hb0).more hb0.size
  have HV := Lib.hid hV
  clear hV
  have HA := Lib.hid hall
  have HE := Lib.hid hne
  clear hall hne
  go_enter Tryd.func41, Tryd.ntmps41
  go_wp2
  go_loop [7] (fun v => ∃ k : Nat, k ≤ i ∧ v = .int .i64 k) (fun v => 16 - (intOf v).toNat)
  case atStart => exact ⟨0, Nat.zero_le _, rfl⟩
  case round =>
    obtain ⟨k, hk, rfl⟩ := hrel
    rw [← HV.out]
    obtain ⟨b, o, rfl, hb, hc, h0, h1⟩ := hx1.at_ (k := k) (by omega)
    have hk16 : (k : Int) < 16 := by omega
    have hkn : (k : Int) < (n : Int) := by omega
    by_cases hki : k = i
    · subst hki
      have e1 : (nth xs k != 255) = true := by have := HE.out; simpa using this
      go_wp2_with fail
      refine (bad_any 1 k none 0 0 _).mono ?_
      rintro e w1 ⟨rfl, hb1⟩
      have hbw := bl_trans hb0 hb1
      have pV := oV.step hb1
      have v0 := pV.cell (i := 0) (v := .int .i64 0) rfl
      have v1 := pV.cell (i := 1) (v := .int .i64 0) rfl
      have v2 := pV.cell (i := 2) (v := .int .i64 0) rfl
      have v3 := pV.cell (i := 3) (v := .slice none 0 0) rfl
      have v4 := pV.cell (i := 4) (v := .int .i64 0) rfl
      have f0 := pV.frozen 0
      have f1 := pV.frozen 1
      have f2 := pV.frozen 2
      have f3 := pV.frozen 3
      have f4 := pV.frozen 4
      have hlt2 := pV.lt
      clear oO oV hb1 hb0 hx hx1 hc h0 h1 e1
      go_wp2
      refine bodyPost_ret (results_ttc (p := 6) (q := 4) (r := 5) (fn := Tryd.f41) rfl _ _ (w.heap.size + 1) 49 #[.int .i64 4, .int .i64 1, .int .i64 1, .slice none 0 0, .int .i64 k] _ rfl (own_five pV _ _ _ _ _) vd_desc rfl (vd_info _ _ _ _ _)) rfl ⟨_, rfl, rfl, below_five hbw (by omega) _ _ _ _ _⟩
    · have e1 : (nth xs k != 255) = false := by have := HA.out k (by omega); simpa using this
      go_wp2
      go_round
      case rel => exact ⟨k + 1, by omega, by go_num⟩
      case measure => simp [intOf]; omega
set_option maxRecDepth 100000 in
set_option maxHeartbeats 3200000 in
theorem rparse_short (a0 a1 a2 a3 a4 a5 : Bool) (A : Option Addr) (n c : Nat) (xs : List Int) (w : World) (hx : Bytes w w.heap.size A n xs) (hn : n ≤ 1000000000) (hall : ∀ j, j < 16 → j < n → nth xs j = 255) (hs : n < 19) :
    Calls Tryd.prog 41 #[.agg #[.bool a0, .bool a1, .bool a2, .bool a3, .bool a4, .bool a5], .slice A n c] w fun e w' => ∃ G : Value, e = .returned (.tuple #[.int .i64 0, .int .i64 0, .agg #[.int .i64 4, .int .i64 1, .int .i64 2, G, .int .i64 n]]) ∧ G = .slice none 0 0 ∧ Below w.heap.size w w' := by
  obtain ⟨V, hV, oO, oV, hb0, hsz⟩ := rp_worlds a0 a1 a2 a3 a4 a5 w
  have hx1 := (hx.below hb0).more hb0.size
  have HV := Lib.hid hV
  clear hV
  have HA := Lib.hid hall
  clear hall
  go_enter Tryd.func41, Tryd.ntmps41
  go_wp2
  go_loop [7] (fun v => ∃ k : Nat, k ≤ 16 ∧ k ≤ n ∧ v = .int .i64 k) (fun v => 16 - (intOf v).toNat)
  case atStart => exact ⟨0, by omega, by omega, rfl⟩
  case round =>
    obtain ⟨k, hk, hk2, rfl⟩ := hrel
    rw [← HV.out]
    by_cases hgo : k < 16 ∧ k < n
    · obtain ⟨b, o, rfl, hb, hc, h0, h1⟩ := hx1.at_ (k := k) hgo.2
      have hk16 : (k : Int) < 16 := by omega
      have hkn : (k : Int) < (n : Int) := by omega
      have e1 : (nth xs k != 255) = false := by have := HA.out k hgo.1 hgo.2; simpa using this
      clear hgo
      go_wp2
      go_round
      case rel => exact ⟨k + 1, by omega, by omega, by go_num⟩
      case measure => simp [intOf]; omega
    · have hn3 : (n : Int) < 19 := by omega
      rcases (by omega : k = 16 ∨ (k = n ∧ n < 16)) with rfl | ⟨rfl, hn16⟩
      all_goals
        clear hgo
        go_wp2_with fail
        refine (bad_any 2 _ none 0 0 _).mono ?_
        rintro e w1 ⟨rfl, hb1⟩
        have hbw := bl_trans hb0 hb1
        have pV := oV.step hb1
        have v0 := pV.cell (i := 0) (v := .int .i64 0) rfl
        have v1 := pV.cell (i := 1) (v := .int .i64 0) rfl
        have v2 := pV.cell (i := 2) (v := .int .i64 0) rfl
        have v3 := pV.cell (i := 3) (v := .slice none 0 0) rfl
        have v4 := pV.cell (i := 4) (v := .int .i64 0) rfl
        have f0 := pV.frozen 0
        have f1 := pV.frozen 1
        have f2 := pV.frozen 2
        have f3 := pV.frozen 3
        have f4 := pV.frozen 4
        have hlt2 := pV.lt
        clear oO oV hb1 hb0 hx hx1
        go_wp2
        refine bodyPost_ret (results_ttc (p := 6) (q := 4) (r := 5) (fn := Tryd.f41) rfl _ _ (w.heap.size + 1) 49 #[.int .i64 4, .int .i64 1, .int .i64 2, .slice none 0 0, .int .i64 _] _ rfl (own_five pV _ _ _ _ _) vd_desc rfl (vd_info _ _ _ _ _)) rfl ⟨_, rfl, rfl, below_five hbw (by omega) _ _ _ _ _⟩
end Go.Proofs.YtgahjchngmojlabDoor
