/- OctetKeeps: the walk -/
import Derived.Test.YtbojfoefelbakaaTot
import Derived.Test.YtbojfoefelbakaaAlive
namespace Go.Proofs.Ytbojfoefelbakaa
open Go.RowKit

theorem own_store {w : World} {base : Nat} {e : TypeId} {n k : Nat} {v : Value} {ys : List Int} (h : w.ownsRow base e 1 v n (ys.map (Value.int .u8))) (hk : k < n) :
    ∃ b c, v = .slice (some ⟨b, 0, none⟩) n c ∧ base ≤ b ∧ b < w.heap.size ∧ w.cell? ⟨b, k, none⟩ = some (.int .u8 (nth ys k)) ∧ w.frozen? ⟨b, k, none⟩ = false ∧
      ∀ z : Int, (w.setCell ⟨b, k, none⟩ (.int .u8 z)).ownsRow base e 1 v n ((ys.set k z).map (Value.int .u8)) ∧ w.grownBy (w.setCell ⟨b, k, none⟩ (.int .u8 z)) (some b) := by
  have hlen : ys.length = n := by have := h.1; simpa using this
  have h0 := h
  rcases h.2 with ⟨_, h2⟩ | ⟨g, cap, cur, rfl, hb, hg, _⟩
  · omega
  · have hc := h0.cellAt k (by omega)
    rw [List.getElem?_map, nth_some (by omega)] at hc
    refine ⟨g, cap, rfl, hb, (Array.getElem?_eq_some_iff.1 hg).1, hc, h0.frozenAt k, fun z => ?_⟩
    have hst := h0.stored k (.int .u8 z)
    refine ⟨?_, only_setCell (p := ⟨g, k, none⟩) (World.grownBy.refl w _) rfl _⟩
    rw [List.map_set]
    exact hst.1

set_option maxHeartbeats 400000 in
theorem keeps_early (A : Option Addr) (n c : Nat) (k : Int) (w : World) (hm : n ≤ maxLen) (h1 : 500 < n) :
    Calls Try.prog 7 #[.slice A n c, .int .i64 k] w fun e w' => e = .returned (.bool true) ∧ Below w.heap.size w w' := by
  unfold maxLen at hm
  go_enter Try.func7, Try.ntmps7
  go_wp2_with fail
  refine (alive_any _).mono ?_
  rintro e w2 ⟨rfl, hb2⟩
  go_wp2
  go_ret
  exact ⟨rfl, hb2⟩

set_option maxHeartbeats 800000 in
theorem keeps_main (A : Option Addr) (n c : Nat) (xs : List Int) (k : Int) (w : World) (hx : Bytes w w.heap.size A n xs) (hnc : n ≤ c) (h1 : n ≤ 500) (hk0 : 0 ≤ k) (hk : k ≤ (n : Int)) :
    Calls Try.prog 7 #[.slice A n c, .int .i64 k] w fun e w' => e = .returned (.bool true) ∧ Below w.heap.size w w' := by
  have HN := Lib.hid hx.1
  have hd : ¬ (500 : Int) < (n : Int) := by omega
  go_enter Try.func7, Try.ntmps7
  go_wp2_with fail
  refine (clone_any _ _ _ _ _ hx (by omega)).mono ?_
  rintro e w1 ⟨v, rfl, hown, hb1⟩
  obtain ⟨A1, c1, rfl, hc1, hs1⟩ := own_val hown
  have B1 : Bytes w1 w1.heap.size A1 n xs := ⟨HN.out, hx.2.1, hs1⟩
  go_wp2_with fail
  refine (new_full _ _ _ _ _ B1 (by omega)).mono ?_
  rintro e w2 ⟨g, rfl, hg, ho2, hd2, hb2⟩
  have hown2 : w2.ownsRow w.heap.size 5 1 (.slice A1 n c1) n (xs.map (Value.int .u8)) := hown.kept (only_of_below hb2 none) (by cases hv : (Value.slice A1 n c1).ownBlock <;> simp)
  have hob : ∀ j, (Value.slice A1 n c1).ownBlock = some j → j < w1.heap.size := fun j hj => (hown.lt j hj).2
  go_wp2_with fail
  go_loopw [7, 29] (fun _ i wr => ∃ (m : Nat) (ys : List Int), m ≤ n ∧ i = .int .i64 m ∧ ys.length = n ∧ wr.ownsRow w.heap.size 5 1 (.slice A1 n c1) n (ys.map (Value.int .u8)) ∧
      Own wr g 75 #[.slice (some ⟨w1.heap.size + 1, 0, none⟩) xs.length xs.length, .int .i64 0] ∧ Own wr (w1.heap.size + 1) 5 (xs.map (Value.int .u8)).toArray ∧ Below w.heap.size w wr) (fun _ i _ => n - (intOf i).toNat)
  case atStart => exact ⟨0, xs, Nat.zero_le _, rfl, HN.out.symm, hown2, ho2, hd2, bl_trans hb1 hb2⟩
  case round =>
    obtain ⟨m, ys, hm, rfl, hyl, hownr, hor, hdr, hb⟩ := hrel
    clear hown hown2 ho2 hd2 hb2
    have HY := Lib.hid hyl
    clear hyl
    by_cases hlt : m < n
    · obtain ⟨b, c', hA1, hbase, hbl, hcell, hfz, hst⟩ := own_store hownr hlt
      injection hA1 with hA1 _ hcc
      subst hA1 hcc
      have hb3 := hob b rfl
      have HST := Lib.hid hst
      clear hst
      go_wp2
      have h2 := HST.out ((nth ys m + 1) % 256)
      have hbw : Below w.heap.size w (wr.setCell ⟨b, m, none⟩ (.int .u8 ((nth ys m + 1) % 256))) := bl_only hb h2.2 hbase
      go_roundw
      case rel => exact ⟨m + 1, ys.set m ((nth ys m + 1) % 256), by omega, by go_num, by rw [List.length_set]; exact HY.out, h2.1, hor.grown h2.2 (by intro e; have := Option.some.inj e; omega), hdr.grown h2.2 (by intro e; have := Option.some.inj e; omega), hbw⟩
      case measure => simp [intOf]; omega
    · have hr := rdr_of hor hdr hx.2.1
      go_wp2_with fail
      refine (take_yes g _ _ k _ hr (by have := HN.out; omega) (by omega) hk0 (by have := HN.out; omega)).mono ?_
      rintro e w5 ⟨h, rfl, hh, ho5, hr5, hg5⟩
      have hb5 := bl_only hb hg5 (by have := hb1.size; omega)
      have HX := (hx.below hb5).front (k := k.toNat) (by omega)
      have hrange : ∀ x ∈ xs.take k.toNat, 0 ≤ x ∧ x ≤ 255 := fun x hxx => hx.2.1 x (List.mem_of_mem_take hxx)
      have hlen : (xs.take k.toNat).length = k.toNat := by rw [List.length_take]; have := HN.out; omega
      have HL := Lib.hid hlen
      clear hlen
      have B5 : Bytes w5 w5.heap.size (some ⟨h, 0, none⟩) k.toNat (xs.take k.toNat) := by
        have := Bytes.of_owned ho5 hrange ho5.lt
        rwa [HL.out] at this
      go_wp2_with fail
      refine (bytesEq_any _ _ _ _ _ _ _ _ _ _ _ B5 HX (by omega) (by omega)).mono ?_
      rintro e w' ⟨rfl, m7, rfl⟩
      have hown7 : (w5.drewN m7).ownsRow w.heap.size 5 1 (.slice (some ⟨h, 0, none⟩) k.toNat k.toNat) k.toNat ((xs.take k.toNat).map (Value.int .u8)) := by
        refine ⟨by rw [List.length_map, HL.out, Nat.mul_one], .inr ⟨h, k.toNat, _, rfl, ?_, ho5, Nat.le_refl _, by unfold maxLen; omega, by rw [List.size_toArray, List.length_map, HL.out, Nat.mul_one], ?_⟩⟩
        · have := hb.size; omega
        · rw [List.take_of_length_le (by rw [List.length_map, HL.out, Nat.mul_one]; exact Nat.le_refl _)]
      have hb7 := bl_drewN hb5 m7
      clear hownr hor hdr hr hr5 hg5 hb ho5 HX B5
      go_wp2_with fail
      go_loopw [13, 62] (fun _ i wr => ∃ (m : Nat) (ys : List Int), m ≤ k.toNat ∧ i = .int .i64 m ∧ wr.ownsRow w.heap.size 5 1 (.slice (some ⟨h, 0, none⟩) k.toNat k.toNat) k.toNat (ys.map (Value.int .u8)) ∧ Below w.heap.size w wr) (fun _ i _ => k.toNat - (intOf i).toNat)
      case atStart => exact ⟨0, _, Nat.zero_le _, rfl, hown7, hb7⟩
      case round =>
        obtain ⟨m2, ys2, hm2, rfl, hownr, hb⟩ := hrel
        clear hown7 hb7
        by_cases hlt2 : m2 < k.toNat
        · obtain ⟨b, c', hA1, hbase, hbl, hcell, hfz, hst⟩ := own_store hownr hlt2
          injection hA1 with hA1 _ hcc
          injection hA1 with hA1
          injection hA1 with hA1 _ _
          subst hA1
          have HST := Lib.hid hst
          clear hst hcc
          go_wp2
          have h2 := HST.out ((nth ys2 m2 + 1) % 256)
          go_roundw
          case rel => exact ⟨m2 + 1, _, by omega, by go_num, h2.1, bl_only hb h2.2 hbase⟩
          case measure => simp [intOf]; omega
        · clear hownr
          go_wp2_with fail
          refine (take_nil _).mono ?_
          rintro e w8 ⟨v8, rfl, hb8⟩
          go_wp2_with fail
          refine (number_nil _).mono ?_
          rintro e w9 ⟨rfl, hb9⟩
          go_wp2_with fail
          refine (alive_any _).mono ?_
          rintro e w10 ⟨rfl, hb10⟩
          go_wp2_with fail
          refine (at_nil _).mono ?_
          rintro e w11 ⟨rfl, hb11⟩
          go_wp2_with fail
          refine (left_nil _).mono ?_
          rintro e w12 ⟨rfl, hb12⟩
          go_wp2
          go_ret
          exact ⟨by simp, bl_trans (bl_trans (bl_trans (bl_trans (bl_trans hb hb8) hb9) hb10) hb11) hb12⟩
set_option maxHeartbeats 800000 in
theorem keeps_no (A : Option Addr) (n c : Nat) (xs : List Int) (k : Int) (w : World) (hx : Bytes w w.heap.size A n xs) (h1 : n ≤ 500) (hk : k < 0 ∨ (0 ≤ k ∧ (n : Int) < k)) :
    Calls Try.prog 7 #[.slice A n c, .int .i64 k] w fun e w' => e = .returned (.bool true) ∧ Below w.heap.size w w' := by
  have HN := Lib.hid hx.1
  have HK := Lib.hid hk
  clear hk
  have hd : ¬ (500 : Int) < (n : Int) := by omega
  go_enter Try.func7, Try.ntmps7
  go_wp2_with fail
  refine (clone_any _ _ _ _ _ hx (by omega)).mono ?_
  rintro e w1 ⟨v, rfl, hown, hb1⟩
  obtain ⟨A1, c1, rfl, hc1, hs1⟩ := own_val hown
  have B1 : Bytes w1 w1.heap.size A1 n xs := ⟨HN.out, hx.2.1, hs1⟩
  go_wp2_with fail
  refine (new_full _ _ _ _ _ B1 (by omega)).mono ?_
  rintro e w2 ⟨g, rfl, hg, ho2, hd2, hb2⟩
  have hown2 : w2.ownsRow w.heap.size 5 1 (.slice A1 n c1) n (xs.map (Value.int .u8)) := hown.kept (only_of_below hb2 none) (by cases hv : (Value.slice A1 n c1).ownBlock <;> simp)
  have hob : ∀ j, (Value.slice A1 n c1).ownBlock = some j → j < w1.heap.size := fun j hj => (hown.lt j hj).2
  go_wp2_with fail
  go_loopw [7, 29] (fun _ i wr => ∃ (m : Nat) (ys : List Int), m ≤ n ∧ i = .int .i64 m ∧ ys.length = n ∧ wr.ownsRow w.heap.size 5 1 (.slice A1 n c1) n (ys.map (Value.int .u8)) ∧
      Own wr g 75 #[.slice (some ⟨w1.heap.size + 1, 0, none⟩) xs.length xs.length, .int .i64 0] ∧ Own wr (w1.heap.size + 1) 5 (xs.map (Value.int .u8)).toArray ∧ Below w.heap.size w wr) (fun _ i _ => n - (intOf i).toNat)
  case atStart => exact ⟨0, xs, Nat.zero_le _, rfl, HN.out.symm, hown2, ho2, hd2, bl_trans hb1 hb2⟩
  case round =>
    obtain ⟨m, ys, hm, rfl, hyl, hownr, hor, hdr, hb⟩ := hrel
    clear hown hown2 ho2 hd2 hb2
    have HY := Lib.hid hyl
    clear hyl
    by_cases hlt : m < n
    · obtain ⟨b, c', hA1, hbase, hbl, hcell, hfz, hst⟩ := own_store hownr hlt
      injection hA1 with hA1 _ hcc
      subst hA1 hcc
      have hb3 := hob b rfl
      have HST := Lib.hid hst
      clear hst
      go_wp2
      have h2 := HST.out ((nth ys m + 1) % 256)
      have hbw : Below w.heap.size w (wr.setCell ⟨b, m, none⟩ (.int .u8 ((nth ys m + 1) % 256))) := bl_only hb h2.2 hbase
      go_roundw
      case rel => exact ⟨m + 1, ys.set m ((nth ys m + 1) % 256), by omega, by go_num, by rw [List.length_set]; exact HY.out, h2.1, hor.grown h2.2 (by intro e; have := Option.some.inj e; omega), hdr.grown h2.2 (by intro e; have := Option.some.inj e; omega), hbw⟩
      case measure => simp [intOf]; omega
    · have hr := rdr_of hor hdr hx.2.1
      go_wp2_with fail
      refine (take_no g _ _ k _ hr (by have := HN.out; omega) (by have := HN.out; have := HK.out; omega)).mono ?_
      rintro e w' ⟨rfl, rfl⟩
      clear hownr hor hdr hr
      rcases HK.out with hk | ⟨hk0, hk⟩
      all_goals
        go_wp2_with fail
        refine (bytesEq_any none none 0 0 0 0 [] [] _ 0 0 (Bytes.nil _ _ _) (Bytes.nil _ _ _) (by omega) (by omega)).mono ?_
        rintro e w' ⟨rfl, m7, rfl⟩
        have hb7 := bl_drewN hb m7
        go_wp2_with fail
        refine wp_loop_rounds 1 ?_
        rw [rounds_succ]
        go_wp2_with fail
        refine (take_nil _).mono ?_
        rintro e w8 ⟨v8, rfl, hb8⟩
        go_wp2_with fail
        refine (number_nil _).mono ?_
        rintro e w9 ⟨rfl, hb9⟩
        go_wp2_with fail
        refine (alive_any _).mono ?_
        rintro e w10 ⟨rfl, hb10⟩
        go_wp2_with fail
        refine (at_nil _).mono ?_
        rintro e w11 ⟨rfl, hb11⟩
        go_wp2_with fail
        refine (left_nil _).mono ?_
        rintro e w12 ⟨rfl, hb12⟩
        go_wp2
        go_ret
        exact ⟨by simp <;> omega, bl_trans (bl_trans (bl_trans (bl_trans (bl_trans hb7 hb8) hb9) hb10) hb11) hb12⟩
theorem keeps_all (A : Option Addr) (n c : Nat) (xs : List Int) (k : Int) (w : World) (hx : Bytes w w.heap.size A n xs) (hnc : n ≤ c) (hm : n ≤ maxLen) :
    Calls Try.prog 7 #[.slice A n c, .int .i64 k] w fun e w' => e = .returned (.bool true) ∧ Below w.heap.size w w' := by
  by_cases h : 500 < n
  · exact keeps_early A n c k w hm h
  · by_cases hk : 0 ≤ k ∧ k ≤ (n : Int)
    · exact keeps_main A n c xs k w hx hnc (by omega) hk.1 hk.2
    · exact keeps_no A n c xs k w hx (by omega) (by omega)
end Go.Proofs.Ytbojfoefelbakaa
