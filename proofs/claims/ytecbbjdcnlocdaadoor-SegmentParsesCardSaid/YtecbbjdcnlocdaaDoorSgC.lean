/- segment.Bytes -/
import Derived.Test.YtecbbjdcnlocdaaDoorSgB
import Derived.Test.YtecbbjdcnlocdaaDoorPile
namespace Go.Proofs.YtecbbjdcnlocdaaDoor
open Go.RowKit

/-- The form of a segment, numbers of K bytes. -/
def sgForm (K : Nat) (s : Sg) : List Int := [s.k, (s.n : Int)] ++ s.xs.flatMap (digitsOf K)
def sgsForm (K : Nat) (ss : List Sg) : List Int := ss.flatMap (sgForm K)
theorem sgsForm_step {K : Nat} {ss : List Sg} {k : Nat} (h : k < ss.length) : sgsForm K (ss.take (k + 1)) = sgsForm K (ss.take k) ++ sgForm K (sgth ss k) := by
  unfold sgsForm
  rw [take_sgth h, List.flatMap_append]; simp
theorem digs_len (K : Nat) (xs : List Int) : (xs.flatMap (digitsOf K)).length = K * xs.length := by
  induction xs with
  | nil => simp
  | cons x xs ih => rw [List.flatMap_cons, List.length_append, ih, digitsOf_len, List.length_cons, Nat.mul_add]; omega
theorem digs_step {K : Nat} {xs : List Int} {k : Nat} (h : k < xs.length) : (xs.take (k + 1)).flatMap (digitsOf K) = (xs.take k).flatMap (digitsOf K) ++ digitsOf K (nth xs k) := by
  rw [take_nth h, List.flatMap_append]; simp
theorem sgsForm_len {K : Nat} (hK : K ≤ 4) {ss : List Sg} (h : ∀ s ∈ ss, s.xs.length ≤ 255) : (sgsForm K ss).length ≤ 1022 * ss.length := by
  induction ss with
  | nil => simp [sgsForm]
  | cons s ss ih =>
    have h1 := ih (fun s hs => h s (List.mem_cons_of_mem _ hs))
    have h2 := h s List.mem_cons_self
    have h3 : (sgForm K s).length ≤ 1022 := by
      unfold sgForm
      rw [List.length_append, digs_len]
      have := Nat.mul_le_mul hK h2
      simp only [List.length_cons, List.length_nil]
      omega
    have e : sgsForm K (s :: ss) = sgForm K s ++ sgsForm K ss := by unfold sgsForm; rw [List.flatMap_cons]
    rw [e, List.length_append, List.length_cons]
    omega
theorem sgOk_iff {wd : Int} {s : Sg} : sgOk wd s = true ↔ ((s.k = 1 ∨ s.k = 2) ∧ 1 ≤ s.n ∧ s.n ≤ 255) ∧ (wd = 2 → ∀ x ∈ s.xs, x ≤ 65535) := by
  unfold sgOk narB
  simp only [Bool.and_eq_true, Bool.or_eq_true, decide_eq_true_eq, List.all_eq_true]
  constructor
  · rintro ⟨a, b⟩
    exact ⟨a, fun h => b.resolve_left (fun g => g h)⟩
  · rintro ⟨a, b⟩
    exact ⟨a, by by_cases h : wd = 2
                 · exact .inr (b h)
                 · exact .inl h⟩
set_option maxRecDepth 100000 in
theorem sbytes_no (wd : Int) (A : Option Addr) (n c : Nat) (ss : List Sg) (w : World) (h : Segs w w.heap.size A n ss) (hn : n ≤ 1000) (hk : (decide (wd = 2 ∨ wd = 4) && ss.all (sgOk wd)) = false) :
    Calls Tryd.prog 10 #[.int .i64 wd, .slice A n c] w fun e w' => e = .returned (.tuple #[.slice none 0 0, .bool false]) ∧ Below w.heap.size w w' := by
  have hV := Lib.hid (svalid_any wd A n c ss w h (by omega))
  rw [hk] at hV
  clear hk
  go_enter Tryd.func10, Tryd.ntmps10
  go_wp2_with fail
  refine hV.out.mono ?_
  rintro e w1 ⟨rfl, hb⟩
  go_wp2
  go_ret2
  exact ⟨rfl, hb⟩
set_option maxRecDepth 100000 in
theorem putS (wd : Int) (hw : wd = 2 ∨ wd = 4) (x : Int) (h0 : 0 ≤ x) (h1 : x < 4294967296) (h2 : wd = 2 → x ≤ 65535) (W : World) :
    Calls Tryd.prog 40 #[.int .i64 wd, .int .u32 x] W fun e w' => e = .returned (.tuple #[.slice (some ⟨W.heap.size, 0, none⟩) wd.toNat wd.toNat, .bool true]) ∧ Own w' W.heap.size 5 ((digitsOf wd.toNat x).map (Value.int .u8)).toArray ∧ Below W.heap.size W w' := by
  rcases hw with rfl | rfl
  · have := h2 rfl
    exact put_2 x W h0 (by omega)
  · exact put_4 x W h0 h1
theorem pt_two {W : World} {g : Nat} {a b : Int} (h : Own W g 5 #[.int .u8 a, .int .u8 b]) (ha : 0 ≤ a ∧ a ≤ 255) (hb : 0 ≤ b ∧ b ≤ 255) : PT W ⟨some ⟨g, 0, none⟩, 2, 2, [a, b]⟩ :=
  ⟨rfl, by simp; omega, g, rfl, h⟩
theorem pt_digs {W : World} {g K : Nat} {x : Int} (h : Own W g 5 ((digitsOf K x).map (Value.int .u8)).toArray) : PT W ⟨some ⟨g, 0, none⟩, K, K, digitsOf K x⟩ :=
  ⟨(digitsOf_len K x).symm, digitsOf_range K x, g, rfl, h⟩
theorem flat_app (ps : List Part) (q : Part) : flat (ps ++ [q]) = flat ps ++ q.xs := by unfold flat; rw [List.flatMap_append]; simp
set_option maxRecDepth 100000 in
set_option maxHeartbeats 6400000 in
theorem sbytes_yes (wd : Int) (hw : wd = 2 ∨ wd = 4) (A : Option Addr) (n c : Nat) (ss : List Sg) (w : World) (h : Segs w w.heap.size A n ss) (hn : n ≤ 1000) (hk : ss.all (sgOk wd) = true) :
    Calls Tryd.prog 10 #[.int .i64 wd, .slice A n c] w fun e w' => ∃ g, e = .returned (.tuple #[.slice (some ⟨g, 0, none⟩) (sgsForm wd.toNat ss).length (sgsForm wd.toNat ss).length, .bool true]) ∧ w.heap.size ≤ g ∧ Own w' g 5 ((sgsForm wd.toNat ss).map (Value.int .u8)).toArray ∧ Below w.heap.size w w' := by
  have hV := Lib.hid (svalid_yes wd hw A n c ss w h (by omega))
  rw [hk] at hV
  have HV := Lib.hid h
  have HN := Lib.hid h.1
  have HP := Lib.hid (putS wd hw)
  have HK := Lib.hid (fun s hs => sgOk_iff.1 (List.all_eq_true.1 hk s hs))
  have HXL := Lib.hid (fun s (hs : s ∈ ss) => (show s.xs.length ≤ 255 by have h1 := (HK.out s hs).1.2.2; have h2 := (h.2.1 s hs).2.2.2.2.1; omega))
  have HFL := Lib.hid (sgsForm_len (K := wd.toNat) (by rcases hw with rfl | rfl <;> decide) HXL.out)
  generalize wd.toNat = K at *
  clear h hk hw
  go_enter Tryd.func10, Tryd.ntmps10
  go_wp2_with fail
  refine hV.out.mono ?_
  rintro e w1 ⟨rfl, hb0⟩
  go_wp2_with fail
  go_loopw [6, 19] (fun v i wr => ∃ (j : Nat) (ps : List Part), j ≤ n ∧ i = .int .i64 j ∧ Pile w wr v ps ∧ Hid (flat ps = sgsForm K (ss.take j)) ∧ ps.length ≤ 256 * j) (fun _ i _ => n - (intOf i).toNat)
  case atStart => exact ⟨0, [], Nat.zero_le _, rfl, ⟨World.ownsRow_nil _ _ _ _, by simp, hb0⟩, Lib.hid (by simp [flat, sgsForm]), Nat.zero_le _⟩
  case round =>
    obtain ⟨j, ps, hj, rfl, hpile, hflat, hpl⟩ := hrel
    by_cases hlt : j < n
    · obtain ⟨b, o, rfl, hbB, e0, e1⟩ := (HV.out.below hpile.2.2).at_ hlt
      have hj1 := Lib.hid (show j < ss.length by rw [← HN.out]; exact hlt)
      have hSt := Lib.hid (sgsForm_step (K := K) hj1.out)
      have hU := (segs_u32 HV.out hj1.out)
      have hR := Lib.hid ((HV.out.2.1 _ (sgth_mem hj1.out)).2.2.2.1)
      have hOk := HK.out _ (sgth_mem hj1.out)
      generalize sgth ss j = s at *
      obtain ⟨sk, sA, sn, sc, sx⟩ := s
      dsimp only at *
      have HU := Lib.hid hU
      have HL := Lib.hid hU.1
      have hn1 : 1 ≤ sn := hOk.1.2.1
      have hn2 : sn ≤ 255 := hOk.1.2.2
      have hk12 := Lib.hid hOk.1.1
      have hNar := Lib.hid hOk.2
      have hk8 : IntKind.u8.wrap sk = sk := by rcases hOk.1.1 with rfl | rfl <;> rfl
      have hn8 : IntKind.u8.wrap (sn : Int) = (sn : Int) := by rw [IntKind.wrap_u8]; omega
      clear hU hOk
      have hbs := hpile.2.2.size
      obtain ⟨w0, rfl⟩ : ∃ x, x = wr := ⟨_, rfl⟩
      have oS := ((Own.new w0 61 #[.int .i64 sk, .slice sA sn sc]).alloc (.cells #[.int .u8 sk, .int .u8 (sn : Int)] 5))
      have oB := Own.new (w0.alloc (.cells #[.int .i64 sk, .slice sA sn sc] 61)) 5 #[.int .u8 sk, .int .u8 (sn : Int)]
      rw [show (w0.alloc (.cells #[.int .i64 sk, .slice sA sn sc] 61)).heap.size = w0.heap.size + 1 by simp] at oB
      have hb2 : Below w0.heap.size w0 _ := bl_alloc (bl_alloc (bl_refl w0) (.cells #[.int .i64 sk, .slice sA sn sc] 61)) (.cells #[.int .u8 sk, .int .u8 (sn : Int)] 5)
      have hpile2 := hpile.step hb2
      have hq2 := Lib.hid (pt_two oB (by rcases hk12.out with rfl | rfl <;> omega) (by omega))
      have HPl := Lib.hid hpile2
      have HoS := Lib.hid oS
      clear hpile hb2 oB oS hpile2
      go_wp2_with (at_builtin; go_loud (refine wpList_append_grow _ rfl _ _ rfl sl_slices w.heap.size _ _ _ rfl (HPl.out.1.alloc _) (w0.heap.size + 1 + 1 + 1) (some ⟨w0.heap.size + 1 + 1, 0, none⟩) 1 1 [.slice (some ⟨w0.heap.size + 1, 0, none⟩) 2 2] rfl rfl (Shows.of_owned (by have := Own.new ((w0.alloc (.cells #[.int .i64 sk, .slice sA sn sc] 61)).alloc (.cells #[.int .u8 sk, .int .u8 (sn : Int)] 5)) 25 #[.slice (some ⟨w0.heap.size + 1, 0, none⟩) 2 2]; simpa using this) (by omega)) (one1 rfl) (by unfold maxLen; omega) (by omega) (by simp; omega) ?_); intro v5 w5 hown_w5 hgrow_w5; go_loud (have hpile5 := HPl.out.more hq2.out hown_w5 hgrow_w5); go_loud (have oS5 := HPl.out.own HoS.out (by decide) hgrow_w5); clear hown_w5 hgrow_w5; have hF5 := Lib.hid (flat_app ps ⟨some ⟨w0.heap.size + 1, 0, none⟩, 2, 2, [sk, (sn : Int)]⟩); go_loud (have hL5 : (ps ++ [(⟨some ⟨w0.heap.size + 1, 0, none⟩, 2, 2, [sk, (sn : Int)]⟩ : Part)]).length ≤ 256 * j + 1 := by (rw [List.length_append, List.length_singleton]; omega)); go_loud (generalize ps ++ [(⟨some ⟨w0.heap.size + 1, 0, none⟩, 2, 2, [sk, (sn : Int)]⟩ : Part)] = ps5 at *); have hc0 := oS5.cell (i := 0) rfl; have hc1 := oS5.cell (i := 1) rfl)
      have hge := hpile5.2.2.size
      generalize w0.heap.size = g0 at *
      go_loopw [6, 37] (fun v i wr => ∃ (q : Nat) (qs : List Part), q ≤ sn ∧ i = .int .i64 q ∧ Pile w wr v qs ∧ Hid (flat qs = flat ps5 ++ (sx.take q).flatMap (digitsOf K)) ∧ qs.length ≤ 256 * j + 1 + q) (fun _ i _ => sn - (intOf i).toNat)
      case atStart => exact ⟨0, ps5, Nat.zero_le _, rfl, hpile5, Lib.hid (by simp), by omega⟩
      case round =>
        obtain ⟨q, qs, hq, rfl, hpq, hfq, hlq⟩ := hrel
        by_cases hltq : q < sn
        · obtain ⟨b2, o2, rfl, hb2B, hc2⟩ := (HU.out.below hpq.2.2).at_ hltq
          have hq1 := Lib.hid (show q < sx.length by rw [← HL.out]; exact hltq)
          have hD := Lib.hid (digs_step (K := K) hq1.out)
          have hxr := hR.out _ (nth_mem hq1.out)
          have hP := Lib.hid (HP.out (nth sx q) hxr.1 hxr.2 (fun e => hNar.out e _ (nth_mem hq1.out)))
          generalize nth sx q = x at *
          clear hxr
          go_wp2_with fail
          refine (hP.out _).mono ?_
          rintro e w6 ⟨rfl, ho6, hb6⟩
          have hpq6 := Lib.hid (hpq.step hb6)
          have hq6 := Lib.hid (pt_digs ho6)
          have hs6 := hpq6.out.2.2.size
          clear hpq
          go_wp2_with (at_builtin; refine wpList_append_grow _ rfl _ _ rfl sl_slices w.heap.size _ _ _ rfl (hpq6.out.1.alloc _) (w6.heap.size + 1) (some ⟨w6.heap.size, 0, none⟩) 1 1 [_] rfl rfl (Shows.of_owned (Own.new _ _ _) (by simp)) (one1 rfl) (by unfold maxLen; omega) (by omega) (by simp; omega) ?_; intro v7 w7 hown_w7 hgrow_w7)
          have hpile7 := hpq6.out.more hq6.out hown_w7 hgrow_w7
          go_roundw
          case rel =>
            refine ⟨q + 1, _, by omega, by go_num, hpile7, Lib.hid ?_, by rw [List.length_append, List.length_singleton]; omega⟩
            rw [flat_app, hfq.out, hD.out, List.append_assoc]
          case measure => simp [intOf]; omega
        · have hqe := Lib.hid (show q = sx.length by rw [← HL.out]; omega)
          have hFF := Lib.hid (show flat qs = sgsForm K (ss.take (j + 1)) by
            rw [hfq.out, hF5.out, hflat.out, hSt.out, hqe.out, List.take_length]
            unfold sgForm
            rw [List.append_assoc])
          go_wp2
          go_roundw
          case rel => exact ⟨j + 1, qs, by omega, by go_num, hpq, hFF, by omega⟩
          case measure => simp [intOf]; omega
    · have hjn := Lib.hid (show j = ss.length by have := HN.out; omega)
      obtain ⟨A2, c2, rfl, hP⟩ := pt_parts hpile.1 hpile.2.1
      have hfl := Lib.hid (show flat ps = sgsForm K ss by rw [hflat.out, hjn.out, List.take_length])
      go_wp2_with fail
      refine (cat_own hP (by omega) (by rw [hfl.out]; have := HFL.out; have := HN.out; omega)).mono ?_
      rw [hfl.out]
      rintro e w3 ⟨rfl, ho3, hb3⟩
      have hbb := bl_trans hpile.2.2 hb3
      have hle := hpile.2.2.size
      go_wp2
      go_ret2
      exact ⟨_, rfl, hle, ho3, hbb⟩
end Go.Proofs.YtecbbjdcnlocdaaDoor
