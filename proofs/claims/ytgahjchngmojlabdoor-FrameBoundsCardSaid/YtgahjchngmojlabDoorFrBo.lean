/- FrameBounds: what a framer holds lies below its limit; the walk -/
import Derived.Test.YtgahjchngmojlabDoorFrMd
namespace Go.Proofs.YtgahjchngmojlabDoor
open Go.RowKit

def FS.lim (s : FS) : Prop := s.len ≤ (if s.o.a1 then 65535 else 4096)
theorem FS.lim_tail {s : FS} (h : s.lim) : s.tail.1.lim ∧ s.tail.1.o = s.o := by
  by_cases h1 : 19 ≤ s.kept.length ∧ (s.kept.length : Int) = s.len
  · rw [FS.tail_yes h1.1 h1.2]
    exact ⟨h, rfl⟩
  · rw [FS.tail_no (by omega)]
    exact ⟨h, rfl⟩
theorem FS.lim_step {s : FS} (h : s.lim) (x : Int) : (s.step x).1.lim ∧ (s.step x).1.o = s.o := by
  by_cases hlk : s.looks x
  · by_cases hk : (s.hr x).k1 = 0
    · rw [FS.step_good hlk hk]
      have hN := (hdP_acc s.o.a1 (s.kept ++ [x]) hk).2
      exact FS.lim_tail (s := { s with kept := s.kept ++ [x], len := (s.hr x).N }) hN
    · rw [FS.step_bad hlk hk]
      exact ⟨h, rfl⟩
  · rw [FS.step_plain hlk]
    exact FS.lim_tail (s := { s with kept := s.kept ++ [x] }) h
theorem FS.lim_fold : ∀ (xs : List Int) (p : FS × List EvP), p.1.lim → (xs.foldl FS.one p).1.lim ∧ (xs.foldl FS.one p).1.o = p.1.o
  | [], _, h => ⟨h, rfl⟩
  | x :: t, p, h => by
    rw [List.foldl_cons]
    have h1 : (FS.one p x).1.lim ∧ (FS.one p x).1.o = p.1.o := by
      unfold FS.one
      split
      · exact ⟨h, rfl⟩
      · exact FS.lim_step h x
    obtain ⟨h2, h3⟩ := FS.lim_fold t (FS.one p x) h1.1
    exact ⟨h2, h3.trans h1.2⟩
theorem hLim_two (a : Bool) : hLim a 2 = if a then 65535 else 4096 := by cases a <;> decide
/-- What is held lies below the limit. -/
theorem FS.held_lim {s : FS} {a : Bool} (ho : s.Ok) (h : s.lim) (ha : s.o.a1 = a) : (s.kept.length : Int) < hLim a 2 := by
  rw [hLim_two, ← ha]
  unfold FS.lim at h
  have h1 := ho.open_
  by_cases h2 : 19 ≤ s.kept.length
  · have := h1 h2
    omega
  · split <;> omega
theorem made_zero (n : Nat) : (madeCells (Value.int .u8 0).cells (n * 1)).toList = (List.replicate n (0 : Int)).map (Value.int .u8) := by
  rw [Nat.mul_one]
  refine List.ext_getElem (by simp [madeCells]) fun i h1 h2 => ?_
  simp [madeCells, Value.cells, Nat.mod_one]
set_option maxRecDepth 100000 in
set_option maxHeartbeats 12800000 in
theorem fbounds_main (a0 a1 a2 a3 a4 a5 : Bool) (A : Option Addr) (n c : Nat) (xs : List Int) (m : Nat) (hm : m ≤ 255) (w : World) (ht : HRows w) (hx : Bytes w w.heap.size A n xs) (_hml : n ≤ maxLen) :
    Calls Tryd.prog 6 #[.agg #[.bool a0, .bool a1, .bool a2, .bool a3, .bool a4, .bool a5], .slice A n c, .int .u8 m] w fun e w' => e = .returned (.bool true) ∧ Below w.heap.size w w' := by
  have HN := Lib.hid hx.1
  have HX := Lib.hid hx
  have hb0 := bl_alloc (bl_refl w) (.cells #[.bool a0, .bool a1, .bool a2, .bool a3, .bool a4, .bool a5] 23)
  have oo0 := Own.new w 23 #[.bool a0, .bool a1, .bool a2, .bool a3, .bool a4, .bool a5]
  have ht0 := ht.below hb0
  have HNw := Lib.hid (fnewE_any ⟨a0, a1, a2, a3, a4, a5⟩ _ ht0)
  have hi0 : (Tryd.prog.info? 5).map (fun i => (i.zero, i.size, i.bytes)) = some (some (.int .u8 0), 1, 1) := by kernel_rfl
  obtain ⟨ii, hi, hz, hsz, hby⟩ := info_parts hi0
  have HI0 := Lib.hid (And.intro hi (And.intro hz (And.intro hsz hby)))
  clear hx ht ht0 hi0 hi hz hsz hby
  go_enter Tryd.func6, Tryd.ntmps6
  go_wp2_with fail
  refine HNw.out.mono ?_
  rintro e w1 ⟨rfl, hE, hb1⟩
  rw [show (w.alloc (.cells #[.bool a0, .bool a1, .bool a2, .bool a3, .bool a4, .bool a5] 23)).heap.size = w.heap.size + 1 by simp] at hE ⊢
  have oo1 := oo0.step hb1
  have hb2 := bl_trans hb0 hb1
  clear hb0 hb1 oo0 HNw
  by_cases hn : 100 < n
  · have hp : decide ((100 : Int) < (n : Int)) = true := by simp; omega
    have ht1 := hE.2.1
    go_wp2_with fail
    refine (alive23_any _ ht1).mono ?_
    rintro e w3 ⟨rfl, hb3⟩
    go_wp2
    go_ret
    exact ⟨rfl, bl_trans hb2 hb3⟩
  · have hp : decide ((100 : Int) < (n : Int)) = false := by simp; omega
    obtain ⟨g, hg⟩ : ∃ z, z = w.heap.size + 1 + 1 := ⟨_, rfl⟩
    rw [← hg] at hE ⊢
    have Hgw := Lib.hid (show w.heap.size + 1 < g by omega)
    have hf1 := hE.is
    have hx1 := (HX.out.below hb2).more hb2.size
    have HFd := Lib.hid (ffeed_any g _ n c none (fs0 ⟨a0, a1, a2, a3, a4, a5⟩) A xs w1 hf1 hx1 (by omega) (Nat.zero_le _))
    have HRF : Hid (∀ W, Bytes W W.heap.size A n xs → Calls Tryd.prog 11 #[.agg #[.bool a0, .bool a1, .bool a2, .bool a3, .bool a4, .bool a5, .slice none 0 0, .int .i64 0, .bool false, .int .i64 0], .slice A n c] W fun e w' => OneX (ZF W (fs0 ⟨a0, a1, a2, a3, a4, a5⟩) none) ((fs0 ⟨a0, a1, a2, a3, a4, a5⟩).feed xs).1 ((fs0 ⟨a0, a1, a2, a3, a4, a5⟩).feed xs).2 W e w') :=
      Lib.hid (fun W h1 => rfeed_any (fs0 ⟨a0, a1, a2, a3, a4, a5⟩) none 0 0 A n c xs W (BT.nil _ _ _) h1 (fs0_ok _) (by omega) (Nat.zero_le _))
    have hfo := FS.feed_ok (fs0_ok ⟨a0, a1, a2, a3, a4, a5⟩) xs HX.out.2.1
    have hlm := FS.lim_fold xs (fs0 ⟨a0, a1, a2, a3, a4, a5⟩, []) (show (0 : Int) ≤ if a1 then 65535 else 4096 by split <;> omega)
    have HFr := Lib.hid (show ((fs0 ⟨a0, a1, a2, a3, a4, a5⟩).feed xs).1.fr ≤ 1500 ∧ ((fs0 ⟨a0, a1, a2, a3, a4, a5⟩).feed xs).1.lim ∧ ((fs0 ⟨a0, a1, a2, a3, a4, a5⟩).feed xs).1.o.a1 = a1 from by
      have h3 : (fs0 ⟨a0, a1, a2, a3, a4, a5⟩).fr = 0 := rfl
      have := HN.out
      exact ⟨by omega, hlm.1, by rw [show ((fs0 ⟨a0, a1, a2, a3, a4, a5⟩).feed xs).1.o = _ from hlm.2]; rfl⟩)
    generalize (fs0 ⟨a0, a1, a2, a3, a4, a5⟩).feed xs = pE at *
    obtain ⟨sE, qE⟩ := pE
    dsimp only at HFd HRF HFr
    clear hfo hlm hE hg hx1
    go_wp2_with fail
    refine HFd.out.mono ?_
    rintro e w4 ⟨v, L, B', kb, rfl, hR⟩
    have hf4 := hR.2.2.2.1
    have hl4 : Below w.heap.size w w4 := hb2.trans (hf1.low hR.2.2.2.2.2.1 (by have := Hgw.out; omega))
    have oo4 := oo1.below (hf1.low (B0 := w.heap.size + 1) hR.2.2.2.2.2.1 (by have := Hgw.out; omega)) (by omega)
    obtain ⟨q0, q1, q2, q3, q4, q5⟩ : _ ∧ _ ∧ _ ∧ _ ∧ _ ∧ _ := ⟨oo4.cell (i := 0) rfl, oo4.cell (i := 1) rfl, oo4.cell (i := 2) rfl, oo4.cell (i := 3) rfl, oo4.cell (i := 4) rfl, oo4.cell (i := 5) rfl⟩
    clear hR HFd hf1 hb2 oo1
    have HQ := Lib.hid (show ∃ N : Nat, N = 40 * m ∧ N ≤ 10200 from ⟨_, rfl, by omega⟩)
    obtain ⟨N, hN, hNl⟩ := HQ.out
    clear HQ q0 q1 q2 q3 q4 q5
    go_wp2_with (at_make; refine wpList_make_full _ rfl _ _ _ rfl w4.heap.size 5 ii (.int .u8 0) 1 Tryd.underlying26 HI0.out.1 HI0.out.2.1 HI0.out.2.2.1 .i64 .i64 _ _ N rfl rfl (by first | (rw [hN]; omega) | (simp [IntKind.wrap_i64]; omega)) (by first | (rw [hN]; omega) | (simp [IntKind.wrap_i64]; omega)) (by rw [HI0.out.2.2.2]; omega) (by unfold maxLen; omega) (Nat.le_refl _) ?_; intro w5 hrow5 hg5)
    subst hN
    rw [made_zero] at hrow5
    have hb5 : Below w4.heap.size w4 w5 := (bl_refl w4).grown hg5 (Nat.le_refl _) (fun k h => by cases h)
    obtain ⟨hxz, _, _⟩ := row_bytes hrow5 (fun x hx => by rw [List.eq_of_mem_replicate hx]; omega)
    have hgl := hf4.typed.lt
    have hkb := hf4.kb
    have hf5 := hf4.below hb5
    have hl5 := bl_trans hl4 hb5
    have oo5 := oo4.step hb5
    have HFz := Lib.hid (ffeed_gen g B' (40 * m) (40 * m) kb sE (some ⟨w4.heap.size, 0, none⟩) (List.replicate (40 * m) (0 : Int)) w5 hf5 (by simp) (fun x hx => by rw [List.eq_of_mem_replicate hx]; omega) (Lib.hid fun W k hk R _ => by
      obtain ⟨b, o, h1, h2, h3, h4, h5⟩ := hxz.at_ hk
      cases h1
      refine ⟨_, _, rfl, Nat.lt_of_lt_of_le h2 R.size, (World.cell?_of_block (a := ⟨w4.heap.size, 0 + k, none⟩) (R.block _ h2 (fun e => by
        rcases e with e | e
        · have e' : w4.heap.size = g := e
          omega
        · exact absurd (hkb _ e).2.2 (Nat.lt_irrefl _)))).trans h3, h4, h5⟩) (by omega) (by have := HFr.out.1; omega))
    have hlz := FS.lim_fold (List.replicate (40 * m) (0 : Int)) (sE, []) HFr.out.2.1
    have HCz := Lib.hid (fun hc : sE.closed = true => FS.fold_closed (List.replicate (40 * m) (0 : Int)) (sE, []) hc)
    have HLz := Lib.hid (show (sE.feed (List.replicate (40 * m) (0 : Int))).1.lim ∧ (sE.feed (List.replicate (40 * m) (0 : Int))).1.o.a1 = a1 from ⟨hlz.1, by rw [show (sE.feed (List.replicate (40 * m) (0 : Int))).1.o = _ from hlz.2]; exact HFr.out.2.2⟩)
    have HKz := Lib.hid (show sE.closed = true → (sE.feed (List.replicate (40 * m) (0 : Int))).1.kept = [] ∧ (sE.feed (List.replicate (40 * m) (0 : Int))).1.closed = true from fun hc => by
      rw [show sE.feed (List.replicate (40 * m) (0 : Int)) = (sE, []) from HCz.out hc]
      exact ⟨hf4.ok.cl hc, hc⟩)
    clear hlz HCz
    generalize sE.feed (List.replicate (40 * m) (0 : Int)) = pz at *
    obtain ⟨sz, qz⟩ := pz
    dsimp only at HFz HLz HKz
    clear hrow5 hg5 hb5 hxz hgl hkb hf4 hl4 oo4 hNl
    refine HFz.out.mono ?_
    rintro e w6 ⟨vz6, L6, B6, kb6, rfl, hR6⟩
    have hf6 := hR6.2.2.2.1
    have hl6 : Below w.heap.size w w6 := hl5.trans (hf5.low hR6.2.2.2.2.2.1 (by have := Hgw.out; omega))
    have oo6 := oo5.below (hf5.low (B0 := w.heap.size + 1) hR6.2.2.2.2.2.1 (by have := Hgw.out; omega)) (by omega)
    obtain ⟨q0, q1, q2, q3, q4, q5⟩ : _ ∧ _ ∧ _ ∧ _ ∧ _ ∧ _ := ⟨oo6.cell (i := 0) rfl, oo6.cell (i := 1) rfl, oo6.cell (i := 2) rfl, oo6.cell (i := 3) rfl, oo6.cell (i := 4) rfl, oo6.cell (i := 5) rfl⟩
    have hR7 := Lib.hid (HRF.out w6 ((HX.out.below hl6).more hl6.size))
    clear hR6 HFz hf5 oo5 HRF hl5
    go_wp2_with fail
    refine hR7.out.mono ?_
    rintro e w7 hone
    obtain ⟨K', n', c', A', c3, Lw, rfl, hbt, hLw, hEw, hb7⟩ := hone.out
    simp only [rfa]
    have hbx := bl_alloc (bl_refl w7) (.cells #[.bool sE.o.a0, .bool sE.o.a1, .bool sE.o.a2, .bool sE.o.a3, .bool sE.o.a4, .bool sE.o.a5, .slice K' n' c', .int .i64 sE.len, .bool sE.closed, .int .i64 sE.fr] 34)
    have ow8 := Own.new w7 34 #[.bool sE.o.a0, .bool sE.o.a1, .bool sE.o.a2, .bool sE.o.a3, .bool sE.o.a4, .bool sE.o.a5, .slice K' n' c', .int .i64 sE.len, .bool sE.closed, .int .i64 sE.fr]
    have hb8 := bl_trans hb7 hbx
    have hf8 := hf6.below hb8
    have oo8 := oo6.step hb8
    have hl8 := bl_trans hl6 hb8
    clear q0 q1 q2 q3 q4 q5 hb7 hbx hEw hLw hbt hone hR7 hf6 oo6 hl6 hb8
    have p2 : decide ((sz.kept.length : Int) < hLim a1 2) = true := decide_eq_true (FS.held_lim hf8.ok HLz.out.1 HLz.out.2)
    have HS := Lib.hid (fun W (h : FrIs W B6 g sz kb6) => held_st h)
    have HC := Lib.hid (fun W (h : FrIs W B6 g sz kb6) => closed_st h)
    obtain ⟨q0, q1, q2, q3, q4, q5⟩ : _ ∧ _ ∧ _ ∧ _ ∧ _ ∧ _ := ⟨oo8.cell (i := 0) rfl, oo8.cell (i := 1) rfl, oo8.cell (i := 2) rfl, oo8.cell (i := 3) rfl, oo8.cell (i := 4) rfl, oo8.cell (i := 5) rfl⟩
    go_wp2_with fail
    refine (limit_any a0 a1 a2 a3 a4 a5 2 _ hf8.hrows).mono ?_
    rintro e w9 ⟨rfl, hb9⟩
    have hf9 := hf8.below hb9
    have hl9 := bl_trans hl8 hb9
    have ow9 := ow8.step hb9
    clear q0 q1 q2 q3 q4 q5 hf8 hl8 oo8 ow8 hb9
    go_wp2_with fail
    refine (alive23_any _ hf9.hrows).mono ?_
    rintro e w10 ⟨rfl, hb10⟩
    have hf10 := hf9.below hb10
    have hl10 := bl_trans hl9 hb10
    have ow10 := ow9.step hb10
    have q8 := ow10.cell (i := 8) rfl
    clear hf9 hl9 hb10 ow9
    go_wp2_with fail
    refine (HS.out _ hf10).mono ?_
    rintro e w11 ⟨rfl, rfl⟩
    cases hcl : sE.closed with
    | false =>
      rw [hcl] at q8
      go_wp2_with fail
      go_ret
      exact ⟨rfl, hl10⟩
    | true =>
      obtain ⟨hk0, hk1⟩ := HKz.out hcl
      rw [hcl] at q8
      rw [hk0] at HS
      rw [hk1] at HC
      clear hk0 hk1
      go_wp2_with fail
      refine (HS.out _ hf10).mono ?_
      rintro e w12 ⟨rfl, rfl⟩
      go_wp2_with fail
      refine (HC.out _ hf10).mono ?_
      rintro e w13 ⟨rfl, rfl⟩
      go_wp2
      go_ret
      exact ⟨rfl, hl10⟩
set_option maxRecDepth 100000 in
theorem fbounds_main2 (a0 a1 a2 a3 a4 a5 : Bool) (A : Option Addr) (n c : Nat) (xs : List Int) (m : Int) (hm : (Lit.int .u8 m).wf = true) (w : World) (ht : HRows w) (hx : Bytes w w.heap.size A n xs) (hml : n ≤ maxLen) :
    Calls Tryd.prog 6 #[.agg #[.bool a0, .bool a1, .bool a2, .bool a3, .bool a4, .bool a5], .slice A n c, .int .u8 m] w fun e w' => e = .returned (.bool true) ∧ Below w.heap.size w w' := by
  have hm : 0 ≤ m ∧ m ≤ 255 := by
    have h := hm
    simp only [Lit.wf, Bool.and_eq_true, decide_eq_true_eq] at h
    rwa [show IntKind.u8.min = 0 from rfl, show IntKind.u8.max = 255 from rfl] at h
  obtain ⟨k, rfl⟩ : ∃ k : Nat, m = k := ⟨m.toNat, by omega⟩
  exact fbounds_main a0 a1 a2 a3 a4 a5 A n c xs k (by omega) w ht hx hml
end Go.Proofs.YtgahjchngmojlabDoor
