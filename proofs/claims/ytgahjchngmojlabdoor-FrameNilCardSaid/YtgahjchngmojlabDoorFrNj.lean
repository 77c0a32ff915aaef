/- FrameNil: the walk -/
import Derived.Test.YtgahjchngmojlabDoorFrNi
namespace Go.Proofs.YtgahjchngmojlabDoor
open Go.RowKit

theorem parts_twoF {W : World} {j : Nat} {T : TypeId} {A1 A2 : Option Addr} {n1 c1 n2 c2 : Nat} {xs ys : List Int} (ho : Own W j T #[.slice A1 n1 c1, .slice A2 n2 c2]) (h1 : Bytes W W.heap.size A1 n1 xs) (h2 : Bytes W W.heap.size A2 n2 ys) :
    Parts W W.heap.size (some ⟨j, 0, none⟩) 2 [⟨A1, n1, c1, xs⟩, ⟨A2, n2, c2, ys⟩] := by
  refine ⟨rfl, fun p hp => ?_, Shows.of_owned ho ho.lt⟩
  simp only [List.mem_cons, List.not_mem_nil, or_false] at hp
  rcases hp with rfl | rfl
  · exact h1
  · exact h2
set_option maxRecDepth 100000 in
set_option maxHeartbeats 12800000 in
theorem fnil_main (a0 a1 a2 a3 a4 a5 : Bool) (A A2 : Option Addr) (n c n2 c2 : Nat) (xs ys : List Int) (w : World) (ht : HRows w) (hx : Bytes w w.heap.size A n xs) (hcap : n ≤ c) (hcm : c ≤ maxLen) (hy : Bytes w w.heap.size A2 n2 ys) (hm2 : n2 ≤ maxLen) :
    Calls Tryd.prog 7 #[.agg #[.bool a0, .bool a1, .bool a2, .bool a3, .bool a4, .bool a5], .slice A n c, .slice A2 n2 c2] w fun e w' => e = .returned (.bool true) ∧ Below w.heap.size w w' := by
  have HN := Lib.hid hx.1
  have HX := Lib.hid hx
  have HY := Lib.hid hy
  unfold maxLen at hcm
  have hb0 := bl_alloc (bl_alloc (bl_refl w) (.cells #[.bool a0, .bool a1, .bool a2, .bool a3, .bool a4, .bool a5] 23)) (.cells #[.slice A n c, .slice A2 n2 c2] 26)
  have oo0 := (Own.new w 23 #[.bool a0, .bool a1, .bool a2, .bool a3, .bool a4, .bool a5]).alloc (.cells #[.slice A n c, .slice A2 n2 c2] 26)
  have op0 := Own.new (w.alloc (.cells #[.bool a0, .bool a1, .bool a2, .bool a3, .bool a4, .bool a5] 23)) 26 #[.slice A n c, .slice A2 n2 c2]
  rw [show (w.alloc (.cells #[.bool a0, .bool a1, .bool a2, .bool a3, .bool a4, .bool a5] 23)).heap.size = w.heap.size + 1 by simp] at op0
  have ht0 := ht.below hb0
  have hpt := parts_twoF op0 ((hx.below hb0).more hb0.size) ((hy.below hb0).more hb0.size)
  have HFw := Lib.hid (few23_any _ 2 2 _ _ _ hpt (by unfold maxLen; omega) (fun p hp => by
    simp only [List.mem_cons, List.not_mem_nil, or_false] at hp
    rcases hp with rfl | rfl
    · unfold maxLen; dsimp only; omega
    · exact hm2))
  have HNw := Lib.hid (fnewE_any ⟨a0, a1, a2, a3, a4, a5⟩ _ ht0)
  have HOO := Lib.hid oo0
  have HB0 := Lib.hid hb0
  have HGL := Lib.hid ht.2
  have HT0 := Lib.hid ht0
  obtain ⟨q0, q1, q2, q3, q4, q5⟩ : _ ∧ _ ∧ _ ∧ _ ∧ _ ∧ _ := ⟨oo0.cell (i := 0) rfl, oo0.cell (i := 1) rfl, oo0.cell (i := 2) rfl, oo0.cell (i := 3) rfl, oo0.cell (i := 4) rfl, oo0.cell (i := 5) rfl⟩
  clear hx hy ht ht0 hpt op0 oo0 hb0
  go_enter Tryd.func7, Tryd.ntmps7
  cases hf : fewP [⟨A, n, c, xs⟩, ⟨A2, n2, c2, ys⟩] with
  | false =>
    rw [hf] at HFw
    go_wp2_with fail
    refine HFw.out.mono ?_
    rintro e w' ⟨rfl, rfl⟩
    go_wp2_with fail
    refine (alive23_any _ HT0.out).mono ?_
    rintro e w3 ⟨rfl, hb3⟩
    go_wp2
    go_ret
    exact ⟨rfl, bl_trans HB0.out hb3⟩
  | true =>
    rw [hf] at HFw
    unfold fewP flat at hf
    simp only [List.flatMap_cons, List.flatMap_nil, List.append_nil, List.length_append, Bool.and_eq_true, decide_eq_true_eq] at hf
    have hn1 : n ≤ 1500 := by have := HN.out; omega
    have hn2 : n2 ≤ 1500 := by have := HY.out.1; omega
    clear hf
    go_wp2_with fail
    refine HFw.out.mono ?_
    rintro e w' ⟨rfl, rfl⟩
    go_wp2_with fail
    refine HNw.out.mono ?_
    rintro e w1 ⟨rfl, hE, hb1⟩
    rw [show ((w.alloc (.cells #[.bool a0, .bool a1, .bool a2, .bool a3, .bool a4, .bool a5] 23)).alloc (.cells #[.slice A n c, .slice A2 n2 c2] 26)).heap.size = w.heap.size + 1 + 1 by simp] at hE ⊢
    obtain ⟨g, hg⟩ : ∃ z, z = w.heap.size + 1 + 1 + 1 := ⟨_, rfl⟩
    rw [← hg] at hE ⊢
    have Hgw := Lib.hid (show w.heap.size + 1 < g by omega)
    have hb2 := bl_trans HB0.out hb1
    have oo1 := HOO.out.step hb1
    have hx1 := (HX.out.below hb2).more hb2.size
    have HRF : Hid (∀ W, Bytes W W.heap.size A n xs → Calls Tryd.prog 11 #[.agg #[.bool a0, .bool a1, .bool a2, .bool a3, .bool a4, .bool a5, .slice none 0 0, .int .i64 0, .bool false, .int .i64 0], .slice A n c] W fun e w' => OneX (ZF W (fs0 ⟨a0, a1, a2, a3, a4, a5⟩) none) ((fs0 ⟨a0, a1, a2, a3, a4, a5⟩).feed xs).1 ((fs0 ⟨a0, a1, a2, a3, a4, a5⟩).feed xs).2 W e w') :=
      Lib.hid (fun W h1 => rfeed_any (fs0 ⟨a0, a1, a2, a3, a4, a5⟩) none 0 0 A n c xs W (BT.nil _ _ _) h1 (fs0_ok _) (by omega) (Nat.zero_le _))
    have hcl := clone_any A n c xs w1 hx1 (by omega)
    clear hb1 hg hx1 q0 q1 q2 q3 q4 q5 HFw HNw HOO HT0
    go_wp2_with fail
    refine hcl.mono ?_
    rintro e w2 ⟨v2, rfl, hown, hb3⟩
    obtain ⟨A2o, c2o, rfl⟩ := own_form hown
    obtain ⟨hxo, _, hto⟩ := row_bytes hown HX.out.2.1
    have hE2 := hE.below hb3
    have hf2 := hE2.is
    have hl2 := bl_trans hb2 hb3
    have oo2 := oo1.step hb3
    have HFd := Lib.hid (ffeed_any g _ n c2o none (fs0 ⟨a0, a1, a2, a3, a4, a5⟩) A2o xs w2 hf2 hxo (by omega) (Nat.zero_le _))
    have hfo := FS.feed_ok (fs0_ok ⟨a0, a1, a2, a3, a4, a5⟩) xs HX.out.2.1
    have HFr := Lib.hid (show ((fs0 ⟨a0, a1, a2, a3, a4, a5⟩).feed xs).1.fr ≤ 1500 ∧ ((fs0 ⟨a0, a1, a2, a3, a4, a5⟩).feed xs).2.length ≤ n from by
      have h3 : (fs0 ⟨a0, a1, a2, a3, a4, a5⟩).fr = 0 := rfl
      have := HN.out
      omega)
    generalize (fs0 ⟨a0, a1, a2, a3, a4, a5⟩).feed xs = pE at *
    obtain ⟨sE, qE⟩ := pE
    dsimp only at HFd HRF HFr
    clear hfo hcl
    go_wp2_with fail
    refine HFd.out.mono ?_
    rintro e w4 ⟨v, L, B', kb, rfl, hR⟩
    obtain ⟨Ag, cg, rfl, hEg, hLg⟩ := hR.evs
    have hf4 := hR.2.2.2.1
    have hB' := hR.2.2.2.2.1
    have R4 := hR.2.2.2.2.2.1
    have hl4 : Below w.heap.size w w4 := hl2.trans (hf2.low R4 (by have := Hgw.out; omega))
    have oo4 := oo2.below (hf2.low (B0 := w.heap.size + 1) R4 (by have := Hgw.out; omega)) (by omega)
    have hto4 : ∀ a, A2o = some a → w.heap.size ≤ a.block ∧ a.block < B' ∧ Typed w4 a.block 5 := fun a ha => by
      obtain ⟨h1, h2, h3⟩ := hto a ha
      exact ⟨by have := hb2.size; omega, by omega, h3.rest R4 (fun e => pk_not hf2 h2 h3 e)⟩
    have hB2 : w.heap.size ≤ w2.heap.size := hl2.size
    have HRo : ReadB w4 w.heap.size B' A2o n := readB_of (hf2.bytes R4 hxo) hto4
    have HRe : ∀ x ∈ L, ReadB w4 w.heap.size B' x.A x.n := fun x hx => readB_of (hR.2.2.1 x hx).1.1.1 (fun a ha => by
      obtain ⟨h1, h2, h3⟩ := (hR.2.2.1 x hx).2 a ha
      exact ⟨by omega, h2, h3⟩)
    have HRows : ∀ r ∈ (A2o, n) :: L.map (fun x => (x.A, x.n)), ReadB w4 w.heap.size B' r.1 r.2 := fun r hr => by
      rcases List.mem_cons.1 hr with rfl | hr
      · exact HRo
      · obtain ⟨x, hx, rfl⟩ := List.mem_map.1 hr
        exact HRe x hx
    have HNI : NilI w4 w4 w.heap.size B' ((A2o, n) :: L.map (fun x => (x.A, x.n))) := ⟨Rest.refl _ _, HRows, HRows⟩
    have HAll := Lib.hid HNI
    have HR := Lib.hid hR
    have HE4 := Lib.hid (And.intro hEg (And.intro hLg hf4))
    have HL4 := Lib.hid (And.intro hl4 oo4)
    clear HRo HRe HRows HNI hto4 hto hR hEg hLg hf4 R4 hl4 oo4 oo2 oo1 hl2 hf2 hE2 hxo hown hb3 hb2 hE HFd hB' hB2
    obtain ⟨rows, hrows⟩ : ∃ z, z = (A2o, n) :: L.map (fun x => (x.A, x.n)) := ⟨_, rfl⟩
    have HM0 := Lib.hid (show (A2o, n) ∈ rows by rw [hrows]; exact List.mem_cons_self ..)
    have HM1 := Lib.hid (show ∀ x ∈ L, (x.A, x.n) ∈ rows from fun x hx => by rw [hrows]; exact List.mem_cons_of_mem _ (List.mem_map.2 ⟨x, hx, rfl⟩))
    rw [← hrows] at HAll
    clear hrows
    have HB4 := Lib.hid (show B' ≤ w4.heap.size from HE4.out.2.2.size.2)
    have HLn := Lib.hid (show L.length ≤ 1500 by
      have h1 := congrArg List.length HE4.out.2.1
      rw [List.length_map] at h1
      have := HFr.out.2
      omega)
    generalize hll : L.length = ll at *
    have HLL := Lib.hid hll
    clear hll
    go_wp2_with fail
    go_loopw [10, 36] (fun _ i wr => ∃ k : Nat, k ≤ n ∧ i = .int .i64 k ∧ Hid (NilI w4 wr w.heap.size B' rows)) (fun _ i _ => n - (intOf i).toNat)
    case atStart => exact ⟨0, Nat.zero_le _, rfl, HAll⟩
    case round =>
      obtain ⟨k, hk, rfl, hI⟩ := hrel
      by_cases hlt : k < n
      · obtain ⟨b, o, x, rfl, hbb, hcell, hx0, hx1, hfz, hst⟩ := hI.out.at_ HM0.out hlt
        have hbs := hbb.1
        have HST := Lib.hid (hst ((x + 1) % 256) (by omega) (by omega))
        clear hst hbb hI
        go_wp2
        go_roundw
        case rel => exact ⟨k + 1, by omega, by go_num, HST⟩
        case measure => simp [intOf]; omega
      · obtain rfl : n = k := by omega
        have HW1 := hI
        clear hk hlt hI
        go_wp2_with fail
        go_loopw [12, 13, 48, 55] (fun _ _ i _ wq => ∃ k : Nat, k ≤ ll ∧ i = .int .i64 k ∧ Hid (NilI w4 wq w.heap.size B' rows)) (fun _ _ i _ _ => ll - (intOf i).toNat)
        case atStart => exact ⟨0, Nat.zero_le _, rfl, HW1⟩
        case round =>
          obtain ⟨k, hk, rfl, hI2⟩ := hrel
          by_cases hlt : k < ll
          · obtain ⟨b, o, rfl, hbB, hok, hrg⟩ := HE4.out.1.at_ hlt
            have hrow := HR.out.2.1
            have hty := (row_typed hrow (show (Value.slice (some ⟨b, o, none⟩) ll cg).ownBlock = some b from rfl)).1
            have hcb : ∀ q, wr.cell? ⟨b, q, none⟩ = w4.cell? ⟨b, q, none⟩ := fun q => World.cell?_of_block (a := ⟨b, q, none⟩) (hI2.out.1.block b hbB (fun e => hty.ne e.1 fr_types.2.2.1 rfl))
            have hbq : b < wr.heap.size := Nat.lt_of_lt_of_le hbB hI2.out.1.size
            have hmem := HM1.out (nthE L k) (List.mem_of_getElem? (nthE_some (by have := HLL.out; omega)))
            have hq4 := hI2.out.1.size
            generalize nthE L k = E at *
            obtain ⟨EA, En, Ec, Ex, E1, E2, E3, ED, Em, Ee, Ed, E5⟩ := E
            obtain ⟨d0, d1, d2, d3, d4, d5⟩ := range6 hrg
            dsimp only at d0 d1 d2 d3 d4 d5 hmem
            rw [← hcb] at d0 d1 d2 d3 d4 d5
            have hEn : En ≤ 65535 := hok.2.2
            have hbX := bl_alloc (bl_refl wr) (.cells #[.slice EA En Ec, .int .i64 E1, .int .i64 E2, .int .i64 E3, .slice ED Em Ee, .int .i64 E5] 57)
            have oe := Own.new wr 57 #[.slice EA En Ec, .int .i64 E1, .int .i64 E2, .int .i64 E3, .slice ED Em Ee, .int .i64 E5]
            have HI3 := Lib.hid (And.intro (hI2.out.below hbX) oe)
            obtain ⟨be, hbe⟩ : ∃ z, z = wr.heap.size := ⟨_, rfl⟩
            have HBE := Lib.hid (show B' ≤ be by have := HB4.out; omega)
            have HKL := Lib.hid hlt
            clear hI2 hrow hty hcb hbX oe hok hrg hq4
            rw [← hbe] at HI3
            go_wp2_with fail
            rw [← hbe]
            clear hbe
            go_loopw [13, 55] (fun _ i wr => ∃ q : Nat, q ≤ En ∧ i = .int .i64 q ∧ Hid (NilI w4 wr w.heap.size B' rows ∧ Own wr be 57 #[.slice EA En Ec, .int .i64 E1, .int .i64 E2, .int .i64 E3, .slice ED Em Ee, .int .i64 E5])) (fun _ i _ => En - (intOf i).toNat)
            case atStart => exact ⟨0, Nat.zero_le _, rfl, HI3⟩
            case round =>
              obtain ⟨q, hq, rfl, hI5⟩ := hrel
              have e0 := hI5.out.2.cell (i := 0) rfl
              have hbel := hI5.out.2.lt
              by_cases hqt : q < En
              · obtain ⟨b', o', x, rfl, hbb, hcell, hx0, hx1, hfz, hst⟩ := hI5.out.1.at_ hmem hqt
                have hbs := hbb.1
                have HST := Lib.hid (show NilI w4 (wr.setCell ⟨b', o' + q, none⟩ (.int .u8 ((x + 1) % 256))) w.heap.size B' rows ∧ Own (wr.setCell ⟨b', o' + q, none⟩ (.int .u8 ((x + 1) % 256))) be 57 #[.slice (some ⟨b', o', none⟩) En Ec, .int .i64 E1, .int .i64 E2, .int .i64 E3, .slice ED Em Ee, .int .i64 E5] from
                  ⟨hst ((x + 1) % 256) (by omega) (by omega), hI5.out.2.setFar (by have := HBE.out; have := hbb.2; omega) _⟩)
                clear hst hbb hI5 hmem
                go_wp2
                go_roundw
                case rel => exact ⟨q + 1, by omega, by go_num, HST⟩
                case measure => simp [intOf]; omega
              · have HF := Lib.hid hI5.out.1
                clear hI5
                have hk1 := HKL.out
                have hl1 := HLn.out
                go_wp2
                go_roundw
                case rel => exact ⟨k + 1, by have := HKL.out; omega, by go_num, HF⟩
                case measure => have := HKL.out; simp [intOf]; omega
          · obtain rfl : ll = k := by omega
            have R2 := hI2.out.1
            have hgl : 0 < w.heap.size := HGL.out
            have hfr : FrIs wr B' g sE kb := HE4.out.2.2.rest R2 (fun e => HE4.out.2.2.typed.ne e.1 fr_types.1 rfl) (fun j _ h1 h2 e => by have := e.2.2; omega) (fun e => by have := e.2.1; omega)
            have hlr : Below w.heap.size w wr := HL4.out.1.trans (R2.to_below HL4.out.1.size (fun i hi e => by have := e.2.1; omega))
            have oo5 : Own wr w.heap.size 23 #[.bool a0, .bool a1, .bool a2, .bool a3, .bool a4, .bool a5] := HL4.out.2.keep (R2.block _ HL4.out.2.lt (fun e => (show Typed w4 w.heap.size 23 from ⟨_, HL4.out.2⟩).ne e.1 (by decide) rfl))
            obtain ⟨q0, q1, q2, q3, q4, q5⟩ : _ ∧ _ ∧ _ ∧ _ ∧ _ ∧ _ := ⟨oo5.cell (i := 0) rfl, oo5.cell (i := 1) rfl, oo5.cell (i := 2) rfl, oo5.cell (i := 3) rfl, oo5.cell (i := 4) rfl, oo5.cell (i := 5) rfl⟩
            have hR6 := Lib.hid (HRF.out wr ((HX.out.below hlr).more hlr.size))
            have hkbs := Lib.hid (show ∀ j, kb = some j → j < w4.heap.size from fun j e => (HE4.out.2.2.kb j e).2.2)
            have hrs4 := R2.size
            clear hk hlt hI2 R2 hgl HW1
            go_wp2_with fail
            refine hR6.out.mono ?_
            rintro e w6 hone
            obtain ⟨K', n', c', A', c3, Lw, rfl, hbt, hZ, _, _, _, _, hb6⟩ := hone
            simp only [rfa]
            have hbx := bl_alloc (bl_refl w6) (.cells #[.bool sE.o.a0, .bool sE.o.a1, .bool sE.o.a2, .bool sE.o.a3, .bool sE.o.a4, .bool sE.o.a5, .slice K' n' c', .int .i64 sE.len, .bool sE.closed, .int .i64 sE.fr] 34)
            have of7 := Own.new w6 34 #[.bool sE.o.a0, .bool sE.o.a1, .bool sE.o.a2, .bool sE.o.a3, .bool sE.o.a4, .bool sE.o.a5, .slice K' n' c', .int .i64 sE.len, .bool sE.closed, .int .i64 sE.fr]
            have hb7 := bl_trans hb6 hbx
            have hl7 := bl_trans hlr hb7
            have hf7 := hfr.below hb7
            have oo7 := oo5.step hb7
            have hbt7 := (hbt.below hbx (Nat.le_refl _)).more hbx.size
            have hy7 := (HY.out.below hl7).more hl7.size
            have hrs := hb7.size
            obtain ⟨r0, r1, r2, r3, r4, r5, r6, r7, r8, r9⟩ : _ ∧ _ ∧ _ ∧ _ ∧ _ ∧ _ ∧ _ ∧ _ ∧ _ ∧ _ := ⟨of7.cell (i := 0) rfl, of7.cell (i := 1) rfl, of7.cell (i := 2) rfl, of7.cell (i := 3) rfl, of7.cell (i := 4) rfl, of7.cell (i := 5) rfl, of7.cell (i := 6) rfl, of7.cell (i := 7) rfl, of7.cell (i := 8) rfl, of7.cell (i := 9) rfl⟩
            have HRG := Lib.hid (rfeed_any sE K' n' c' A2 n2 c2 ys _ hbt7 hy7 hfr.ok (by omega) (by have := HFr.out.1; omega))
            simp only [rfa] at HRG
            have HFm := Lib.hid (fun W (h : FrIs W B' g sE kb) (h2 : Below w.heap.size w W) => ffeed_any g B' n2 c2 kb sE A2 ys W h ((HY.out.below h2).more (by have := h.size; have := Hgw.out; omega)) (by omega) (by have := HFr.out.1; omega))
            have hfo2 := FS.feed_ok hfr.ok ys HY.out.2.1
            have HGq := Lib.hid (show (sE.feed ys).2.length ≤ 1500 from by have := HY.out.1; omega)
            generalize sE.feed ys = pG at *
            obtain ⟨sG, qG⟩ := pG
            dsimp only at HFm HRG HGq
            clear q0 q1 q2 q3 q4 q5 hbt hbt7 hy7 hbx hb6 of7 hfr oo5 hlr hR6 hZ hfo2
            go_wp2_with fail
            refine HRG.out.mono ?_
            rintro e w8 hone2
            obtain ⟨K2, n3, c4, Aw, c5, Lw2, rfl, _, _, hLo, hLp, hrw, hOk, hb8⟩ := hone2
            simp only [rfa]
            have hbx8 := bl_alloc (bl_refl w8) (.cells #[.bool sG.o.a0, .bool sG.o.a1, .bool sG.o.a2, .bool sG.o.a3, .bool sG.o.a4, .bool sG.o.a5, .slice K2 n3 c4, .int .i64 sG.len, .bool sG.closed, .int .i64 sG.fr] 34)
            have hb9 := bl_trans hb8 hbx8
            have hf9 := hf7.below hb9
            have hl9 := bl_trans hl7 hb9
            have oo9 := oo7.step hb9
            have HW := Lib.hid (And.intro hLo (And.intro hLp (And.intro (row_rest hrw (Rest.of_below hbx8 (fun _ => False)) (fun _ _ e => e)) (fun x hx => (hOk x hx).below hbx8 (Nat.le_refl _)))))
            obtain ⟨q0, q1, q2, q3, q4, q5⟩ : _ ∧ _ ∧ _ ∧ _ ∧ _ ∧ _ := ⟨oo9.cell (i := 0) rfl, oo9.cell (i := 1) rfl, oo9.cell (i := 2) rfl, oo9.cell (i := 3) rfl, oo9.cell (i := 4) rfl, oo9.cell (i := 5) rfl⟩
            have HST := Lib.hid (fset_nil ⟨a0, a1, a2, a3, a4, a5⟩ (w8.alloc (.cells #[.bool sG.o.a0, .bool sG.o.a1, .bool sG.o.a2, .bool sG.o.a3, .bool sG.o.a4, .bool sG.o.a5, .slice K2 n3 c4, .int .i64 sG.len, .bool sG.closed, .int .i64 sG.fr] 34)))
            simp only [O6.cs] at HST
            clear hLo hLp hrw hOk hb8 hbx8 hb9 hf7 hl7 oo7 oo9 HRG hb7
            go_wp2_with fail
            refine HST.out.mono ?_
            rintro e w10 ⟨rfl, hb10⟩
            have hf10 := hf9.below hb10
            have hl10 := bl_trans hl9 hb10
            clear q0 q1 q2 q3 q4 q5 hf9 hl9 HST
            go_wp2_with fail
            refine (alive23_any _ hf10.hrows).mono ?_
            rintro e w11 ⟨rfl, hb11⟩
            have hf11 := hf10.below hb11
            have hl11 := bl_trans hl10 hb11
            have hb12 := bl_trans hb10 hb11
            clear hf10 hl10 hb10 hb11
            go_wp2_with fail
            refine (HFm.out _ hf11 hl11).mono ?_
            rintro e w12 ⟨vv, L2, B2, kb2, rfl, hR2⟩
            obtain ⟨A5, c6, rfl, hE12, hL12⟩ := hR2.evs
            have hl12 : Below w.heap.size w w12 := hl11.trans (hf11.low hR2.2.2.2.2.2.1 (by have := Hgw.out; omega))
            have RW := (Rest.of_below hb12 (Pk g kb)).trans hR2.2.2.2.2.2.1 (fun _ _ e => e)
            have hg4 := HE4.out.2.2.typed.lt
            have hPk : ∀ i, (w6.alloc (.cells #[.bool sE.o.a0, .bool sE.o.a1, .bool sE.o.a2, .bool sE.o.a3, .bool sE.o.a4, .bool sE.o.a5, .slice K' n' c', .int .i64 sE.len, .bool sE.closed, .int .i64 sE.fr] 34)).heap.size ≤ i → ¬ Pk g kb i := fun i hi e => by
              rcases e with e | e
              · omega
              · have := hkbs.out i e
                omega
            have hEw : Evs w12 w12.heap.size Aw Lw2.length Lw2 := own_evs (row_rest HW.out.2.2.1 RW (fun j hj => hPk j (row_typed HW.out.2.2.1 hj).2)) (fun x hx => ((HW.out.2.2.2 x hx).rest2 (HW.out.1 x hx) RW hPk (by simp)).more (by have := RW.size; simp at this; omega))
            have hlen2 : L2.length ≤ 1500 := by
              have h1 := congrArg List.length hL12
              rw [List.length_map] at h1
              have := HGq.out
              omega
            have hpp : L2.map Ev.p = Lw2.map Ev.p := by rw [hL12, HW.out.2.1]
            clear hR2 RW hPk hb12 hf11 hl11
            go_wp2_with fail
            refine (back_any A5 _ c6 L2 _ hE12 (by omega)).mono ?_
            rintro e w13 ⟨Ab, cb, rfl, hEb, hb13⟩
            have hEw13 := hEw.below hb13
            have hl13 := bl_trans hl12 hb13
            clear hE12 hEw hl12 hb13
            go_wp2_with fail
            refine (rsame23_any Ab Aw _ _ cb c5 L2 Lw2 w13 hEb hEw13 hpp (by omega)).mono ?_
            rintro e w14 ⟨rfl, hb14⟩
            have hl14 := bl_trans hl13 hb14
            clear hEb hEw13 hl13 hb14 hpp
            go_wp2_with fail
            refine (ffeed_nil A n c xs _ ((HX.out.below hl14).more hl14.size) (by omega)).mono ?_
            rintro e w15 ⟨rfl, rfl⟩
            go_wp2_with fail
            refine (fclosed_nil _).mono ?_
            rintro e w16 ⟨rfl, rfl⟩
            go_wp2_with fail
            refine (fclose_nil _).mono ?_
            rintro e w17 ⟨rfl, hb17⟩
            go_wp2_with fail
            refine (fheld_nil _).mono ?_
            rintro e w18 ⟨rfl, rfl⟩
            go_wp2_with fail
            refine (fframes_nil _).mono ?_
            rintro e w19 ⟨rfl, rfl⟩
            go_wp2
            go_ret
            exact ⟨rfl, bl_trans hl14 hb17⟩
end Go.Proofs.YtgahjchngmojlabDoor
