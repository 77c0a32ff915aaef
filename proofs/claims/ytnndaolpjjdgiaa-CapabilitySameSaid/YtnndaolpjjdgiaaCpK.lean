/- CapabilitySame: the walk -/
import Derived.Test.YtnndaolpjjdgiaaCpI
import Derived.Test.YtnndaolpjjdgiaaNil
import Derived.Test.YtnndaolpjjdgiaaTot
namespace Go.Proofs.Ytnndaolpjjdgiaa
open Go.RowKit

theorem readB_cd {w : World} {base : Nat} {s : Cp} (h : CD w base s) : ReadB w base w.heap.size s.A s.n := by
  obtain ⟨A, c, e, _, hs⟩ := own_val h.1
  injection e with e1 _ e2
  refine readB_of (B := w.heap.size) (xs := s.xs) ⟨h.2.1, h.2.2, by rw [e1]; exact hs⟩ (fun a ha => ?_)
  have h2 := row_typed h.1 (j := a.block) (by rw [ha]; rfl)
  exact ⟨h2.2, h2.1.lt, h2.1⟩
theorem bytes_ltC {w : World} {B n : Nat} {A : Option Addr} {xs : List Int} (h : Bytes w B A n xs) {a : Addr} (ha : A = some a) (hne : xs ≠ []) : a.block < B := by
  rcases h.2.2 with h0 | ⟨b, o, hA, hb, _⟩
  · exact absurd (List.map_eq_nil_iff.1 h0) hne
  · rw [ha] at hA
    cases hA
    exact hb
set_option maxRecDepth 100000 in
set_option maxHeartbeats 12800000 in
theorem csames_main (A A2 : Option Addr) (n n2 c c2 : Nat) (ss ts : List Cp) (w : World) (h : Caps w w.heap.size A n ss) (h2 : Caps w w.heap.size A2 n2 ts) (hm : n ≤ maxLen) (hm2 : n2 ≤ maxLen) :
    Calls Try.prog 5 #[.slice A n c, .slice A2 n2 c2] w fun e w' => e = .returned (.bool true) ∧ Below w.heap.size w w' := by
  have HN := Lib.hid h.1
  have HN2 := Lib.hid h2.1
  have HX := Lib.hid h
  have HX2 := Lib.hid h2
  have HF := Lib.hid (few16_any A n c ss w h hm)
  have HF2 := Lib.hid (few16_any A2 n2 c2 ts w h2 hm2)
  clear h h2 hm hm2
  cases hf : fewCp ss with
  | false =>
    rw [hf] at HF
    clear hf
    go_enter Try.func5, Try.ntmps5
    go_wp2_with fail
    refine HF.out.mono ?_
    rintro e w' ⟨rfl, rfl⟩
    go_wp2_with fail
    refine (alive16_any _).mono ?_
    rintro e w1 ⟨rfl, hb⟩
    go_wp2
    go_ret
    exact ⟨rfl, hb⟩
  | true =>
    rw [hf] at HF
    cases hf2 : fewCp ts with
    | false =>
      rw [hf2] at HF2
      clear hf hf2
      go_enter Try.func5, Try.ntmps5
      go_wp2_with fail
      refine HF.out.mono ?_
      rintro e w' ⟨rfl, rfl⟩
      go_wp2_with fail
      refine HF2.out.mono ?_
      rintro e w' ⟨rfl, rfl⟩
      go_wp2_with fail
      refine (alive16_any _).mono ?_
      rintro e w1 ⟨rfl, hb⟩
      go_wp2
      go_ret
      exact ⟨rfl, hb⟩
    | true =>
      rw [hf2] at HF2
      unfold fewCp at hf hf2
      rw [Bool.and_eq_true, decide_eq_true_eq, List.all_eq_true] at hf hf2
      have HS := Lib.hid (show ∀ s ∈ ss, s.n ≤ 1000 from fun s m => by have := of_decide_eq_true (hf.1 s m); omega)
      have hn40 : n ≤ 40 := by have := hf.2; have := HN.out; omega
      have hn41 : n2 ≤ 40 := by have := hf2.2; have := HN2.out; omega
      have HGv := Lib.hid (fun W (h : Below w.heap.size w W) => given_any A n c ss W ((HX.out.below h).more h.size) (by omega))
      have HGv2 := Lib.hid (fun W (h : Below w.heap.size w W) => given_any A2 n2 c2 ts W ((HX2.out.below h).more h.size) (by omega))
      have HRB := Lib.hid (rcbytes_any A n c ss w HX.out (by omega) HS.out)
      have hxl : ∀ s ∈ ss, s.n = s.xs.length := fun s m => (HX.out.2.1 s m).1.1
      have HLn := Lib.hid (show (if ss.all cpOk = true then cpsForm ss else []).length ≤ 20000 from by
        by_cases ho : ss.all cpOk = true
        · rw [if_pos ho]
          have h3 := cpsForm_len (M := 255) (L := ss) (fun s m => ⟨hxl s m, (cpOk_iff.1 (List.all_eq_true.1 ho s m)).2.2⟩)
          have h4 : ss.length * (255 + 2) ≤ 40 * 257 := Nat.mul_le_mul (by have := hf.2; omega) (Nat.le_refl _)
          omega
        · rw [if_neg ho]
          simp)
      have HSm := Lib.hid (fun W (h : Below w.heap.size w W) => rcsame_any A A2 n n2 c c2 ss ts W ((HX.out.below h).more h.size) ((HX2.out.below h).more h.size) (by omega) (by omega))
      clear hf hf2 hxl
      unfold CBytesR at HRB
      generalize ss.all cpOk = ok at *
      generalize (if ok = true then cpsForm ss else []) = F at *
      go_enter Try.func5, Try.ntmps5
      go_wp2_with fail
      refine HF.out.mono ?_
      rintro e w' ⟨rfl, rfl⟩
      go_wp2_with fail
      refine HF2.out.mono ?_
      rintro e w' ⟨rfl, rfl⟩
      go_wp2_with fail
      refine HRB.out.mono ?_
      rintro e w1 ⟨A1, n1, c1, rfl, hB1, _, hb1⟩
      have hn1 : n1 ≤ 20000 := by have := hB1.1; have := HLn.out; omega
      have HCl := Lib.hid (clone_any A1 n1 c1 F w1 hB1 (by omega))
      have HB1 := Lib.hid hB1
      clear hB1 HF HF2 HRB
      go_wp2_with fail
      refine HCl.out.mono ?_
      rintro e w2 ⟨v2, rfl, hown, hb2⟩
      obtain ⟨A3, c3, rfl, _, hs3⟩ := own_val hown
      have HB2 := Lib.hid (show Bytes w2 w2.heap.size A3 n1 F from ⟨HB1.out.1, HB1.out.2.1, hs3⟩)
      have HB1' := Lib.hid ((HB1.out.below hb2).more hb2.size)
      have hb3 := bl_trans hb1 hb2
      have HRd := Lib.hid (cread_any A3 n1 c3 F w2 HB2.out hn1)
      clear hown hs3 HB1 HCl hb1 hb2
      go_wp2_with fail
      refine HRd.out.mono ?_
      rintro e w3 ⟨v, L, q, rfl, hrow, hG, hb4⟩
      obtain ⟨A5, c5, rfl⟩ := hrow.form
      have hs23 := hb4.size
      have hws := hb3.size
      have HC := Lib.hid hrow.caps
      have HRw := Lib.hid hrow.1
      have HLl := Lib.hid hG.out.2
      obtain ⟨rows, hrows⟩ : ∃ z, z = L.map (fun s => (s.A, s.n)) := ⟨_, rfl⟩
      have HRows : ∀ r ∈ rows, ReadB w3 w2.heap.size w3.heap.size r.1 r.2 := fun r hr => by
        rw [hrows] at hr
        obtain ⟨s, hs, rfl⟩ := List.mem_map.1 hr
        exact readB_cd (hrow.2 s hs)
      have HM := Lib.hid (show ∀ s ∈ L, (s.A, s.n) ∈ rows from fun s hs => by rw [hrows]; exact List.mem_map.2 ⟨s, hs, rfl⟩)
      have HAll := Lib.hid (show NilI w3 w3 w2.heap.size w3.heap.size rows from ⟨Rest.refl _ _, HRows, HRows⟩)
      have HB3 := Lib.hid (And.intro (HB1'.out.below hb4) (HB2.out.below hb4))
      have HBw := Lib.hid (bl_trans hb3 hb4)
      have HL0 := Lib.hid (And.intro hs23 hws)
      generalize hll : L.length = ll at *
      have HLL := Lib.hid hll
      have hll2 : ll ≤ 20000 := by have := HLl.out.1; omega
      clear hrow hG hb3 hb4 hrows HRows HRd HB1' HB2 hll hs23 hws
      go_wp2_with fail
      go_loopw [11, 12, 36, 43] (fun _ _ i _ wq => ∃ k : Nat, k ≤ ll ∧ i = .int .i64 k ∧ Hid (NilI w3 wq w2.heap.size w3.heap.size rows)) (fun _ _ i _ _ => ll - (intOf i).toNat)
      case atStart => exact ⟨0, Nat.zero_le _, rfl, HAll⟩
      case round =>
        obtain ⟨k, hk, rfl, hI2⟩ := hrel
        by_cases hlt : k < ll
        · obtain ⟨b, o, rfl, hbB, d0, d1⟩ := HC.out.at_ hlt
          have hty := (row_typed HRw.out (show (Value.slice (some ⟨b, o, none⟩) ll c5).ownBlock = some b from rfl)).1
          have hcb : ∀ q, wr.cell? ⟨b, q, none⟩ = w3.cell? ⟨b, q, none⟩ := fun q => World.cell?_of_block (a := ⟨b, q, none⟩) (hI2.out.1.block b hbB (fun e => hty.ne e.1 cp_types.1 rfl))
          have hbq : b < wr.heap.size := Nat.lt_of_lt_of_le hbB hI2.out.1.size
          have hkL : k < L.length := by have := HLL.out; omega
          have hmem := HM.out (cpth L k) (cpth_mem hkL)
          have hEn := HLl.out.2 (cpth L k) (cpth_mem hkL)
          have hq3 := hI2.out.1.size
          generalize cpth L k = E at *
          obtain ⟨Ek, EA, En, Ec, Ex⟩ := E
          dsimp only at d0 d1 hmem hEn
          rw [← hcb] at d0 d1
          have hbX := bl_alloc (bl_refl wr) (.cells #[.int .i64 Ek, .slice EA En Ec] 42)
          have oe := Own.new wr 42 #[.int .i64 Ek, .slice EA En Ec]
          have HI3 := Lib.hid (And.intro (hI2.out.below hbX) oe)
          obtain ⟨be, hbe⟩ : ∃ z, z = wr.heap.size := ⟨_, rfl⟩
          have HBE := Lib.hid (show w3.heap.size ≤ be by omega)
          have HKL := Lib.hid hlt
          clear hI2 hty hcb hbX oe hq3 hkL
          rw [← hbe] at HI3
          go_wp2_with fail
          rw [← hbe]
          clear hbe
          go_loopw [12, 43] (fun _ i wr => ∃ q : Nat, q ≤ En ∧ i = .int .i64 q ∧ Hid (NilI w3 wr w2.heap.size w3.heap.size rows ∧ Own wr be 42 #[.int .i64 Ek, .slice EA En Ec])) (fun _ i _ => En - (intOf i).toNat)
          case atStart => exact ⟨0, Nat.zero_le _, rfl, HI3⟩
          case round =>
            obtain ⟨q, hq, rfl, hI5⟩ := hrel
            have e0 := hI5.out.2.cell (i := 1) rfl
            have hbel := hI5.out.2.lt
            by_cases hqt : q < En
            · obtain ⟨b', o', x, rfl, hbb, hcell, hx0, hx1, hfz, hst⟩ := hI5.out.1.at_ hmem hqt
              have hbs := hbb.1
              have HST := Lib.hid (show NilI w3 (wr.setCell ⟨b', o' + q, none⟩ (.int .u8 ((x + 1) % 256))) w2.heap.size w3.heap.size rows ∧ Own (wr.setCell ⟨b', o' + q, none⟩ (.int .u8 ((x + 1) % 256))) be 42 #[.int .i64 Ek, .slice (some ⟨b', o', none⟩) En Ec] from
                ⟨hst ((x + 1) % 256) (by omega) (by omega), hI5.out.2.setFar (by have := HBE.out; have := hbb.2; omega) _⟩)
              clear hst hbb hI5 hmem
              go_wp2
              go_roundw
              case rel => exact ⟨q + 1, by omega, by go_num, HST⟩
              case measure => simp [intOf]; omega
            · have HFi := Lib.hid hI5.out.1
              clear hI5
              have hk1 := HKL.out
              go_wp2
              go_roundw
              case rel => exact ⟨k + 1, by have := HKL.out; omega, by go_num, HFi⟩
              case measure => have := HKL.out; simp [intOf]; omega
        · obtain rfl : ll = k := by omega
          have R2 := hI2.out.1
          have hs3 := HL0.out
          have hlr : Below w.heap.size w wr := HBw.out.trans (R2.to_below HBw.out.size (fun i hi e => by have := e.2.1; omega))
          have HBf := Lib.hid (And.intro (HB3.out.1.restP R2 (fun a ha hne e => by
            have h1 := bytes_ltC HB3.out.1 ha hne
            have h2 := e.2.1
            omega) (by omega)) (HB3.out.2.restP R2 (fun a ha hne e => by
            have h1 := bytes_ltC HB3.out.2 ha hne
            have h2 := e.2.1
            omega) (by omega)))
          have HSz := Lib.hid R2.size
          clear hk hlt hI2 R2 hs3
          go_wp2_with fail
          refine (alive16_any _).mono ?_
          rintro e w5 ⟨rfl, hb5⟩
          have hl5 := bl_trans hlr hb5
          have hwr : w2.heap.size ≤ wr.heap.size := by have := HBf.out.1; have := HL0.out; have := HSz.out; omega
          have HB5 := Lib.hid (And.intro (HBf.out.1.below (hb5.mono hwr)) (HBf.out.2.below (hb5.mono hwr)))
          have hw5 : w2.heap.size ≤ w5.heap.size := Nat.le_trans hwr hb5.size
          clear hlr hb5 hwr
          go_wp2_with fail
          refine (HGv.out w5 hl5).mono ?_
          rintro e w6 ⟨A6, c6, rfl, hC6, hb6⟩
          have hl6 := bl_trans hl5 hb6
          have HB6 := Lib.hid (And.intro (HB5.out.1.below (hb6.mono hw5)) (HB5.out.2.below (hb6.mono hw5)))
          have hw6 : w2.heap.size ≤ w6.heap.size := Nat.le_trans hw5 hb6.size
          clear hl5 hb6 hw5
          go_wp2_with fail
          refine (HGv2.out w6 hl6).mono ?_
          rintro e w7 ⟨A7, c7, rfl, hC7, hb7⟩
          have hl7 := bl_trans hl6 hb7
          have HB7 := Lib.hid (And.intro (HB6.out.1.below (hb7.mono hw6)) (HB6.out.2.below (hb7.mono hw6)))
          have hw7 : w2.heap.size ≤ w7.heap.size := Nat.le_trans hw6 hb7.size
          have HS1 := Lib.hid (csame_any A6 A7 n n2 c6 c7 ss ts w7 (hC6.step hb7) hC7 (by omega) (by omega))
          clear hl6 hb7 hw6 hC6 hC7
          generalize decide (ss.map cpK = ts.map cpK) = D at *
          go_wp2_with fail
          refine HS1.out.mono ?_
          rintro e w8 ⟨rfl, hb8⟩
          have hl8 := bl_trans hl7 hb8
          have HB8 := Lib.hid (And.intro (HB7.out.1.below (hb8.mono hw7)) (HB7.out.2.below (hb8.mono hw7)))
          have hw8 : w2.heap.size ≤ w8.heap.size := Nat.le_trans hw7 hb8.size
          clear hl7 hb8 hw7
          go_wp2_with fail
          refine (HSm.out w8 hl8).mono ?_
          rintro e w9 ⟨rfl, hb9⟩
          have hl9 := bl_trans hl8 hb9
          have HB9 := Lib.hid (And.intro (HB8.out.1.below (hb9.mono hw8)) (HB8.out.2.below (hb9.mono hw8)))
          have hw9 : w2.heap.size ≤ w9.heap.size := Nat.le_trans hw8 hb9.size
          have hDD : (D == D) = true := by simp
          clear hl8 hb9 hw8
          go_wp2_with fail
          refine (HGv.out w9 hl9).mono ?_
          rintro e w10 ⟨A10, c10, rfl, hC10, hb10⟩
          have hl10 := bl_trans hl9 hb10
          have HB10 := Lib.hid (And.intro (HB9.out.1.below (hb10.mono hw9)) (HB9.out.2.below (hb10.mono hw9)))
          have hw10 : w2.heap.size ≤ w10.heap.size := Nat.le_trans hw9 hb10.size
          clear hl9 hb10 hw9
          go_wp2_with fail
          refine (HGv.out w10 hl10).mono ?_
          rintro e w11 ⟨A11, c11, rfl, hC11, hb11⟩
          have hl11 := bl_trans hl10 hb11
          have HB11 := Lib.hid (And.intro (HB10.out.1.below (hb11.mono hw10)) (HB10.out.2.below (hb11.mono hw10)))
          have hw11 : w2.heap.size ≤ w11.heap.size := Nat.le_trans hw10 hb11.size
          have HS2 := Lib.hid (csame_any A10 A11 n n c10 c11 ss ss w11 (hC10.step hb11) hC11 (by omega) (by omega))
          rw [decide_eq_true rfl] at HS2
          clear hl10 hb11 hw10 hC10 hC11
          go_wp2_with fail
          refine HS2.out.mono ?_
          rintro e w12 ⟨rfl, hb12⟩
          have hl12 := bl_trans hl11 hb12
          have HE := Lib.hid (bytesEq_any A3 A1 n1 n1 c3 c1 F F w12 _ _ (HB11.out.2.below (hb12.mono hw11)) (HB11.out.1.below (hb12.mono hw11)) (by omega) (by omega))
          rw [decide_eq_true rfl] at HE
          clear hl11 hb12 hw11
          cases ok with
          | false =>
            go_wp2
            go_ret
            exact ⟨rfl, hl12⟩
          | true =>
            go_wp2_with fail
            refine HE.out.mono ?_
            rintro e w13 ⟨rfl, m, rfl⟩
            go_wp2
            go_ret
            exact ⟨rfl, bl_drewN hl12 m⟩
end Go.Proofs.Ytnndaolpjjdgiaa
