/- peerageref11.Fold: the first verdict than which none is worse -/
import Derived.Test.YtmcmhljonkijjaaDoorVs
import Derived.Test.YtmcmhljonkijjaaDoorQlm
namespace Go.Proofs.YtmcmhljonkijjaaDoor
open Go.RowKit Go.Sort

def bestV (vs : List Vd) (v : Vd) : Bool := vs.all (fun u => !vWorse u v)
def foldV (vs : List Vd) : Vd := (vs.find? (bestV vs)).getD vd0
theorem foldV_at {vs : List Vd} {i : Nat} (hi : i < vs.length) (h : ∀ v ∈ vs.take i, bestV vs v = false) (hb : bestV vs (nthV vs i) = true) : foldV vs = nthV vs i := by
  have hd : vs = vs.take i ++ nthV vs i :: vs.drop (i + 1) := by
    conv => lhs; rw [← List.take_append_drop (i + 1) vs, take_nthV hi]
    simp
  unfold foldV
  generalize bestV vs = p at *
  generalize nthV vs i = y at *
  rw [hd, List.find?_append, List.find?_eq_none.2 (by intro v hv; simp [h v hv])]
  simp [hb]
theorem foldV_no {vs : List Vd} (h : ∀ v ∈ vs, bestV vs v = false) : foldV vs = vd0 := by
  unfold foldV
  rw [List.find?_eq_none.2 (by intro v hv; simp [h v hv])]
  rfl
theorem foldV_ok {vs : List Vd} {w : World} {B : Nat} (h : ∀ v ∈ vs, v.Ok w B) : (foldV vs).Ok w B := by
  unfold foldV
  cases hf : vs.find? (bestV vs) with
  | none => exact ⟨Bytes.nil _ _ _, by decide, by decide⟩
  | some v => exact h v (List.mem_of_find?_eq_some hf)
set_option maxRecDepth 100000 in
theorem vdc_info (k c s t : Int) (A : Option Addr) (n cp : Nat) : (Tryd.prog.info? 40).map (·.size) = some (#[Value.int .i64 k, .int .i64 c, .int .i64 s, .slice A n cp, .int .i64 t]).size := by kernel_rfl
theorem vdc_one (k c s t : Int) (A : Option Addr) (n cp : Nat) : (#[Value.int .i64 k, .int .i64 c, .int .i64 s, .slice A n cp, .int .i64 t]).all (·.oneCell') = true := by simp [Value.oneCell']
theorem results_cell1 {P : Program} {fn : Func} {p : Tmp} {ty : TypeId} (h : fn.results = #[.cell p ty]) (tmps : Array Value) (w : World) (g : Nat) (T : TypeId) (cs : Array Value) (d : TypeDesc)
    (hp : tmps.getD p undef = .pointer (some ⟨g, 0, none⟩)) (hg : Own w g T cs) (hu : P.underlying ty = some d) (hd : (match d with | .struct _ | .array _ _ => true | _ => false) = true) (hi : (P.info? ty).map (·.size) = some cs.size) :
    (results fn tmps).run P w = .ok (.agg cs) w := by
  have hp' : tmps[p]?.getD undef = .pointer (some ⟨g, 0, none⟩) := by simpa using hp
  simp [results, h, hp', asAddr, run_loadVar_row w g T ty cs (0, 0) d hg hu hd hi]
set_option maxRecDepth 100000 in
theorem vdc_desc : Tryd.prog.underlying 40 = some (.struct (Tryd.prog.fieldsOf 40)) := by kernel_rfl
theorem range_rg {w : World} {b o : Nat} {cs : List Value} {B : Nat} (hb : b < B) (hB : B ≤ w.heap.size) (h : w.rangeAt b o cs) : ∀ w', (∃ p : Regrown, w' = grow (redrawn w p.d) p.os) → w'.rangeAt b o cs := by
  rintro w' ⟨p, rfl⟩
  have hg := below_regrown w p.d p.os
  exact fun j u hu => (World.cell?_of_block (a := ⟨b, _, none⟩) (hg.block b (by omega))).trans (h j u hu)
set_option maxRecDepth 100000 in
set_option maxHeartbeats 1600000 in
theorem rfold_any (A : Option Addr) (n c : Nat) (vs : List Vd) (w : World) (h : Vds w w.heap.size A n vs) (hm : n ≤ maxLen) :
    Calls Tryd.prog 25 #[.slice A n c] w fun e w' => e = .returned (.agg (vdc (foldV vs))) ∧ Below w.heap.size w w' := by
  unfold maxLen at hm
  have HN := Lib.hid h.1
  have HV := Lib.hid h
  have o0 := Own.new w 40 #[.int .i64 0, .int .i64 0, .int .i64 0, .slice none 0 0, .int .i64 0]
  have hb0 := bl_alloc (bl_refl w) (.cells #[.int .i64 0, .int .i64 0, .int .i64 0, .slice none 0 0, .int .i64 0] 40)
  clear h
  go_enter Tryd.func25, Tryd.ntmps25
  go_wp2
  go_loopw [3] (fun i wr => (∃ j : Nat, j ≤ n ∧ i = .int .i64 j ∧ Hid (∀ v ∈ vs.take j, bestV vs v = false)) ∧ Own wr w.heap.size 40 #[.int .i64 0, .int .i64 0, .int .i64 0, .slice none 0 0, .int .i64 0] ∧ Below w.heap.size w wr) (fun i _ => n - (intOf i).toNat)
  case atStart => exact ⟨⟨0, Nat.zero_le _, rfl, Lib.hid (by simp)⟩, o0, hb0⟩
  case round =>
    obtain ⟨⟨j, hj, rfl, hno⟩, o1, hbw⟩ := hrel
    clear o0 hb0
    by_cases hlt : j < n
    · have hjl := Lib.hid (show j < vs.length by have := HN.out; omega)
      go_wp2
      go_loopw [4, 5] (fun b k wr => (∃ m : Nat, m ≤ n ∧ k = .int .i64 m ∧ b = .bool ((vs.take m).all (fun u => !vWorse u (nthV vs j)))) ∧ Own wr w.heap.size 40 #[.int .i64 0, .int .i64 0, .int .i64 0, .slice none 0 0, .int .i64 0] ∧ Below w.heap.size w wr) (fun _ k _ => n - (intOf k).toNat)
      case atStart => exact ⟨⟨0, Nat.zero_le _, rfl, rfl⟩, o1, hbw⟩
      case round =>
        obtain ⟨⟨m, hm2, rfl, rfl⟩, o2, hb2⟩ := hrel
        clear o1 hbw
        by_cases hlm : m < n
        · obtain ⟨b, o, rfl, hbB, hok1, hr1⟩ := (HV.out.below hb2).at_ hlm
          obtain ⟨b', o', hA, _, hok2, hr2⟩ := (HV.out.below hb2).at_ hlt
          have hA2 : b' = b ∧ o' = o := by cases hA; exact ⟨rfl, rfl⟩
          obtain ⟨rfl, rfl⟩ := hA2
          have hst := Lib.hid (show (vs.take (m + 1)).all (fun u => !vWorse u (nthV vs j)) = ((vs.take m).all (fun u => !vWorse u (nthV vs j)) && !vWorse (nthV vs m) (nthV vs j)) by rw [take_nthV (by have := HN.out; omega), List.all_append]; simp)
          generalize (vs.take m).all (fun u => !vWorse u (nthV vs j)) = q at *
          have hwc := Lib.hid (rg_of (w := wr) (fun W _ => rworse_any (nthV vs m) (nthV vs j) W))
          generalize vWorse (nthV vs m) (nthV vs j) = wo at *
          have r1 := Lib.hid (range_rg (w := wr) hbB hb2.size hr1)
          have r2 := Lib.hid (range_rg (w := wr) hbB hb2.size hr2)
          generalize hvm : nthV vs m = v1 at *
          generalize hvj : nthV vs j = v2 at *
          clear hok1 hok2 hr1 hr2 hA
          have i1 : Hid ((Tryd.prog.info? 40).map (·.size) = some ([Value.int .i64 v1.k, .int .i64 v1.c, .int .i64 v1.s, .slice v1.A v1.n v1.cp, .int .i64 v1.t]).length) := Lib.hid (by kernel_rfl)
          have i2 : Hid ((Tryd.prog.info? 40).map (·.size) = some ([Value.int .i64 v2.k, .int .i64 v2.c, .int .i64 v2.s, .slice v2.A v2.n v2.cp, .int .i64 v2.t]).length) := Lib.hid (by kernel_rfl)
          unfold vdc at hwc r1 r2
          obtain ⟨k1, c1, s1, A1, n1, p1, x1, t1⟩ := v1
          obtain ⟨k2, c2, s2, A2, n2, p2, x2, t2⟩ := v2
          dsimp only at hwc r1 r2 i1 i2
          go_wp2_with fail
          cases q
          · refine wp_region_quiet_below (by kernel_rfl) (by kernel_rfl) ?_
            repeat (first
              | go_big_quiet_skip
              | go_big_quiet_step (fail))
            refine wpQuiet_nil ?_
            rintro _ ⟨⟨dq, osq⟩, rfl⟩
            have hgw := below_regrown wr dq osq
            have o3 := o2.step hgw
            have hb3 := bl_trans hb2 hgw
            generalize grow (redrawn wr dq) osq = w3 at *
            clear hwc r1 r2 o2 hb2 hgw
            go_wp2
            go_roundw
            case rel => exact ⟨⟨m + 1, by omega, by go_num, by rw [hst.out]; rfl⟩, o3, hb3⟩
            case measure => simp [intOf]; omega
          · refine wp_region_quiet_below (by kernel_rfl) (by kernel_rfl) ?_
            repeat (first
              | go_big_quiet_skip
              | (refine wpQuiet_load_mid (by rfl) 40 _ rfl b' (o' + m * 5) rfl [.int .i64 k1, .int .i64 c1, .int .i64 s1, .slice A1 n1 p1, .int .i64 t1] (.struct (Tryd.prog.fieldsOf 40)) r1.out vdc_desc rfl i1.out ?_; go_simp)
              | (refine wpQuiet_load_mid (by rfl) 40 _ rfl b' (o' + j * 5) rfl [.int .i64 k2, .int .i64 c2, .int .i64 s2, .slice A2 n2 p2, .int .i64 t2] (.struct (Tryd.prog.fieldsOf 40)) r2.out vdc_desc rfl i2.out ?_; go_simp)
              | go_big_quiet_step (with_reducible exact hwc.out _ _))
            refine wpQuiet_nil ?_
            rintro ⟨dq, osq⟩
            have hgw := below_regrown wr dq osq
            have o3 := o2.step hgw
            have hb3 := bl_trans hb2 hgw
            generalize grow (redrawn wr dq) osq = w3 at *
            clear hwc r1 r2 o2 hb2 hgw
            go_wp2
            go_roundw
            case rel => exact ⟨⟨m + 1, by omega, by go_num, by rw [hst.out]; rfl⟩, o3, hb3⟩
            case measure => simp [intOf]; omega
        · obtain rfl : m = n := by omega
          have htk : vs.take m = vs := List.take_of_length_le (by rw [← HN.out]; exact Nat.le_refl _)
          rw [htk]
          obtain ⟨b, o, rfl, hbB, hok2, hr2⟩ := (HV.out.below hb2).at_ hlt
          have HB := Lib.hid (show vs.all (fun u => !vWorse u (nthV vs j)) = bestV vs (nthV vs j) from rfl)
          have HY := Lib.hid (foldV_at hjl.out hno.out)
          have HT := Lib.hid (take_nthV hjl.out)
          generalize vs.all (fun u => !vWorse u (nthV vs j)) = q at *
          generalize hvj : nthV vs j = v2 at *
          obtain ⟨d0, d1, d2, d3, d4⟩ := range5 hr2
          obtain ⟨k2, c2, s2, A2, n2, p2, x2, t2⟩ := v2
          clear hok2 hr2 htk
          dsimp only at d0 d1 d2 d3 d4
          cases q
          · go_wp2
            go_roundw
            case rel =>
              refine ⟨⟨j + 1, by omega, by go_num, Lib.hid ?_⟩, o2, hb2⟩
              rw [HT.out]
              intro v hv
              rcases List.mem_append.1 hv with hv | hv
              · exact hno.out v hv
              · rw [List.mem_singleton] at hv
                rw [hv]
                exact HB.out.symm
            case measure => simp [intOf]; omega
          · go_wp2_with (refine wpList_store_row rfl 40 _ _ rfl w.heap.size #[.int .i64 k2, .int .i64 c2, .int .i64 s2, .slice A2 n2 p2, .int .i64 t2] rfl rfl 40 #[.int .i64 0, .int .i64 0, .int .i64 0, .slice none 0 0, .int .i64 0] o2 (vdc_info _ _ _ _ _ _ _) rfl (vdc_one _ _ _ _ _ _ _) ?_)
            have o3 := o2.setRow (cs' := #[.int .i64 k2, .int .i64 c2, .int .i64 s2, .slice A2 n2 p2, .int .i64 t2])
            refine bodyPost_ret (results_cell1 (p := 2) (fn := Tryd.f25) rfl _ _ w.heap.size 40 #[.int .i64 k2, .int .i64 c2, .int .i64 s2, .slice A2 n2 p2, .int .i64 t2] _ rfl o3 vdc_desc rfl (vdc_info _ _ _ _ _ _ _)) rfl ⟨?_, bl_setRow (g := w.heap.size) (cs := #[.int .i64 k2, .int .i64 c2, .int .i64 s2, .slice A2 n2 p2, .int .i64 t2]) hb2 (Nat.le_refl _)⟩
            rw [HY.out HB.out.symm]
            rfl
    · obtain rfl : j = n := by omega
      have HF := Lib.hid (show foldV vs = vd0 from foldV_no (by have := hno.out; rwa [List.take_of_length_le (by rw [← HN.out]; exact Nat.le_refl _)] at this))
      go_wp2_with (refine wpList_store_row rfl 40 _ _ rfl w.heap.size #[.int .i64 0, .int .i64 0, .int .i64 0, .slice none 0 0, .int .i64 0] rfl rfl 40 #[.int .i64 0, .int .i64 0, .int .i64 0, .slice none 0 0, .int .i64 0] o1 (vdc_info _ _ _ _ _ _ _) rfl (vdc_one _ _ _ _ _ _ _) ?_)
      have o2 := o1.setRow (cs' := #[.int .i64 0, .int .i64 0, .int .i64 0, .slice none 0 0, .int .i64 0])
      refine bodyPost_ret (results_cell1 (p := 2) (fn := Tryd.f25) rfl _ _ w.heap.size 40 #[.int .i64 0, .int .i64 0, .int .i64 0, .slice none 0 0, .int .i64 0] _ rfl o2 vdc_desc rfl (vdc_info _ _ _ _ _ _ _)) rfl ⟨?_, bl_setRow (g := w.heap.size) (cs := #[.int .i64 0, .int .i64 0, .int .i64 0, .slice none 0 0, .int .i64 0]) hbw (Nat.le_refl _)⟩
      rw [HF.out]
      rfl
end Go.Proofs.YtmcmhljonkijjaaDoor
