/- community.Bytes and its reference -/
import Derived.Test.YtngeldgohijheaaDoorCmA
import Derived.Test.YtngeldgohijheaaDoorCmG
import Derived.Test.YtngeldgohijheaaDoorSgC
namespace Go.Proofs.YtngeldgohijheaaDoor
open Go.RowKit Go.Sort

def cmForm (ls : List Int) : List Int := ls.flatMap (digitsOf 4)
theorem cmForm_len (ls : List Int) : (cmForm ls).length = 4 * ls.length := digs_len 4 ls
set_option maxRecDepth 100000 in
theorem cmbytes_no (a : At) (w : World) (hm : a.n2 ≤ maxLen) (hv : cmOk a = false) :
    Calls Tryd.prog 12 #[.agg (atc a)] w fun e w' => e = .returned (.tuple #[.slice none 0 0, .bool false]) ∧ Below w.heap.size w w' := by
  have hV := Lib.hid (fun W => cmvalid_any a W hm)
  rw [hv] at hV
  clear hv hm
  obtain ⟨k, p, N, M, A1, n1, c1, A2, n2, c2, A3, n3, c3, f, A4, n4, c4⟩ := a
  unfold atc at *
  dsimp only at *
  have hb0 := bl_alloc (bl_refl w) (.cells #[.int .i64 k, .bool p, .int .u32 N, .int .u32 M, .slice A1 n1 c1, .slice A2 n2 c2, .slice A3 n3 c3, .int .i64 f, .slice A4 n4 c4] 29)
  go_enter Tryd.func12, Tryd.ntmps12
  go_wp2_with fail
  refine (hV.out _).mono ?_
  rintro e w1 ⟨rfl, hb1⟩
  go_wp2
  go_ret2
  exact ⟨rfl, bl_trans hb0 hb1⟩
set_option maxRecDepth 100000 in
theorem rcmbytes_no (a : At) (w : World) (hm : a.n2 ≤ maxLen) (hv : cmOk a = false) :
    Calls Tryd.prog 19 #[.agg (atc a)] w fun e w' => e = .returned (.tuple #[.slice none 0 0, .bool false]) ∧ Below w.heap.size w w' := by
  have hV := Lib.hid (fun W => rcmvalid_any a W hm)
  rw [hv] at hV
  clear hv hm
  obtain ⟨k, p, N, M, A1, n1, c1, A2, n2, c2, A3, n3, c3, f, A4, n4, c4⟩ := a
  unfold atc at *
  dsimp only at *
  have hb0 := bl_alloc (bl_refl w) (.cells #[.int .i64 k, .bool p, .int .u32 N, .int .u32 M, .slice A1 n1 c1, .slice A2 n2 c2, .slice A3 n3 c3, .int .i64 f, .slice A4 n4 c4] 29)
  go_enter Tryd.func19, Tryd.ntmps19
  go_wp2_with fail
  refine (hV.out _).mono ?_
  rintro e w1 ⟨rfl, hb1⟩
  go_wp2
  go_ret2
  exact ⟨rfl, bl_trans hb0 hb1⟩
set_option maxRecDepth 100000 in
set_option maxHeartbeats 3200000 in
theorem cmbytes_yes (a : At) (ls : List Int) (w : World) (hU : U32s w w.heap.size a.A2 a.n2 ls) (hR : U32L ls) (hn : a.n2 ≤ 1000) (hv : cmOk a = true) :
    Calls Tryd.prog 12 #[.agg (atc a)] w fun e w' => ∃ A, e = .returned (.tuple #[.slice A (cmForm ls).length (cmForm ls).length, .bool true]) ∧ Bytes w' w'.heap.size A (cmForm ls).length (cmForm ls) ∧ Below w.heap.size w w' := by
  have hV := Lib.hid (fun W => cmvalid_any a W (by unfold maxLen; omega))
  rw [hv] at hV
  have HP := Lib.hid (putS 4 (.inr rfl))
  have HU := Lib.hid hU
  have HN := Lib.hid hU.1
  have HR := Lib.hid hR
  have HFl := Lib.hid (cmForm_len ls)
  clear hv hU hR
  rw [show (4 : Int).toNat = 4 from rfl] at HP
  obtain ⟨k, p, N, M, A1, n1, c1, A2, n2, c2, A3, n3, c3, f, A4, n4, c4⟩ := a
  unfold atc at *
  dsimp only at *
  have hb0 := bl_alloc (bl_refl w) (.cells #[.int .i64 k, .bool p, .int .u32 N, .int .u32 M, .slice A1 n1 c1, .slice A2 n2 c2, .slice A3 n3 c3, .int .i64 f, .slice A4 n4 c4] 29)
  have o0 := Own.new w 29 #[.int .i64 k, .bool p, .int .u32 N, .int .u32 M, .slice A1 n1 c1, .slice A2 n2 c2, .slice A3 n3 c3, .int .i64 f, .slice A4 n4 c4]
  go_enter Tryd.func12, Tryd.ntmps12
  go_wp2_with fail
  refine (hV.out _).mono ?_
  rintro e w1 ⟨rfl, hb1⟩
  have o1 := o0.step hb1
  have hb2 := bl_trans hb0 hb1
  have e5 := o1.cell (i := 5) rfl
  go_wp2_with fail
  go_loopw [4, 15] (fun v i wr => ∃ (j : Nat) (ps : List Part), j ≤ n2 ∧ i = .int .i64 j ∧ Pile w wr v ps ∧ Hid (flat ps = (ls.take j).flatMap (digitsOf 4)) ∧ ps.length = j) (fun _ i _ => n2 - (intOf i).toNat)
  case atStart => exact ⟨0, [], Nat.zero_le _, rfl, ⟨World.ownsRow_nil _ _ _ _, by simp, hb2⟩, Lib.hid (by simp [flat]), rfl⟩
  case round =>
    obtain ⟨j, ps, hj, rfl, hpile, hflat, hpl⟩ := hrel
    clear o1 o0 hb0 hb1 hb2 e5
    by_cases hlt : j < n2
    · obtain ⟨b, o, rfl, hbB, e1⟩ := (HU.out.below hpile.2.2).at_ hlt
      have hq1 := Lib.hid (show j < ls.length by rw [← HN.out]; exact hlt)
      have hD := Lib.hid (digs_step (K := 4) hq1.out)
      have hxr := HR.out _ (nth_mem hq1.out)
      have hP := Lib.hid (HP.out (nth ls j) hxr.1 hxr.2 (fun e => by cases e))
      generalize nth ls j = x at *
      have HPl := Lib.hid hpl
      clear hxr hpl
      go_wp2_with fail
      refine (hP.out _).mono ?_
      rintro e w6 ⟨rfl, ho6, hb6⟩
      have hpq6 := Lib.hid (hpile.step hb6)
      have hq6 := Lib.hid (pt_digs ho6)
      have hs6 := hpq6.out.2.2.size
      have hpl6 : ps.length ≤ 1000 := by have := HPl.out; omega
      clear hpile
      go_wp2_with (at_builtin; refine wpList_append_grow _ rfl _ _ rfl sl_slices w.heap.size _ _ _ rfl (hpq6.out.1.alloc _) (w6.heap.size + 1) (some ⟨w6.heap.size, 0, none⟩) 1 1 [_] rfl rfl (Shows.of_owned (Own.new _ _ _) (by simp)) (one1 rfl) (by unfold maxLen; omega) (by omega) (by simp; omega) ?_; intro v7 w7 hown_w7 hgrow_w7)
      have hpile7 := hpq6.out.more hq6.out hown_w7 hgrow_w7
      go_roundw
      case rel =>
        refine ⟨j + 1, _, by omega, by go_num, hpile7, Lib.hid ?_, by rw [List.length_append, List.length_singleton, HPl.out]⟩
        rw [flat_app, hflat.out, hD.out]
      case measure => simp [intOf]; omega
    · have hjn := Lib.hid (show j = ls.length by have := HN.out; omega)
      obtain ⟨A7, c7, rfl, hP⟩ := pt_parts hpile.1 hpile.2.1
      have hfl := Lib.hid (show flat ps = cmForm ls by rw [hflat.out, hjn.out, List.take_length]; rfl)
      have hpl2 : ps.length ≤ 1000 := by omega
      clear hpl
      go_wp2_with fail
      refine (cat_own hP (by omega) (by rw [hfl.out]; have := HFl.out; have := HN.out; omega)).mono ?_
      rw [hfl.out]
      rintro e w3 ⟨rfl, ho3, hb3⟩
      have hbb := bl_trans hpile.2.2 hb3
      have hby := Bytes.of_owned ho3 (B := w3.heap.size) (by
        intro x hx
        obtain ⟨y, _, hy⟩ := List.mem_flatMap.1 hx
        exact digitsOf_range 4 y x hy) ho3.lt
      go_wp2
      go_ret2
      exact ⟨_, rfl, hby, hbb⟩
end Go.Proofs.YtngeldgohijheaaDoor
