/- prefix.Text at prefixes of family 1 -/
import Derived.Test.YtiehbmhekncbhaaDoorTen
import Derived.Test.YtiehbmhekncbhaaDoorPfxC
namespace Go.Proofs.YtiehbmhekncbhaaDoor
open Go.RowKit Go.Sort

set_option maxRecDepth 100000 in
theorem sl_strs : SliceOf Tryd.prog 111 9 1 16 := SliceOf.mk Tryd.underlying111 (z := .string ⟨#[]⟩) (by kernel_rfl) rfl (by decide)
def wordsV (xs : List ByteArray) : List Value := xs.map Value.string
def words10 (a : List Int) (k : Nat) : List ByteArray := (a.take k).map decB
theorem words10_len {a : List Int} {k : Nat} (h : k ≤ a.length) : (words10 a k).length = k := by simp [words10]; omega
theorem words10_step {a : List Int} {k : Nat} (hk : k < a.length) : words10 a k ++ [decB (nth a k)] = words10 a (k + 1) := by
  unfold words10
  rw [List.take_succ_eq_append_getElem hk, List.map_append]
  simp [nth, List.getD_eq_getElem?_getD, hk]
set_option maxRecDepth 100000 in
set_option maxHeartbeats 800000 in
theorem ptext4_addr (l : Int) (a : List Int) (w : World) (ha : IsAddr a) (ht : Tens w) :
    Calls Tryd.prog 81 #[.agg (pfx 1 l a)] w fun e w' => e = .returned (.string (joinB (words10 a 4) [46])) ∧ Below w.heap.size w w' := by
  have HS := Lib.hid (pfx_size (f := 1) (l := l) ha.1)
  have ho := Own.new w 28 (pfx 1 l a)
  have hb0 := bl_alloc (bl_refl w) (.cells (pfx 1 l a) 28)
  have c0 := ho.cell (pfx_0 1 l a)
  have hown0 := World.ownsRow_nil (w.alloc (.cells (pfx 1 l a) 28)) w.heap.size 9 1
  have hlt0 := ho.lt
  go_enter Tryd.func81, Tryd.ntmps81
  go_wp2
  go_loopw [3, 14] (fun v i wr => ∃ k : Nat, k ≤ 4 ∧ i = .int .i64 k ∧ wr.ownsRow w.heap.size 9 1 v k (wordsV (words10 a k)) ∧ Own wr w.heap.size 28 (pfx 1 l a) ∧ Below w.heap.size w wr) (fun _ i _ => 4 - (intOf i).toNat)
  case atStart => exact ⟨0, by omega, rfl, hown0, ho, hb0⟩
  case round =>
    obtain ⟨k, hkz, rfl, hown, hor, hbr⟩ := hrel
    clear ho hb0 c0 hown0 hlt0
    by_cases hlt : k < 4
    · have hk16 : k < 16 := by omega
      have hcell := hor.cell ((pfx_at 1 l a k).trans (ha.at_ hk16).1)
      have hr := (ha.at_ hk16).2
      have hfs := Lib.hid (words10_step (a := a) (k := k) (by rw [ha.1]; exact hk16))
      have htr := ht.below hbr
      go_wp2_with fail
      refine (itoa_any (nth a k) hr.1 (by omega) _ htr).mono ?_
      rintro e w1 ⟨rfl, hb1⟩
      have hown1 := hown.kept (only_of_below hb1 none) (Classical.em _)
      have hor1 := hor.step hb1
      have hbr1 := bl_trans hbr hb1
      have hbb := hbr1.size
      clear hown hor hbr hb1 hcell
      go_wp2_with (at_builtin; refine wpList_append_grow _ rfl _ _ rfl sl_strs w.heap.size _ _ _ rfl (hown1.alloc _) (w1.heap.size + 1) (some ⟨w1.heap.size, 0, none⟩) 1 1 [_] rfl rfl (Shows.of_owned (Own.new _ _ _) (by omega)) (one1 rfl) (by unfold maxLen; omega) (by omega) (by simp; omega) ?_; intro v1 w2 hown2 hgrow2)
      have hb2 : Below w.heap.size w w2 := (hbr1.alloc hbb _).grown hgrow2 (by simp; omega) (own_base hown1)
      have hor2 : Own w2 w.heap.size 28 (pfx 1 l a) := (hor1.alloc _).grown hgrow2 (by intro e; have h3 := own_blk hown1 hor1 (by decide); exact h3 e.symm)
      go_roundw
      case rel =>
        refine ⟨k + 1, by omega, by go_num, ?_, hor2, hb2⟩
        unfold wordsV
        rw [← hfs.out, List.map_append]
        exact hown2
      case measure => simp [intOf]; omega
    · obtain rfl : k = 4 := by omega
      have hl := words10_len (a := a) (k := 4) (by rw [ha.1]; omega)
      have HW := Lib.hid (show wr.ownsRow w.heap.size 9 1 _ (words10 a 4).length (wordsV (words10 a 4)) by rw [hl]; exact hown)
      clear hown
      go_wp2_with fail
      refine (join_row 19 ⟨#[46]⟩ HW.out (by rw [hl]; omega) ?_ (by omega) (by decide)).mono ?_
      · intro x hx
        obtain ⟨y, hy, rfl⟩ := List.mem_map.1 hx
        have := ha.2 y (List.mem_of_mem_take hy)
        exact dec_len (by omega)
      · rintro e w2 ⟨rfl, hb2⟩
        have hb3 := bl_trans hbr hb2
        go_wp2
        go_ret
        exact ⟨rfl, hb3⟩

/-- The text of a prefix of family 1. -/
def ptext4 (l : Int) (a : List Int) : ByteArray := joinB (words10 a 4) [46] ++ ⟨#[47]⟩ ++ decB l
set_option maxRecDepth 100000 in
set_option maxHeartbeats 800000 in
theorem ptext4_yes (l : Int) (a : List Int) (w : World) (ha : IsAddr a) (ht : Tens w) (hk : pfxOk 1 l a = true) :
    Calls Tryd.prog 30 #[.agg (pfx 1 l a)] w fun e w' => e = .returned (.string (ptext4 l a)) ∧ Below w.heap.size w w' := by
  have HS := Lib.hid (pfx_size (f := 1) (l := l) ha.1)
  have hl := pfxOk_range hk
  have HK := Lib.hid hk
  have ho := Own.new w 28 (pfx 1 l a)
  have hb0 := bl_alloc (bl_refl w) (.cells (pfx 1 l a) 28)
  clear hk
  go_enter Tryd.func30, Tryd.ntmps30
  go_wp2_with (refine wpList_load_row rfl 28 _ rfl w.heap.size rfl 28 (pfx 1 l a) (0, 0) (.struct (Tryd.prog.fieldsOf 28)) (Own.new w _ _) (by kernel_rfl) rfl (by rw [HS.out]; kernel_rfl) ?_)
  refine (pvalid_any 1 l a _ ha).mono ?_
  rw [HK.out]
  rintro e w1 ⟨rfl, hb1⟩
  have ho1 := ho.step hb1
  have hb2 := bl_trans hb0 hb1
  have ht1 := ht.below hb2
  clear ho hb0 hb1
  go_wp2_with fail
  refine wp_region_quiet_below (by kernel_rfl) (by kernel_rfl) ?_
  have HC := Lib.hid (rg_of (w := w1) (fun W hW => ptext4_addr l a W ha (ht1.below hW)))
  have HD := Lib.hid (rg_of (w := w1) (fun W hW => itoa_any l hl.1 (by omega) W (ht1.below hW)))
  have c1 := cell_regrown (ho1.cell (pfx_1 1 l a))
  have s1 := joinB_size (k := 19) (s := 1) (xs := words10 a 4) (sep := [46]) (by intro x hx; obtain ⟨y, hy, rfl⟩ := List.mem_map.1 hx; have := ha.2 y (List.mem_of_mem_take hy); exact decB_size (by omega)) (by decide)
  rw [words10_len (by rw [ha.1]; omega)] at s1
  have s2 := decB_size (n := l) (by omega)
  have n1 : ¬ 9223372036854775807 < (joinB (words10 a 4) [46]).size + 1 := by omega
  have n2 : ¬ 9223372036854775807 < (joinB (words10 a 4) [46]).size + 1 + (decB l).size := by omega
  refine wpQuiet_load_row (by rfl) 28 _ rfl w.heap.size rfl 28 (pfx 1 l a) (.struct (Tryd.prog.fieldsOf 28)) ho1.rg (by kernel_rfl) rfl (by rw [HS.out]; kernel_rfl) ?_
  go_simp
  repeat (go_big_quiet_step (first | exact HC.out _ _ | exact HD.out _ _))
  refine wpQuiet_nil ?_
  rintro ⟨dq, osq⟩
  have hb3 := bl_trans hb2 (below_regrown w1 dq osq)
  generalize grow (redrawn w1 dq) osq = w2 at *
  go_wp2
  go_ret
  exact ⟨rfl, hb3⟩
end Go.Proofs.YtiehbmhekncbhaaDoor
