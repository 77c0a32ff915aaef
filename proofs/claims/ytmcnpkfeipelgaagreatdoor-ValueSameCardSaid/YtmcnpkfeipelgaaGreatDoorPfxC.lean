/- peerageref02.Bytes -/
import Derived.Test.YtmcnpkfeipelgaaGreatDoorPfxB
namespace Go.Proofs.YtmcnpkfeipelgaaGreatDoor
open Go.RowKit

set_option maxRecDepth 100000 in
theorem rpbytes_no (f l : Int) (a : List Int) (w : World) (ha : IsAddr a) (hk : pfxOk f l a = false) :
    Calls Tryz.prog 166 #[.agg (pfx f l a)] w fun e w' => e = .returned (.tuple #[.slice none 0 0, .bool false]) ∧ Below w.heap.size w w' := by
  have hs := pfx_size (f := f) (l := l) ha.1
  have HS := Lib.hid hs
  clear hs
  go_enter Tryz.func166, Tryz.ntmps166
  go_wp2_with (refine wpList_load_row rfl 54 _ rfl w.heap.size rfl 54 (pfx f l a) (0, 0) (.struct (Tryz.prog.fieldsOf 54)) (Own.new w _ _) (by kernel_rfl) rfl (by rw [HS.out]; kernel_rfl) ?_)
  refine (rpvalid_any f l a _ ha).mono ?_
  rw [hk]
  rintro e w1 ⟨rfl, hb⟩
  go_wp2
  go_ret2
  exact ⟨rfl, bl_trans (bl_alloc (bl_refl w) _) hb⟩

theorem own_blk {w : World} {base g : Nat} {e t : TypeId} {size n : Nat} {v : Value} {xs : List Value} {cs : Array Value} (h : w.ownsRow base e size v n xs) (ho : Own w g t cs) (hne : e ≠ t) : v.ownBlock ≠ some g := by
  rcases h.2 with ⟨rfl, _⟩ | ⟨g', cap, cur, rfl, _, hg, _⟩
  · simp [Value.ownBlock]
  · intro he
    have : g' = g := by simpa [Value.ownBlock] using he
    subst this
    unfold Own at ho
    rw [hg] at ho
    injection ho with ho
    injection ho with _ h2 _
    exact hne h2
theorem form_step {l : Int} {a : List Int} {k : Nat} (ha : a.length = 16) (hk : k < 16) : (l :: a.take k) ++ [nth a k] = l :: a.take (k + 1) := by
  rw [take_nth (by omega)]; rfl

set_option maxHeartbeats 800000 in
set_option maxRecDepth 100000 in
theorem rpbytes_yes (f l : Int) (a : List Int) (w : World) (ha : IsAddr a) (hk : pfxOk f l a = true) :
    Calls Tryz.prog 166 #[.agg (pfx f l a)] w fun e w' => ∃ v, e = .returned (.tuple #[v, .bool true]) ∧ w'.ownsRow w.heap.size 5 1 v (pfxForm l a).length ((pfxForm l a).map (Value.int .u8)) ∧ Below w.heap.size w w' := by
  have hs := pfx_size (f := f) (l := l) ha.1
  have HS := Lib.hid hs
  clear hs
  have hk2 := hk
  simp only [pfxOk, lenOk, Bool.and_eq_true, decide_eq_true_eq] at hk2
  have hw : widthOf f ≤ 128 := by unfold widthOf; split <;> (try split) <;> omega
  have hl0 : 0 ≤ l := hk2.1.2.1
  have hl1 : l ≤ 128 := by omega
  have hz : 0 ≤ (l + 7) / 8 ∧ (l + 7) / 8 ≤ 16 := by omega
  have hz0 := hz.1
  have hz1 := hz.2
  have hwr : IntKind.u8.wrap l = l := by rw [IntKind.wrap_u8']; omega
  clear hk2 hz
  have ho := Own.new w 54 (pfx f l a)
  have hb0 := bl_alloc (bl_refl w) (.cells (pfx f l a) 54)
  go_enter Tryz.func166, Tryz.ntmps166
  go_wp2_with (refine wpList_load_row rfl 54 _ rfl w.heap.size rfl 54 (pfx f l a) (0, 0) (.struct (Tryz.prog.fieldsOf 54)) (Own.new w _ _) (by kernel_rfl) rfl (by rw [HS.out]; kernel_rfl) ?_)
  refine (rpvalid_any f l a _ ha).mono ?_
  rw [hk]
  rintro e w1 ⟨rfl, hb⟩
  have ho1 := ho.step hb
  have hb1 := bl_trans hb0 hb
  have hc1 := ho1.cell (pfx_1 f l a)
  have hown1 : (w1.alloc (.cells #[.int .u8 l] 5)).ownsRow w.heap.size 5 1 (.slice (some ⟨w1.heap.size, 0, none⟩) 1 1) 1 [.int .u8 l] := World.ownsRow_lit w1 #[.int .u8 l] 1 hb1.size (by unfold maxLen; omega) rfl
  have ho2 := ho1.alloc (.cells #[.int .u8 l] 5)
  have hb2 := bl_alloc hb1 (.cells #[.int .u8 l] 5)
  have hlt1 := ho1.lt
  clear ho hb0 hb hk
  go_wp2
  go_loopw [4, 5] (fun v i wr => ∃ k : Nat, (k : Int) ≤ (l + 7) / 8 ∧ i = .int .i64 k ∧ wr.ownsRow w.heap.size 5 1 v (1 + k) ((l :: a.take k).map (Value.int .u8)) ∧ Own wr w.heap.size 54 (pfx f l a) ∧ Below w.heap.size w wr) (fun _ i _ => 16 - (intOf i).toNat)
  case atStart => exact ⟨0, by omega, rfl, hown1, ho2, hb2⟩
  case round =>
    obtain ⟨k, hkz, rfl, hown, hor, hbr⟩ := hrel
    clear ho1 hb1 hc1 hown1 ho2 hb2 hlt1
    have hc1 := hor.cell (pfx_1 f l a)
    have hbl := hor.lt
    by_cases hlt : (k : Int) < (l + 7) / 8
    · have hk16 : k < 16 := by omega
      have hcell := hor.cell ((pfx_at f l a k).trans (ha.at_ hk16).1)
      have hr := (ha.at_ hk16).2
      have hfs := Lib.hid (form_step (l := l) ha.1 hk16)
      have hbb := hbr.size
      go_wp2_with (at_builtin; refine wpList_append_grow _ rfl _ _ rfl sl_bytes w.heap.size _ _ _ rfl (hown.alloc _) (wr.heap.size + 1) (some ⟨wr.heap.size, 0, none⟩) 1 1 [_] rfl rfl (Shows.of_owned (Own.new _ _ _) (by omega)) (one1 rfl) (by unfold maxLen; omega) (by omega) (by simp; omega) ?_; intro v1 w2 hown2 hgrow2)
      have hb2 : Below w.heap.size w w2 := (hbr.alloc hbb _).grown hgrow2 (by simp; omega) (own_base hown)
      have hor2 : Own w2 w.heap.size 54 (pfx f l a) := (hor.alloc _).grown hgrow2 (by intro e; have := (hown.lt _ e.symm); have h3 := own_blk hown hor (by decide); exact h3 e.symm)
      go_roundw
      case rel =>
        refine ⟨k + 1, by omega, by go_num, ?_, hor2, hb2⟩
        rw [← hfs.out, List.map_append]
        exact hown2
      case measure => simp [intOf]; omega
    · go_wp2
      go_ret2
      refine ⟨_, rfl, ?_, hbr⟩
      have e1 : k = (sizeOfBits l).toNat := by unfold sizeOfBits; omega
      have e2 : (pfxForm l a).length = 1 + k := by unfold pfxForm; rw [← e1]; simp [ha.1]; omega
      rw [e2]
      unfold pfxForm
      rw [← e1]
      exact hown
end Go.Proofs.YtmcnpkfeipelgaaGreatDoor
