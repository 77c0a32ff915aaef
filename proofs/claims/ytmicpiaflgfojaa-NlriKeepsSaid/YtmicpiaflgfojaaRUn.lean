/- peerageref03.Unique -/
import Derived.Test.YtmicpiaflgfojaaHas
namespace Go.Proofs.Ytmicpiaflgfojaa
open Go.RowKit

/-- Each route once, in the order in which they come first. -/
def uniqR (rs : List Rt) : List Rt := rs.foldl (fun acc r => if acc.any (fun q => rtEq q r) then acc else acc ++ [r]) []
theorem uniqR_step {rs : List Rt} {k : Nat} (h : k < rs.length) : uniqR (rs.take (k + 1)) = if (uniqR (rs.take k)).any (fun q => rtEq q (nthR rs k)) then uniqR (rs.take k) else uniqR (rs.take k) ++ [nthR rs k] := by
  rw [take_nthR h]; unfold uniqR; rw [List.foldl_append]; rfl
theorem uniqR_mem : ∀ {rs : List Rt} {r : Rt}, r ∈ uniqR rs → r ∈ rs := by
  intro rs
  have key : ∀ (l acc : List Rt) (r : Rt), r ∈ l.foldl (fun acc r => if acc.any (fun q => rtEq q r) then acc else acc ++ [r]) acc → r ∈ acc ∨ r ∈ l := by
    intro l
    induction l with
    | nil => intro acc r h; exact .inl h
    | cons x l ih =>
      intro acc r h
      rw [List.foldl_cons] at h
      rcases ih _ r h with h | h
      · split at h
        · exact .inl h
        · rcases List.mem_append.1 h with h | h
          · exact .inl h
          · rw [List.mem_singleton] at h; subst h; exact .inr (List.mem_cons_self ..)
      · exact .inr (List.mem_cons_of_mem _ h)
  intro r h
  rcases key rs [] r h with h | h
  · cases h
  · exact h
theorem uniqR_len (rs : List Rt) : (uniqR rs).length ≤ rs.length := by
  have key : ∀ (l acc : List Rt), (l.foldl (fun acc r => if acc.any (fun q => rtEq q r) then acc else acc ++ [r]) acc).length ≤ acc.length + l.length := by
    intro l
    induction l with
    | nil => intro acc; simp
    | cons x l ih =>
      intro acc
      rw [List.foldl_cons]
      have h := ih (if acc.any (fun q => rtEq q x) then acc else acc ++ [x])
      have hx : (if acc.any (fun q => rtEq q x) then acc else acc ++ [x]).length ≤ acc.length + 1 := by split <;> simp
      rw [List.length_cons]
      omega
  have := key rs []
  simpa [uniqR] using this

set_option maxHeartbeats 1600000 in
set_option maxRecDepth 100000 in
theorem runique_any (A : Option Addr) (n c : Nat) (rs : List Rt) (w : World) (h : Routes w w.heap.size A n rs) (hn : n ≤ 1000000) :
    Calls Try.prog 8 #[.slice A n c] w fun e w' => ∃ v, e = .returned v ∧ w'.ownsRow w.heap.size 31 19 v (uniqR rs).length (flatR (uniqR rs)) ∧ Below w.heap.size w w' := by
  have HN := Lib.hid h.1
  have HO := Lib.hid h.2.1
  go_enter Try.func8, Try.ntmps8
  go_wp2_with fail
  go_loopw [3, 4] (fun v i wr => ∃ k : Nat, k ≤ n ∧ i = .int .i64 k ∧ wr.ownsRow w.heap.size 31 19 v (uniqR (rs.take k)).length (flatR (uniqR (rs.take k))) ∧ Below w.heap.size w wr) (fun _ i _ => n - (intOf i).toNat)
  case atStart => exact ⟨0, Nat.zero_le _, rfl, World.ownsRow_nil _ _ _ _, bl_refl w⟩
  case round =>
    obtain ⟨k, hk, rfl, hown, hbw⟩ := hrel
    have hbs := hbw.size
    have hbase := own_base hown
    have hul := Lib.hid (Nat.le_trans (uniqR_len (rs.take k)) (List.length_take_le k rs))
    have huo := Lib.hid (fun r (hr : r ∈ uniqR (rs.take k)) => HO.out r (List.mem_of_mem_take (uniqR_mem hr)))
    obtain ⟨A9, c9, rfl, hc9, hro⟩ := own_routes hown huo.out rfl
    by_cases hlt : k < n
    · obtain ⟨b, o, rfl, hb, hok, hrg⟩ := (h.below hbw).at_ hlt
      have hi19 := Lib.hid (rt_infol hok.1.1)
      have hkr := Lib.hid (show k < rs.length by have := HN.out; omega)
      have HST := Lib.hid (uniqR_step hkr.out)
      have hu9 : (uniqR (rs.take k)).length ≤ 1000000 := by have := hul.out; omega
      go_wp2_with (refine wpList_load_mid rfl 31 _ rfl b (o + k * 19) rfl (rt (nthR rs k)).toList (.struct (Try.prog.fieldsOf 31)) hrg rt_desc rfl hi19.out ?_)
      refine (has_any A9 _ c9 (uniqR (rs.take k)) (nthR rs k) _ hro hok (by omega)).mono ?_
      have hrl := hok.1.1
      cases he : (uniqR (rs.take k)).any (fun q => rtEq q (nthR rs k))
      · have HU := Lib.hid (show uniqR (rs.take (k + 1)) = uniqR (rs.take k) ++ [nthR rs k] by rw [HST.out, he]; rfl)
        rintro e w2 ⟨rfl, hb2⟩
        have hown2 := own_below hown hb2
        have hbw2 := bl_trans hbw hb2
        have hrg2 : w2.rangeAt b (o + k * 19) (rt (nthR rs k)).toList := fun j v hv => (hbw2.cell (p := ⟨b, o + k * 19 + j, none⟩) hb).trans ((hbw.cell (p := ⟨b, o + k * 19 + j, none⟩) hb).symm.trans (hrg j v hv))
        have hb6 := bl_alloc (bl_refl w2) (.cells (rt (nthR rs k)) 31)
        have hown5 := own_below hown2 hb6
        have hbw5 := bl_trans hbw2 hb6
        have o6 := Own.new w2 31 (rt (nthR rs k))
        have hsh := Shows.of_owned (xs := (rt (nthR rs k)).toList) o6 (Nat.lt_succ_self _)
        have hl19 := Lib.hid (show (rt (nthR rs k)).toList.length = 1 * 19 by rw [Array.length_toList, rt_size hrl])
        have hbs5 := hbw5.size
        go_wp2_with (first | (refine wpList_load_mid rfl 31 _ rfl b (o + k * 19) rfl (rt (nthR rs k)).toList (.struct (Try.prog.fieldsOf 31)) hrg2 rt_desc rfl hi19.out ?_) | (refine wpList_build_route rfl _ rfl (nthR rs k) hrl (by simp only [List.map_toArray, List.map_cons, List.map_nil]; rfl) ?_) | (at_builtin; refine wpList_append_grow _ rfl _ _ rfl sl_routes w.heap.size _ _ _ rfl hown5 _ _ 1 1 (rt (nthR rs k)).toList rfl hl19.out hsh rt_one_mem (by unfold maxLen; omega) (by omega) hbs5 ?_; intro v5 w5 hown6 hgrow5))
        have hbw6 := hbw5.grown hgrow5 hbs5 hbase
        go_roundw
        case rel =>
          refine ⟨k + 1, by omega, by go_num, ?_, hbw6⟩
          have hfr : flatR (uniqR (rs.take k)) ++ (rt (nthR rs k)).toList = flatR (uniqR (rs.take (k + 1))) := by rw [HU.out]; simp [flatR]
          have hlr : (uniqR (rs.take k)).length + 1 = (uniqR (rs.take (k + 1))).length := by rw [HU.out]; simp
          rw [hfr, hlr] at hown6
          exact hown6
        case measure => simp [intOf]; omega
      · have HU := Lib.hid (show uniqR (rs.take (k + 1)) = uniqR (rs.take k) by rw [HST.out, he]; rfl)
        rintro e w2 ⟨rfl, hb2⟩
        have hown2 := own_below hown hb2
        have hbw2 := bl_trans hbw hb2
        go_wp2
        go_roundw
        case rel => exact ⟨k + 1, by omega, by go_num, by rw [HU.out]; exact hown2, hbw2⟩
        case measure => simp [intOf]; omega
    · have hkn := Lib.hid (show k = rs.length by have := HN.out; omega)
      go_wp2
      go_ret
      rw [hkn.out, List.take_length] at hown ⊢
      exact ⟨_, rfl, hown, hbw⟩
end Go.Proofs.Ytmicpiaflgfojaa
