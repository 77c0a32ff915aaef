/- prefix.size, prefix.Bytes -/
import Derived.Test.YtmcnpkfeipelgaaGreatDoorPfxW
namespace Go.Proofs.YtmcnpkfeipelgaaGreatDoor
open Go.RowKit

section
variable {w W W' : World} {g : Nat} {T : TypeId} {f l : Int} {a : List Int}
theorem pfxS_own (h : W.cell? ⟨g, 0, none⟩ = some (.int .i64 f) ∧ W.cell? ⟨g, 1, none⟩ = some (.int .i64 l) ∧ W.rangeAt g 2 (a.map (Value.int .u8)) ∧ Own W g T (pfx f l a) ∧ Below w.heap.size w W) : Own W g T (pfx f l a) := h.2.2.2.1
theorem pfxS_alloc (h : W.cell? ⟨g, 0, none⟩ = some (.int .i64 f) ∧ W.cell? ⟨g, 1, none⟩ = some (.int .i64 l) ∧ W.rangeAt g 2 (a.map (Value.int .u8)) ∧ Own W g T (pfx f l a) ∧ Below w.heap.size w W) (o : Obj) :
    (W.alloc o).cell? ⟨g, 0, none⟩ = some (.int .i64 f) ∧ (W.alloc o).cell? ⟨g, 1, none⟩ = some (.int .i64 l) ∧ (W.alloc o).rangeAt g 2 (a.map (Value.int .u8)) ∧ Own (W.alloc o) g T (pfx f l a) ∧ Below w.heap.size w (W.alloc o) :=
  pfxS (h.2.2.2.1.alloc o) (bl_alloc h.2.2.2.2 o)
theorem pfxS_below (h : W.cell? ⟨g, 0, none⟩ = some (.int .i64 f) ∧ W.cell? ⟨g, 1, none⟩ = some (.int .i64 l) ∧ W.rangeAt g 2 (a.map (Value.int .u8)) ∧ Own W g T (pfx f l a) ∧ Below w.heap.size w W) (hb : Below W.heap.size W W') :
    W'.cell? ⟨g, 0, none⟩ = some (.int .i64 f) ∧ W'.cell? ⟨g, 1, none⟩ = some (.int .i64 l) ∧ W'.rangeAt g 2 (a.map (Value.int .u8)) ∧ Own W' g T (pfx f l a) ∧ Below w.heap.size w W' :=
  pfxS (h.2.2.2.1.step hb) (bl_trans h.2.2.2.2 hb)
end

theorem parts_two {W : World} {j : Nat} {T : TypeId} {A1 A2 : Option Addr} {n1 n2 c1 c2 : Nat} {xs1 xs2 : List Int} (ho : Own W j T #[.slice A1 n1 c1, .slice A2 n2 c2]) (h1 : Bytes W W.heap.size A1 n1 xs1) (h2 : Bytes W W.heap.size A2 n2 xs2) :
    Parts W W.heap.size (some ⟨j, 0, none⟩) 2 [⟨A1, n1, c1, xs1⟩, ⟨A2, n2, c2, xs2⟩] := by
  refine ⟨rfl, fun p hp => ?_, Shows.of_owned ho ho.lt⟩
  simp at hp
  rcases hp with rfl | rfl
  · exact h1
  · exact h2
set_option maxRecDepth 100000 in
/-- Cat of some parts: bytes in new memory. -/
theorem cat_own {A : Option Addr} {n c : Nat} {ps : List Part} {w : World} (hx : Parts w w.heap.size A n ps) (hn : n ≤ 1000000000) (hl : (flat ps).length ≤ 1000000000) :
    Calls Tryz.prog 38 #[.slice A n c] w fun e w' => e = .returned (.slice (some ⟨w.heap.size, 0, none⟩) (flat ps).length (flat ps).length) ∧ Own w' w.heap.size 5 ((flat ps).map (Value.int .u8)).toArray ∧ Below w.heap.size w w' := by
  refine (cat_any A n c ps w hx hn hl).mono ?_
  rintro e w' ⟨rfl, hown, hb⟩
  exact ⟨rfl, Own.of_full hown, hb⟩
set_option maxRecDepth 100000 in
theorem cat_bytes {A : Option Addr} {n c : Nat} {ps : List Part} {W : World} (hx : Parts W W.heap.size A n ps) (hn : n ≤ 1000000000) (hl : (flat ps).length ≤ 1000000000) :
    Calls Tryz.prog 38 #[.slice A n c] W fun e w' => ∃ B d, e = .returned (.slice B (flat ps).length d) ∧ Bytes w' w'.heap.size B (flat ps).length (flat ps) ∧ Below W.heap.size W w' := by
  refine (cat_any A n c ps W hx hn hl).mono ?_
  rintro e w' ⟨rfl, hown, hb⟩
  have ho := Own.of_full hown
  refine ⟨_, _, rfl, Bytes.of_owned ho ?_ ho.lt, hb⟩
  intro y hy
  obtain ⟨p, hp, hyp⟩ := List.mem_flatMap.1 hy
  exact (hx.2.1 p hp).2.1 y hyp
theorem addr_bytes {W : World} {g : Nat} {T : TypeId} {f l : Int} {a : List Int} (ha : IsAddr a) (ho : Own W g T (pfx f l a)) {k : Nat} (hk : k ≤ 16) : Bytes W W.heap.size (some ⟨g, 2, none⟩) k (a.take k) := by
  refine ⟨by rw [List.length_take, ha.1]; omega, fun x hx => ha.2 x (List.mem_of_mem_take hx), .inr ⟨g, 2, rfl, ho.lt, fun i v hv => ?_⟩⟩
  rw [List.getElem?_map] at hv
  obtain ⟨x, hx, rfl⟩ := Option.map_eq_some_iff.1 hv
  rw [List.getElem?_take] at hx
  split at hx
  · exact pfx_range ho i _ (by rw [List.getElem?_map, hx]; rfl)
  · cases hx

/-- The bytes that so many bits need. -/
def sizeOfBits (l : Int) : Int := (l + 7) / 8
set_option maxRecDepth 100000 in
theorem psize_any (l : Int) (w : World) (h0 : 0 ≤ l) (h1 : l ≤ 1000000000) : Calls Tryz.prog 153 #[.int .i64 l] w fun e w' => e = .returned (.int .i64 (sizeOfBits l)) ∧ w = w' := by
  go_enter Tryz.func153, Tryz.ntmps153
  go_wp2
  go_ret
  exact ⟨rfl, rfl⟩
/-- The form of a prefix. -/
def pfxForm (l : Int) (a : List Int) : List Int := l :: a.take (sizeOfBits l).toNat

set_option maxRecDepth 100000 in
theorem pbytes_no (f l : Int) (a : List Int) (w : World) (ha : IsAddr a) (hk : pfxOk f l a = false) :
    Calls Tryz.prog 219 #[.agg (pfx f l a)] w fun e w' => e = .returned (.tuple #[.slice none 0 0, .bool false]) ∧ Below w.heap.size w w' := by
  have hs := pfx_size (f := f) (l := l) ha.1
  have HS := Lib.hid hs
  clear hs
  go_enter Tryz.func219, Tryz.ntmps219
  go_wp2_with (refine wpList_load_row rfl 54 _ rfl w.heap.size rfl 54 (pfx f l a) (0, 0) (.struct (Tryz.prog.fieldsOf 54)) (Own.new w _ _) (by kernel_rfl) rfl (by rw [HS.out]; kernel_rfl) ?_)
  refine (pvalid_any f l a _ ha).mono ?_
  rw [hk]
  rintro e w1 ⟨rfl, hb⟩
  go_wp2
  go_ret2
  exact ⟨rfl, bl_trans (bl_alloc (bl_refl w) _) hb⟩
set_option maxHeartbeats 800000 in
set_option maxRecDepth 100000 in
theorem pbytes_own (f l : Int) (a : List Int) (w : World) (ha : IsAddr a) (hk : pfxOk f l a = true) :
    Calls Tryz.prog 219 #[.agg (pfx f l a)] w fun e w' => ∃ g, e = .returned (.tuple #[.slice (some ⟨g, 0, none⟩) (pfxForm l a).length (pfxForm l a).length, .bool true]) ∧ w.heap.size ≤ g ∧ Own w' g 5 ((pfxForm l a).map (Value.int .u8)).toArray ∧ Below w.heap.size w w' := by
  have hs := pfx_size (f := f) (l := l) ha.1
  have HS := Lib.hid hs
  clear hs
  have hk2 := hk
  simp only [pfxOk, lenOk, Bool.and_eq_true, decide_eq_true_eq] at hk2
  have hw : widthOf f ≤ 128 := by unfold widthOf; split <;> (try split) <;> omega
  have hl0 : 0 ≤ l := hk2.1.2.1
  have hl1 : l ≤ 128 := by omega
  have hz : 0 ≤ sizeOfBits l ∧ sizeOfBits l ≤ 16 := by unfold sizeOfBits; omega
  have hz0 := hz.1
  have hz1 := hz.2
  clear hk2 hz
  have ho := Own.new w 54 (pfx f l a)
  have hb0 := bl_alloc (bl_refl w) (.cells (pfx f l a) 54)
  go_enter Tryz.func219, Tryz.ntmps219
  go_wp2_with (refine wpList_load_row rfl 54 _ rfl w.heap.size rfl 54 (pfx f l a) (0, 0) (.struct (Tryz.prog.fieldsOf 54)) (Own.new w _ _) (by kernel_rfl) rfl (by rw [HS.out]; kernel_rfl) ?_)
  refine (pvalid_any f l a _ ha).mono ?_
  rw [hk]
  rintro e w1 ⟨rfl, hb⟩
  have hwr : IntKind.u8.wrap l = l := by rw [IntKind.wrap_u8']; omega
  have hfl : (flat [(⟨some ⟨w1.heap.size, 0, none⟩, 1, 1, [l]⟩ : Part), ⟨some ⟨w.heap.size, 2, none⟩, (sizeOfBits l).toNat, 16, a.take (sizeOfBits l).toNat⟩]).length ≤ 1000000000 := by
    simp [flat]; omega
  have hff := Lib.hid (show flat [(⟨some ⟨w1.heap.size, 0, none⟩, 1, 1, [l]⟩ : Part), ⟨some ⟨w.heap.size, 2, none⟩, (sizeOfBits l).toNat, 16, a.take (sizeOfBits l).toNat⟩] = pfxForm l a by simp [flat, pfxForm])
  have ho1 := ho.step hb
  have hb1 := bl_trans hb0 hb
  clear ho hb0 hb hk
  have hc : ∀ W : World, W = ((w1.alloc (.cells #[.int .u8 l] 5)).alloc (.cells #[.slice (some ⟨w1.heap.size, 0, none⟩) 1 1, .slice (some ⟨w.heap.size, 2, none⟩) (sizeOfBits l).toNat 16] 25)).drew →
      Parts W W.heap.size (some ⟨w1.heap.size + 1, 0, none⟩) 2 [⟨some ⟨w1.heap.size, 0, none⟩, 1, 1, [l]⟩, ⟨some ⟨w.heap.size, 2, none⟩, (sizeOfBits l).toNat, 16, a.take (sizeOfBits l).toNat⟩] := by
    rintro W rfl
    have o1 := (Own.new w1 5 #[.int .u8 l]).alloc (.cells #[.slice (some ⟨w1.heap.size, 0, none⟩) 1 1, .slice (some ⟨w.heap.size, 2, none⟩) (sizeOfBits l).toNat 16] 25)
    have o2 := Own.new (w1.alloc (.cells #[.int .u8 l] 5)) 25 #[.slice (some ⟨w1.heap.size, 0, none⟩) 1 1, .slice (some ⟨w.heap.size, 2, none⟩) (sizeOfBits l).toNat 16]
    have o3 := (ho1.alloc (.cells #[.int .u8 l] 5)).alloc (.cells #[.slice (some ⟨w1.heap.size, 0, none⟩) 1 1, .slice (some ⟨w.heap.size, 2, none⟩) (sizeOfBits l).toNat 16] 25)
    have e : (w1.alloc (.cells #[.int .u8 l] 5)).heap.size = w1.heap.size + 1 := by simp
    rw [e] at o2
    exact parts_two o2.drew (Bytes.of_owned (xs := [l]) o1.drew (by intro x hx; simp at hx; omega) o1.drew.lt) (addr_bytes ha o3.drew (by omega))
  have HC := Lib.hid hc
  clear hc
  go_wp2_with fail
  go_region_held3 (fun W => W.cell? ⟨w.heap.size, 0, none⟩ = some (.int .i64 f) ∧ W.cell? ⟨w.heap.size, 1, none⟩ = some (.int .i64 l) ∧ W.rangeAt w.heap.size 2 (a.map (Value.int .u8)) ∧ Own W w.heap.size 54 (pfx f l a) ∧ Below w.heap.size w W) (first | exact pfxS ho1.drew hb1.drew | assumption | exact pfxS_alloc (by assumption) _ | exact pfxS_below (by assumption) (by assumption)) (first | (go_at_call 153; refine (psize_any l _ (by omega) (by omega)).mono ?_; rintro e w' ⟨rfl, rfl⟩) | (go_at_call 38; refine (cat_own (HC.out _ rfl) (by decide) hfl).mono ?_; rintro e w3 ⟨rfl, hB, hb3⟩))
  all_goals
    rw [hff.out] at hB ⊢
    have hbw : Below w.heap.size w w3 := by
      rename_i hH
      exact hH.2.2.2.2
    go_wp2
    go_ret2
    exact ⟨_, rfl, by have := hb1.size; omega, by simpa using hB, hbw⟩
theorem pfxForm_range {l : Int} {a : List Int} (ha : IsAddr a) (h0 : 0 ≤ l) (h1 : l ≤ 128) : ∀ x ∈ pfxForm l a, 0 ≤ x ∧ x ≤ 255 := by
  intro x hx
  rcases List.mem_cons.1 hx with rfl | hx
  · omega
  · exact ha.2 x (List.mem_of_mem_take hx)
theorem pfxOk_range {f l : Int} {a : List Int} (hk : pfxOk f l a = true) : 0 ≤ l ∧ l ≤ 128 := by
  simp only [pfxOk, lenOk, Bool.and_eq_true, decide_eq_true_eq] at hk
  have hw : widthOf f ≤ 128 := by unfold widthOf; split <;> (try split) <;> omega
  omega
set_option maxRecDepth 100000 in
theorem pbytes_yes (f l : Int) (a : List Int) (w : World) (ha : IsAddr a) (hk : pfxOk f l a = true) :
    Calls Tryz.prog 219 #[.agg (pfx f l a)] w fun e w' => ∃ A c, e = .returned (.tuple #[.slice A (pfxForm l a).length c, .bool true]) ∧ Bytes w' w'.heap.size A (pfxForm l a).length (pfxForm l a) ∧ Below w.heap.size w w' := by
  refine (pbytes_own f l a w ha hk).mono ?_
  rintro e w' ⟨g, rfl, _, ho, hb⟩
  have hr := pfxOk_range hk
  exact ⟨_, _, rfl, Bytes.of_owned ho (pfxForm_range ha hr.1 hr.2) ho.lt, hb⟩
end Go.Proofs.YtmcnpkfeipelgaaGreatDoor
