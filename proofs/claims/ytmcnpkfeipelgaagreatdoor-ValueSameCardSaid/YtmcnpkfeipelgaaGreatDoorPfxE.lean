/- Prefixes: arrays of bytes compared; what a region keeps -/
import Derived.Test.YtmcnpkfeipelgaaGreatDoorPfxV
import Derived.Deep.RegionHeld3
import Derived.Stop.BytesEq
import Derived.Deep.RegionWith
import Derived.WalkSpells
import Derived.StillTactics
import Derived.Laws.Pointers
namespace Go.Proofs.YtmcnpkfeipelgaaGreatDoor
open Go.RowKit Extern.Stop

theorem pfx_cells {W : World} {g : Nat} {T : TypeId} {f l : Int} {a : List Int} (ha : IsAddr a) (h : Own W g T (pfx f l a)) : ∀ j, j < 16 → W.cell? ⟨g, j + 2, none⟩ = some (.int .u8 (nth a j)) := by
  intro j hj
  rw [Nat.add_comm]
  exact h.cell ((pfx_at f l a j).trans (arr_get (by rw [ha.1]; exact hj)))
theorem arr_lit {a : List Int} (ha : IsAddr a) : #[.int .u8 (nth a 0), .int .u8 (nth a 1), .int .u8 (nth a 2), .int .u8 (nth a 3), .int .u8 (nth a 4), .int .u8 (nth a 5), .int .u8 (nth a 6), .int .u8 (nth a 7), .int .u8 (nth a 8), .int .u8 (nth a 9), .int .u8 (nth a 10), .int .u8 (nth a 11), .int .u8 (nth a 12), .int .u8 (nth a 13), .int .u8 (nth a 14), .int .u8 (nth a 15)] = arr a := by
  apply Array.ext_getElem?
  intro i
  by_cases hi : i < 16
  · rw [(ha.at_ hi).1]
    rcases (by omega : i = 0 ∨ i = 1 ∨ i = 2 ∨ i = 3 ∨ i = 4 ∨ i = 5 ∨ i = 6 ∨ i = 7 ∨ i = 8 ∨ i = 9 ∨ i = 10 ∨ i = 11 ∨ i = 12 ∨ i = 13 ∨ i = 14 ∨ i = 15) with rfl | rfl | rfl | rfl | rfl | rfl | rfl | rfl | rfl | rfl | rfl | rfl | rfl | rfl | rfl | rfl <;> rfl
  · rw [Array.getElem?_eq_none (by simp; omega), Array.getElem?_eq_none (by rw [arr_size, ha.1]; omega)]
theorem pfxS {w W : World} {g : Nat} {T : TypeId} {f l : Int} {a : List Int} (ho : Own W g T (pfx f l a)) (hb : Below w.heap.size w W) :
    W.cell? ⟨g, 0, none⟩ = some (.int .i64 f) ∧ W.cell? ⟨g, 1, none⟩ = some (.int .i64 l) ∧ W.rangeAt g 2 (a.map (Value.int .u8)) ∧ Own W g T (pfx f l a) ∧ Below w.heap.size w W :=
  ⟨ho.cell (pfx_0 f l a), ho.cell (pfx_1 f l a), pfx_range ho, ho, hb⟩
theorem Own.step {W W' : World} {g : Nat} {t : TypeId} {cs : Array Value} (h : Own W g t cs) (hb : Below W.heap.size W W') : Own W' g t cs := h.below hb h.lt

theorem bytes_lift : ∀ (a : List Int), (∀ x ∈ a, 0 ≤ x ∧ x ≤ 255) → ∃ us : List UInt8, a = us.map (fun u => (u.toNat : Int))
  | [], _ => ⟨[], rfl⟩
  | x :: a, h => by
    obtain ⟨us, hu⟩ := bytes_lift a (fun y hy => h y (List.mem_cons_of_mem _ hy))
    have hx := h x (List.mem_cons_self)
    refine ⟨UInt8.ofNat x.toNat :: us, ?_⟩
    rw [List.map_cons, ← hu]
    congr 1
    have : (UInt8.ofNat x.toNat).toNat = x.toNat := by rw [UInt8.toNat_ofNat']; omega
    omega
theorem map_toNat_inj : ∀ (us vs : List UInt8), us.map (fun u => (u.toNat : Int)) = vs.map (fun u => (u.toNat : Int)) → us = vs
  | [], [], _ => rfl
  | u :: us, v :: vs, h => by
    simp only [List.map_cons, List.cons.injEq] at h
    rw [map_toNat_inj us vs h.2, show u = v from UInt8.toNat_inj.1 (by omega)]
  | [], _ :: _, h => by simp at h
  | _ :: _, [], h => by simp at h
set_option maxRecDepth 100000 in
theorem eql_arr (t : TypeId) (a b : List Int) (ht : Tryz.prog.underlying t = some (.array 16 5)) (ha : IsAddr a) (hb : IsAddr b) (W : World) :
    (binOp .eql t (.agg (arr a)) (.agg (arr b))).run Tryz.prog W = .ok (.bool (decide (a = b))) W := by
  obtain ⟨us, rfl⟩ := bytes_lift a ha.2
  obtain ⟨vs, rfl⟩ := bytes_lift b hb.2
  have e : ∀ ws : List UInt8, arr (ws.map (fun u => (u.toNat : Int))) = (ws.map cell).toArray := fun ws => by
    unfold arr; rw [List.map_map]; rfl
  have h := run_eql_bytes (P := Tryz.prog) W t 5 16 ht Tryz.underlying5 (fun _ => by kernel_rfl) us vs (by have := ha.1; simpa using this) (by have := hb.1; simpa using this)
  rw [e, e, h]
  congr 2
  rw [Bool.eq_iff_iff, decide_eq_true_eq, beq_iff_eq]
  exact ⟨fun h => by rw [h], map_toNat_inj us vs⟩
theorem maskL_addr {a : List Int} (l : Int) (ha : IsAddr a) : IsAddr (maskL l a) := by
  refine ⟨by rw [maskL_len]; exact ha.1, ?_⟩
  intro x hx
  obtain ⟨i, hi⟩ := List.getElem?_of_mem hx
  unfold maskL at hi
  rw [List.getElem?_mapIdx] at hi
  obtain ⟨y, hy, rfl⟩ := Option.map_eq_some_iff.1 hi
  have hr := ha.2 y (List.mem_of_getElem? hy)
  unfold top
  have hp : (0 : Int) < 2 ^ (8 - (keep l i).toNat) := Int.pow_pos (by omega)
  have hm := Int.ediv_mul_le y (b := 2 ^ (8 - (keep l i).toNat)) (by omega)
  exact ⟨Int.mul_nonneg (Int.ediv_nonneg hr.1 (by omega)) (by omega), by omega⟩

end Go.Proofs.YtmcnpkfeipelgaaGreatDoor
