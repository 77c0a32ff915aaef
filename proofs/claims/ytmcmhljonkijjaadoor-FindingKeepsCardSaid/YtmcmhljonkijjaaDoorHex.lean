/- digits.Hex -/
import Derived.Test.YtmcmhljonkijjaaDoorDec
import Derived.Test.YtmcmhljonkijjaaDoorStep
import Derived.Test.YtmcmhljonkijjaaDoorBstr
namespace Go.Proofs.YtmcmhljonkijjaaDoor
open Go.RowKit Go.Sort

/-- Two digits for each byte. -/
def hexL (xs : List Int) : List UInt8 := xs.flatMap fun x => [hexD (x / 16).toNat, hexD (x % 16).toNat]
def hexB (xs : List Int) : ByteArray := ⟨(hexL xs).toArray⟩
theorem hexL_len (xs : List Int) : (hexL xs).length = 2 * xs.length := by
  induction xs with
  | nil => rfl
  | cons x r ih => simp [hexL] at ih ⊢; omega
theorem hexL_step {xs : List Int} {k : Nat} (h : k < xs.length) : hexL (xs.take (k + 1)) = hexL (xs.take k) ++ [hexD (nth xs k / 16).toNat, hexD (nth xs k % 16).toNat] := by
  rw [take_nth h]
  simp [hexL]
theorem and15 (x : Int) (h0 : 0 ≤ x) (h1 : x ≤ 255) : bits BinOp.and IntKind.u8 x 15 = x % 16 := by
  obtain ⟨n, rfl⟩ := Int.eq_ofNat_of_zero_le h0
  have h : ∀ n, n < 256 → bits BinOp.and IntKind.u8 ((n : Nat) : Int) 15 = ((n : Nat) : Int) % 16 := by decide +kernel
  exact h n (by omega)
theorem lit_get (j : Nat) (h : j < 16) : (ByteArray.mk #[48, 49, 50, 51, 52, 53, 54, 55, 56, 57, 97, 98, 99, 100, 101, 102])[j]'h = hexD j := by
  have h2 : ∀ k : Fin 16, (ByteArray.mk #[48, 49, 50, 51, 52, 53, 54, 55, 56, 57, 97, 98, 99, 100, 101, 102])[k.val]'k.isLt = hexD k.val := by decide +kernel
  exact h2 ⟨j, h⟩
theorem two8 (p q : Int) : ∀ u ∈ [Value.int .u8 p, Value.int .u8 q], u.oneCell' = true := by
  intro u hu; simp at hu; rcases hu with rfl | rfl <;> rfl
def cellsU (l : List UInt8) : List Value := l.map fun c => .int .u8 (c.toNat : Int)
def numsU (l : List UInt8) : List Int := l.map fun c => (c.toNat : Int)
theorem cellsU_nums (l : List UInt8) : cellsU l = (numsU l).map (Value.int .u8) := by simp [cellsU, numsU]
theorem str_of_cells (l : List UInt8) : strOfNums (numsU l) = ⟨l.toArray⟩ := by
  unfold strOfNums numsU
  rw [List.map_map]
  congr 2
  rw [show ((fun n : Int => UInt8.ofNat n.toNat) ∘ fun c : UInt8 => (c.toNat : Int)) = id from funext fun c => by simp]
  simp
theorem bytes_of_own {w : World} {base n : Nat} {v : Value} {l : List UInt8} (h : w.ownsRow base 5 1 v n (cellsU l)) : ∀ A m c, v = .slice A m c → Bytes w w.heap.size A m (numsU l) := by
  rintro A m c rfl
  have hlen : (numsU l).length = n := by have := h.1; simp [cellsU] at this; simp [numsU, this]
  have hr : ∀ x ∈ numsU l, 0 ≤ x ∧ x ≤ 255 := by
    intro x hx
    obtain ⟨c, _, rfl⟩ := List.mem_map.1 hx
    have := c.toNat_lt
    omega
  rcases h.2 with ⟨h1, h0⟩ | ⟨g, cap, cur, h1, hg, _, _⟩
  · injection h1 with h2 h3 h4
    subst h2 h3 h4
    exact ⟨by rw [hlen, h0], hr, .inl (by rw [List.map_eq_nil_iff]; exact List.length_eq_zero_iff.1 (by rw [hlen, h0]))⟩
  · injection h1 with h2 h3 h4
    subst h2 h3 h4
    refine ⟨hlen.symm, hr, .inr ⟨g, 0, rfl, (h.lt g rfl).2, fun i u hu => ?_⟩⟩
    have := h.cells (g := g) rfl i u (by rw [cellsU_nums]; exact hu)
    simpa [Addr.add_lit] using this
set_option maxRecDepth 100000 in
set_option maxHeartbeats 800000 in
theorem hex_any (A : Option Addr) (n c : Nat) (xs : List Int) (w : World) (hx : Bytes w w.heap.size A n xs) (hn : n ≤ 1000000) :
    Calls Tryd.prog 73 #[.slice A n c] w fun e w' => e = .returned (.string (hexB xs)) ∧ Below w.heap.size w w' := by
  have HX := Lib.hid hx
  have hl := Lib.hid hx.1
  go_enter Tryd.func73, Tryd.ntmps73
  go_wp2_with (at_make; refine wpList_make_empty _ rfl _ _ rfl sl_bytes w.heap.size _ _ _ (2 * n) rfl rfl (by simp) (by omega) (by unfold maxLen; omega) (Nat.le_refl _) ?_; intro w0 hown0 hgrow0)
  have hb0 : Below w.heap.size w w0 := (bl_refl w).grown hgrow0 (Nat.le_refl _) (fun _ h => by cases h)
  go_loopw [3, 12] (fun v i wr => ∃ k : Nat, k ≤ n ∧ i = .int .i64 k ∧ wr.ownsRow w.heap.size 5 1 v (2 * k) (cellsU (hexL (xs.take k))) ∧ Below w.heap.size w wr) (fun _ i _ => n - (intOf i).toNat)
  case atStart => exact ⟨0, by omega, rfl, hown0, hb0⟩
  case round =>
    obtain ⟨k, hkz, rfl, hown, hbr⟩ := hrel
    by_cases hlt : k < n
    · have hxr := HX.out.below hbr
      obtain ⟨b, o, rfl, hbb, hcell⟩ := hxr.2.2.resolve_left (by intro h; have := hl.out; simp at h; rw [h] at this; simp at this; omega)
      have hck := hcell k (.int .u8 (nth xs k)) (by rw [List.getElem?_map, nth_some (by rw [← hl.out]; exact hlt)]; rfl)
      have hr := hxr.2.1 _ (nth_mem (xs := xs) (k := k) (by rw [← hl.out]; exact hlt))
      have hq := and15 _ hr.1 hr.2
      have d0 := dg_range 16 (nth xs k) hr.1 (by omega)
      have d1 := d0.1
      have d2 := d0.2
      have d3 : 0 ≤ nth xs k / 16 := by omega
      have d4 : nth xs k / 16 < 16 := by omega
      clear d0
      go_wp2_with fail
      have hA : ∀ p q : Int, (wr.alloc (.cells #[.int .u8 p, .int .u8 q] 5)).drew.ownsRow w.heap.size 5 1 _ (2 * k) (cellsU (hexL (xs.take k))) := fun p q => hown.alloc _
      have hS : ∀ p q : Int, Shows (wr.alloc (.cells #[.int .u8 p, .int .u8 q] 5)).drew (wr.heap.size + 1) (some ⟨wr.heap.size, 0, none⟩) [.int .u8 p, .int .u8 q] := fun p q => Shows.of_owned (Own.new wr 5 #[.int .u8 p, .int .u8 q]).drew (by omega)
      have hbs := hbr.size
      go_region_law (refine step_append_g rfl _ _ rfl sl_bytes w.heap.size _ _ _ rfl (hA _ _) _ _ _ _ _ rfl rfl (hS _ _) (two8 _ _) (by unfold maxLen; omega) (by omega) (by simp; omega) ?_; intro v1 w2 hown2 hgrow2)
      all_goals
        have hw2 : Below w.heap.size w w2 := ((hbr.alloc hbs _).drew).grown hgrow2 (by simp; omega) (own_base hown)
        rw [lit_get _ (by omega), lit_get _ (by omega)] at hown2
        have hown3 : w2.ownsRow w.heap.size 5 1 v1 (2 * (k + 1)) (cellsU (hexL (xs.take (k + 1)))) := by
          rw [hexL_step (by rw [← hl.out]; exact hlt)]
          unfold cellsU at hown2 ⊢
          rw [List.map_append]
          exact hown2
        clear hown2 hgrow2 hA hS
        simp only [Act.put, List.getElem_toArray, List.getElem_cons_zero, List.getElem_cons_succ, List.setIfInBounds_toArray, List.set_cons_zero, List.set_cons_succ]
        go_wp2
        go_roundw
        case rel =>
          first
            | exact ⟨k + 1, by omega, by go_num, hown3, hw2⟩
            | ((repeat apply Exists.intro); exact ⟨⟨k + 1, by omega, by go_num, hown3, hw2⟩, rfl⟩)
        case measure => simp [intOf]; omega
    · obtain rfl : k = n := by omega
      clear hown0 hgrow0 hb0
      have HT := Lib.hid (show xs.take k = xs by rw [List.take_of_length_le (by rw [← hl.out]; exact Nat.le_refl _)])
      rw [HT.out] at hown
      have hbt := bytes_of_own hown
      rcases hown.2 with ⟨rfl, h0⟩ | ⟨g, cap, cur, rfl, _⟩
      · have hcv := bytes_str (c := 0) (hbt none 0 0 rfl)
        rw [str_of_cells] at hcv
        clear hown hbt
        go_wp2
        go_ret
        exact ⟨rfl, hbr⟩
      · have hcv := bytes_str (c := cap) (hbt _ _ _ rfl)
        rw [str_of_cells] at hcv
        clear hown hbt
        go_wp2
        go_ret
        exact ⟨rfl, hbr⟩
end Go.Proofs.YtmcmhljonkijjaaDoor
