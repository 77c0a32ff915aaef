/- basic.Read at every type -/
import Derived.Test.YtmcnpkfeipelgaaGreatDoorBsB
namespace Go.Proofs.YtmcnpkfeipelgaaGreatDoor
open Go.RowKit Go.Maps

theorem bnil_one : (#[Value.int .i64 0, .nilFunc, .nilFunc] : Array Value).all (·.oneCell') = true := by simp [Value.oneCell']
set_option maxRecDepth 100000 in
set_option maxHeartbeats 1600000 in
theorem bread_U (k : Int) (hwf : (Lit.int .i64 k).wf = true) (hrow : Hid (bRow k = #[.int .i64 0, .nilFunc, .nilFunc])) (hkn : Hid (bKnown k = false)) (A : Option Addr) (n c : Nat) (xs : List Int) (w : World) (hx : Bytes w w.heap.size A n xs) (hn : n ≤ 1000000) :
    Calls Tryz.prog 228 #[.int .i64 k, .slice A n c] w fun e w' => e = .returned (.tuple #[.agg (atV 0 0), .int .i64 (bRefuse k)]) ∧ Below w.heap.size w w' := by
  have hb0 := bl_alloc (bl_refl w) (.cells (atV 0 0) 37)
  have o0 := Own.new w 37 (atV 0 0)
  have HX := Lib.hid hx
  have HL := Lib.hid hx.1
  unfold atV at hb0 o0
  unfold atV
  clear hx
  go_enter Tryz.func228, Tryz.ntmps228
  go_wp2_with fail
  refine (rows_any _).mono ?_
  rintro e w1 ⟨b, rfl, hown, hb1⟩
  have o1 := o0.step hb1
  have hb2 := bl_trans hb0 hb1
  have oN := Own.new w1 151 bNil
  have hbN := bl_alloc hb2 (.cells bNil 151)
  have hlt1 := o1.lt
  go_wp2_with (first | (at_lookup; refine wpList_lookup_own_ok _ rfl _ _ 153 rfl 3 151 bint_key Tryz.underlying153 heldE (brow_zero _) (.held (.agg bNil)) [] rfl b 6 rMap rfl hown _ _ rfl (keyOf_int_mk Tryz.underlying3 hwf) ?_; intro v ps hv; obtain rfl := brow_at hv; rw [(rMap_at k).2, hrow.out, hkn.out]; clear hv hown) | (refine wpList_store_row rfl 151 _ _ rfl w1.heap.size #[.int .i64 0, .nilFunc, .nilFunc] rfl rfl 151 bNil oN (brow_info _ _ _) rfl bnil_one ?_))
  have oR := oN.setRow (cs' := #[.int .i64 0, .nilFunc, .nilFunc])
  have hbR := bl_setRow (g := w1.heap.size) (cs := #[.int .i64 0, .nilFunc, .nilFunc]) hbN hb2.size
  have oA := (o1.alloc (.cells bNil 151)).keep (setRow_other (w1.alloc (.cells bNil 151)) w1.heap.size w.heap.size #[.int .i64 0, .nilFunc, .nilFunc] (by omega))
  unfold bNil at oN oR hbR oA
  generalize (w1.alloc (.cells #[.int .i64 0, .nilFunc, .nilFunc] 151)).setRow w1.heap.size #[.int .i64 0, .nilFunc, .nilFunc] = V at *
  have hlR := oR.lt
  have HXV := Lib.hid (show Bytes V.drew V.drew.heap.size A n xs from (HX.out.below hbR).more hbR.size)
  have HS0 : V.drew.cell? ⟨w1.heap.size, 0, none⟩ = some (.int .i64 0) := oR.cell (i := 0) rfl
  clear o0 o1 oN hbN hb2 hb0 hb1
  go_region_held3 (fun W => W.cell? ⟨w1.heap.size, 0, none⟩ = some (.int .i64 0)) (with_reducible first | exact HS0 | exact HS2 | exact HS3) ((first
    | (go_at_call 13; (with_reducible refine (new_any A n c xs _ HXV.out (by omega)).mono ?_); rintro e w4 ⟨g, rfl, hg, hr, hb4⟩; have hgV : V.heap.size ≤ g := hg; have HS2 : w4.cell? ⟨w1.heap.size, 0, none⟩ = some (.int .i64 0) := (oR.drew.step hb4).cell (i := 0) rfl)
    | (go_at_call 88; (with_reducible refine (num_any g xs 0 0 _ hr (by have := HL.out; omega) (by omega)).mono ?_); rintro e w5 ⟨rfl, hr5, hg5⟩; have HS3 : w5.cell? ⟨w1.heap.size, 0, none⟩ = some (.int .i64 0) := ((oR.drew.step hb4).grown hg5 (by intro e; have := Option.some.inj e; omega)).cell (i := 0) rfl)))
  have oR5 := (oR.drew.step hb4).grown hg5 (by intro e; have := Option.some.inj e; omega)
  have oA5 := (oA.drew.step hb4).grown hg5 (by intro e; have := Option.some.inj e; omega)
  have hb5 : Below w.heap.size w w5 := bl_only (bl_trans hbR.drew hb4) hg5 (by have := hbR.size; omega)
  clear oR oA hb4 hg5 hr5 hr HS0 HS2 HS3 hgV hg hlR hlt1 hbR HXV
  have r0 := oR5.cell (i := 0) (v := .int .i64 0) rfl
  go_wp2_with (first | (go_at_call 232; refine (refusal_any k _).mono ?_; rintro e w' ⟨rfl, rfl⟩) | (refine wpList_store_row rfl 37 _ _ rfl w.heap.size #[.int .i64 0, .bool false, .int .u32 0, .int .u32 0, .slice none 0 0, .slice none 0 0, .slice none 0 0, .int .i64 0, .slice none 0 0] rfl rfl 37 #[.int .i64 0, .bool false, .int .u32 0, .int .u32 0, .slice none 0 0, .slice none 0 0, .slice none 0 0, .int .i64 0, .slice none 0 0] oA5 (at_info9 _ _ _ _ _ _ _ _ _) rfl (at_one _ _) ?_))
  have oZ := oA5.setRow (cs' := #[.int .i64 0, .bool false, .int .u32 0, .int .u32 0, .slice none 0 0, .slice none 0 0, .slice none 0 0, .int .i64 0, .slice none 0 0])
  have hbZ := bl_setRow (g := w.heap.size) (cs := #[.int .i64 0, .bool false, .int .u32 0, .int .u32 0, .slice none 0 0, .slice none 0 0, .slice none 0 0, .int .i64 0, .slice none 0 0]) hb5 (Nat.le_refl _)
  refine bodyPost_ret (results_cell_tmp (p := 4) (t := 5) (fn := Tryz.f228) rfl _ _ w.heap.size 37 #[.int .i64 0, .bool false, .int .u32 0, .int .u32 0, .slice none 0 0, .slice none 0 0, .slice none 0 0, .int .i64 0, .slice none 0 0] _ rfl oZ at_desc rfl (at_info9 _ _ _ _ _ _ _ _ _)) rfl ⟨rfl, hbZ⟩
/-- Whether some bytes are the value of a type. -/
def bOkV (k : Int) (xs : List Int) : Bool := decide ((xs.length : Int) = bSize k ∧ (k = 1 → numV xs 1 ≤ 2))
def bAtt (k : Int) (xs : List Int) : Array Value := if bOkV k xs then atV k (numV xs (bSize k)) else atV 0 0
def bKind (k : Int) (xs : List Int) : Int := if bOkV k xs then 0 else bRefuse k
set_option maxRecDepth 100000 in
theorem bread_any (k : Int) (hwf : (Lit.int .i64 k).wf = true) (A : Option Addr) (n c : Nat) (xs : List Int) (w : World) (hx : Bytes w w.heap.size A n xs) (hn : n ≤ 1000000) :
    Calls Tryz.prog 228 #[.int .i64 k, .slice A n c] w fun e w' => e = .returned (.tuple #[.agg (bAtt k xs), .int .i64 (bKind k xs)]) ∧ Below w.heap.size w w' := by
  have hl := hx.1
  unfold bAtt bKind
  rcases b_split k with h | ⟨h0, e1, e3, e4, e5, e6, e9⟩
  · rcases h with rfl | h | h | h | rfl | h
    · by_cases hz : (n : Int) = 1
      · by_cases hq : numV xs 1 ≤ 2
        · have : bOkV 1 xs = true := by unfold bOkV; simp [bSize, hq]; omega
          rw [this]
          exact bread_1y A n c xs w hx hn hz hq
        · have : bOkV 1 xs = false := by unfold bOkV; simp [hq]
          rw [this]
          exact bread_1r A n c xs w hx hn hz hq
      · have : bOkV 1 xs = false := by unfold bOkV; simp [bSize]; omega
        rw [this]
        exact bread_1n A n c xs w hx hn hz
    · have hb : bSize k = 4 := by subst h; rfl
      have hk1 : k ≠ 1 := by omega
      by_cases hz : (n : Int) = 4
      · have : bOkV k xs = true := by unfold bOkV; rw [hb]; simp [hk1]; omega
        rw [this, hb]
        exact bread_Fy k hwf 144 (Lib.hid (by subst h; rfl)) (Lib.hid (by subst h; rfl)) A n c xs w hx hn hz
      · have : bOkV k xs = false := by unfold bOkV; rw [hb]; simp; omega
        rw [this]
        exact bread_Fn k hwf 144 (Lib.hid (by subst h; rfl)) (Lib.hid (by subst h; rfl)) A n c xs w hx hn hz
    · have hb : bSize k = 4 := by subst h; rfl
      have hk1 : k ≠ 1 := by omega
      by_cases hz : (n : Int) = 4
      · have : bOkV k xs = true := by unfold bOkV; rw [hb]; simp [hk1]; omega
        rw [this, hb]
        exact bread_Fy k hwf 146 (Lib.hid (by subst h; rfl)) (Lib.hid (by subst h; rfl)) A n c xs w hx hn hz
      · have : bOkV k xs = false := by unfold bOkV; rw [hb]; simp; omega
        rw [this]
        exact bread_Fn k hwf 146 (Lib.hid (by subst h; rfl)) (Lib.hid (by subst h; rfl)) A n c xs w hx hn hz
    · have hb : bSize k = 4 := by subst h; rfl
      have hk1 : k ≠ 1 := by omega
      by_cases hz : (n : Int) = 4
      · have : bOkV k xs = true := by unfold bOkV; rw [hb]; simp [hk1]; omega
        rw [this, hb]
        exact bread_Fy k hwf 148 (Lib.hid (by subst h; rfl)) (Lib.hid (by subst h; rfl)) A n c xs w hx hn hz
      · have : bOkV k xs = false := by unfold bOkV; rw [hb]; simp; omega
        rw [this]
        exact bread_Fn k hwf 148 (Lib.hid (by subst h; rfl)) (Lib.hid (by subst h; rfl)) A n c xs w hx hn hz
    · by_cases hz : (n : Int) = 0
      · have : bOkV 6 xs = true := decide_eq_true ⟨by rw [← hl]; exact hz, fun h => by omega⟩
        rw [this]
        exact bread_6y A n c xs w hx hn hz
      · have : bOkV 6 xs = false := decide_eq_false (fun h => hz (by have := h.1; rw [← hl] at this; exact this))
        rw [this]
        exact bread_6n A n c xs w hx hn hz
    · have hb : bSize k = 4 := by subst h; rfl
      have hk1 : k ≠ 1 := by omega
      by_cases hz : (n : Int) = 4
      · have : bOkV k xs = true := by unfold bOkV; rw [hb]; simp [hk1]; omega
        rw [this, hb]
        exact bread_Fy k hwf 151 (Lib.hid (by subst h; rfl)) (Lib.hid (by subst h; rfl)) A n c xs w hx hn hz
      · have : bOkV k xs = false := by unfold bOkV; rw [hb]; simp; omega
        rw [this]
        exact bread_Fn k hwf 151 (Lib.hid (by subst h; rfl)) (Lib.hid (by subst h; rfl)) A n c xs w hx hn hz
  · have : bOkV k xs = false := decide_eq_false (fun h => by have := h.1; rw [h0] at this; omega)
    rw [this]
    exact bread_U k hwf (Lib.hid (by unfold bRow bKnown; rw [h0]; rfl)) (Lib.hid (by unfold bKnown; rw [h0]; rfl)) A n c xs w hx hn
end Go.Proofs.YtmcnpkfeipelgaaGreatDoor
