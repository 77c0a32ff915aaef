/- The text of a group on both sides -/
import Derived.Test.YtngeldgohijheaaDoorCmG
import Derived.Test.YtngeldgohijheaaDoorAdrS
import Derived.Test.YtngeldgohijheaaDoorStepG
namespace Go.Proofs.YtngeldgohijheaaDoor
open Go.RowKit Go.Sort

set_option maxRecDepth 100000 in
theorem fmtC (x : Int) (h0 : 0 ≤ x) (h1 : x < 4294967296) (w : World) (ht : Tens w) :
    Calls Tryd.prog 82 #[.int .u64 x, .int .i64 10] w fun e w' => e = .returned (.string (decB x)) ∧ Below w.heap.size w w' := by
  have h := fmtu_any x.toNat (by omega) w ht
  rwa [Int.toNat_of_nonneg h0] at h
/-- Numbers with colons between them. -/
def colB (xs : List Int) : ByteArray := joinB (xs.map decB) [58]
theorem dec_take {xs : List Int} {q : Nat} (h : q < xs.length) : ((xs.take (q + 1)).map decB).map Value.string = ((xs.take q).map decB).map Value.string ++ [.string (decB (nth xs q))] := by
  rw [take_nth h]; simp
theorem colB_size {xs : List Int} (h : xs.length ≤ 3) (hR : U32L xs) : (colB xs).size ≤ 60 := by
  unfold colB
  have h1 := joinB_size (k := 19) (s := 1) (xs := xs.map decB) (sep := [58]) (by
    intro y hy
    obtain ⟨x, hx, rfl⟩ := List.mem_map.1 hy
    have := hR x hx
    exact decB_size (by omega)) (by simp)
  rw [List.length_map] at h1
  have := Nat.mul_le_mul (Nat.le_refl 20) h
  omega
set_option maxRecDepth 100000 in
set_option maxHeartbeats 1600000 in
theorem colons_any (A : Option Addr) (n c : Nat) (xs : List Int) (w : World) (ht : Tens w) (h : U32s w w.heap.size A n xs) (hR : U32L xs) (hn : n ≤ 3) :
    Calls Tryd.prog 67 #[.slice A n c] w fun e w' => e = .returned (.string (colB xs)) ∧ Below w.heap.size w w' := by
  have HU := Lib.hid h
  have HL := Lib.hid h.1
  have HT := Lib.hid ht
  have HR := Lib.hid hR
  have hO : Hid (colB xs = joinB (xs.map decB) [58]) := Lib.hid rfl
  clear h ht hR
  go_enter Tryd.func67, Tryd.ntmps67
  go_wp2
  go_loopw [3, 8] (fun v i wr => ∃ q : Nat, q ≤ n ∧ i = .int .i64 q ∧ wr.ownsRow w.heap.size 9 1 v q (((xs.take q).map decB).map Value.string) ∧ Below w.heap.size w wr) (fun _ i _ => n - (intOf i).toNat)
  case atStart => exact ⟨0, Nat.zero_le _, rfl, World.ownsRow_nil _ _ _ _, bl_refl w⟩
  case round =>
    obtain ⟨q, hq, rfl, hoq, hbq⟩ := hrel
    by_cases hltq : q < n
    · obtain ⟨b2, o2, rfl, hb2B, hc2⟩ := (HU.out.below hbq).at_ hltq
      have hq1 := Lib.hid (show q < xs.length by rw [← HL.out]; exact hltq)
      have hD := Lib.hid (dec_take hq1.out)
      have hxr := HR.out _ (nth_mem hq1.out)
      generalize nth xs q = x at *
      have hF := Lib.hid (fmtC x hxr.1 hxr.2 _ (HT.out.below hbq))
      have w64 : IntKind.u64.wrap x = x := by rw [IntKind.wrap_u64]; omega
      clear hxr
      go_wp2_with fail
      refine hF.out.mono ?_
      rintro e w2 ⟨rfl, hb2⟩
      have hoq1 := own_belowG hoq hb2
      have hbq1 := bl_trans hbq hb2
      have hbs2 := hbq1.size
      clear hoq hbq hb2 hc2
      go_wp2_with (at_builtin; refine wpList_append_grow _ rfl _ _ rfl sl_strA w.heap.size _ _ _ rfl (hoq1.alloc _) (w2.heap.size + 1) (some ⟨w2.heap.size, 0, none⟩) 1 1 [_] rfl rfl (Shows.of_owned (Own.new _ _ _) (by simp)) (one1 rfl) (by unfold maxLen; omega) (by omega) (by simp; omega) ?_; intro v3 w3 hoq2 hgrow2)
      have hbq3 : Below w.heap.size w w3 := (hbq1.alloc hbq1.size _).grown hgrow2 (by simp; omega) (fun j hj => own_base hoq1 j hj)
      rw [← hD.out] at hoq2
      go_roundw
      case rel => exact ⟨q + 1, by omega, by go_num, hoq2, hbq3⟩
      case measure => simp [intOf]; omega
    · obtain rfl : q = n := by omega
      have hJr := Lib.hid (show wr.ownsRow w.heap.size 9 1 _ (xs.map decB).length ((xs.map decB).map Value.string) by
        have e := HL.out
        rw [List.length_map, ← e]
        rw [List.take_of_length_le (by omega)] at hoq
        exact hoq)
      have hJl := Lib.hid (show (xs.map decB).length ≤ 1000000 by rw [List.length_map]; have := HL.out; omega)
      have hJz := Lib.hid (show ∀ y ∈ xs.map decB, y.data.toList.length ≤ 19 by
        intro y hy
        obtain ⟨x, hx, rfl⟩ := List.mem_map.1 hy
        have := decB_size (n := x) (by have := HR.out x hx; omega)
        rwa [Array.length_toList])
      obtain ⟨A1, c1, rfl⟩ : ∃ A c, u3 = .slice A q c := by obtain ⟨A, c, e, _⟩ := own_val hoq; exact ⟨A, c, e⟩
      clear hoq
      go_wp2_with fail
      refine (join_row 19 ⟨#[58]⟩ hJr.out hJl.out hJz.out (by omega) (by decide)).mono ?_
      rintro e w2 ⟨rfl, hb2⟩
      have hbb := bl_trans hbq hb2
      go_wp2
      go_ret
      exact ⟨by rw [hO.out]; rfl, hbb⟩
/-- The text of a group. -/
def formB (k : Int) (t : Tup) : ByteArray := if k = 8 then colB [t.a / 65536, t.a % 65536] else if k = 10 then adrB t.a else colB ([t.a, t.b, t.c].take (cmG k))
theorem and_half (a : Int) (h0 : 0 ≤ a) (h1 : a < 4294967296) : bits BinOp.and IntKind.u32 a 65535 = a % 65536 := by
  rw [u32_and _ _ h0 h1 (by omega) (by omega)]
  rw [show (65535 : Int).toNat = 65535 from rfl, nat_mask16]
  omega
theorem half_range {a : Int} (h0 : 0 ≤ a) (h1 : a < 4294967296) : U32L [a / 65536, a % 65536] := by
  intro x hx
  simp only [List.mem_cons, List.not_mem_nil, or_false] at hx
  rcases hx with rfl | rfl <;> omega
theorem three_range (t : Tup) (g : Nat) : U32L (([t.a, t.b, t.c] : List Int).take g) := by
  intro x hx
  have h := List.mem_of_mem_take hx
  simp only [List.mem_cons, List.not_mem_nil, or_false] at h
  rcases h with rfl | rfl | rfl
  · exact t.ha
  · exact t.hb
  · exact t.hc
theorem formB_size (k : Int) (t : Tup) : (formB k t).size ≤ 80 := by
  unfold formB
  split
  · have := colB_size (xs := [t.a / 65536, t.a % 65536]) (by simp) (half_range t.ha.1 t.ha.2)
    omega
  · split
    · exact adrB_size _
    · have := colB_size (xs := ([t.a, t.b, t.c] : List Int).take (cmG k)) (by rw [List.length_take]; simp; omega) (three_range t _)
      omega
theorem shows_takeC {w : World} {g : Nat} {T : TypeId} {cs : List Value} (o : Own w g T cs.toArray) (k : Nat) {B : Nat} (hB : g < B) : Shows w B (some ⟨g, 0, none⟩) (cs.take k) :=
  .inr ⟨g, 0, rfl, hB, fun i v hv => by
    rw [Nat.zero_add]
    refine o.cell (i := i) ?_
    rw [List.getElem?_take] at hv
    split at hv
    · simpa using hv
    · cases hv⟩
set_option maxRecDepth 100000 in
set_option maxHeartbeats 1600000 in
theorem form_any (k : Int) (t : Tup) (w : World) (ht : Tens w) (hk : cmG k ≠ 0) :
    Calls Tryd.prog 49 #[.int .i64 k, .agg #[.int .u32 t.a, .int .u32 t.b, .int .u32 t.c]] w fun e w' => e = .returned (.string (formB k t)) ∧ Below w.heap.size w w' := by
  have oT := Own.new w 70 #[.int .u32 t.a, .int .u32 t.b, .int .u32 t.c]
  have hb0 := bl_alloc (bl_refl w) (.cells #[.int .u32 t.a, .int .u32 t.b, .int .u32 t.c] 70)
  have ht0 := ht.below hb0
  by_cases h8 : k = 8
  · have hF := Lib.hid (show formB k t = colB [t.a / 65536, t.a % 65536] by unfold formB; rw [if_pos h8])
    generalize formB k t = V at *
    have hr := half_range t.ha.1 t.ha.2
    have e1 := and_half t.a t.ha.1 t.ha.2
    obtain ⟨x, y, z, hx, hy, hz⟩ := t
    dsimp only at *
    subst h8
    have hb1 := bl_alloc hb0 (.cells #[.int .u32 (x / 65536), .int .u32 (x % 65536)] 24)
    have oC := Own.new (w.alloc (.cells #[.int .u32 x, .int .u32 y, .int .u32 z] 70)) 24 #[.int .u32 (x / 65536), .int .u32 (x % 65536)]
    rw [show (w.alloc (.cells #[.int .u32 x, .int .u32 y, .int .u32 z] 70)).heap.size = w.heap.size + 1 by simp] at oC
    have hC := Lib.hid (colons_any (some ⟨w.heap.size + 1, 0, none⟩) 2 2 [x / 65536, x % 65536] _ (ht.below hb1) ⟨rfl, Shows.of_owned oC (by simp)⟩ hr (by omega))
    clear hr hk oC ht0
    go_enter Tryd.func49, Tryd.ntmps49
    go_wp2_with fail
    refine hC.out.mono ?_
    rintro e w2 ⟨rfl, hb2⟩
    go_wp2
    go_ret
    exact ⟨by rw [hF.out]; rfl, bl_trans hb1 hb2⟩
  have q8 : (k == 8) = false := by simpa using h8
  by_cases h10 : k = 10
  · have hF := Lib.hid (show formB k t = adrB t.a by unfold formB; rw [if_neg h8, if_pos h10])
    generalize formB k t = V at *
    obtain ⟨x, y, z, hx, hy, hz⟩ := t
    dsimp only at *
    subst h10
    have hA := Lib.hid (badr_any x hx.1 hx.2 _ ht0)
    clear hk
    go_enter Tryd.func49, Tryd.ntmps49
    go_wp2_with fail
    refine hA.out.mono ?_
    rintro e w2 ⟨rfl, hb2⟩
    go_wp2
    go_ret
    exact ⟨by rw [hF.out]; rfl, bl_trans hb0 hb2⟩
  have q10 : (k == 10) = false := by simpa using h10
  have hF := Lib.hid (show formB k t = colB ([t.a, t.b, t.c].take (cmG k)) by unfold formB; rw [if_neg h8, if_neg h10])
  generalize formB k t = V at *
  have hr := three_range t (cmG k)
  have hG := Lib.hid (cmgroup_any k)
  have hg3 := cmG_le k
  generalize cmG k = g at *
  have hlen : g = (([t.a, t.b, t.c] : List Int).take g).length := by rw [List.length_take]; simp; omega
  have hS : Shows (w.alloc (.cells #[.int .u32 t.a, .int .u32 t.b, .int .u32 t.c] 70)) (w.alloc (.cells #[.int .u32 t.a, .int .u32 t.b, .int .u32 t.c] 70)).heap.size (some ⟨w.heap.size, 0, none⟩) ((([t.a, t.b, t.c] : List Int).take g).map (Value.int .u32)) := by
    rw [List.map_take]
    exact shows_takeC (cs := [.int .u32 t.a, .int .u32 t.b, .int .u32 t.c]) oT g (by simp)
  have hC := Lib.hid (colons_any (some ⟨w.heap.size, 0, none⟩) g 3 (([t.a, t.b, t.c] : List Int).take g) _ ht0 ⟨hlen, hS⟩ hr hg3)
  clear hlen hS hr h8 h10
  generalize ([t.a, t.b, t.c] : List Int).take g = L at *
  obtain ⟨x, y, z, hx, hy, hz⟩ := t
  dsimp only at *
  have i1 : (0 : Int) ≤ (g : Int) := by omega
  have i2 : (g : Int) ≤ 3 := by omega
  have i3 : ((g : Int)).toNat = g := Int.toNat_natCast g
  go_enter Tryd.func49, Tryd.ntmps49
  go_wp2_with fail
  refine (hG.out _).mono ?_
  rintro e w' ⟨rfl, rfl⟩
  go_wp2_with fail
  refine hC.out.mono ?_
  rintro e w2 ⟨rfl, hb2⟩
  go_wp2
  go_ret
  exact ⟨by rw [hF.out]; rfl, bl_trans hb0 hb2⟩
end Go.Proofs.YtngeldgohijheaaDoor
