/- segment.Text -/
import Derived.Test.YtecbbjdcnlocdaaDoorSgB
import Derived.Test.YtecbbjdcnlocdaaDoorAdr
namespace Go.Proofs.YtecbbjdcnlocdaaDoor
open Go.RowKit Go.Sort

/-- What the walks ask of segment.brackets. -/
def Brk (w : World) : Prop := w.cell? ⟨0, 1, none⟩ = some (.string ⟨#[123, 125]⟩) ∧ w.cell? ⟨0, 2, none⟩ = some (.string ⟨#[91, 93]⟩) ∧ 0 < w.heap.size
theorem Brk.below {w w' : World} (h : Brk w) (hb : Below w.heap.size w w') : Brk w' :=
  ⟨(hb.cell (p := ⟨0, 1, none⟩) h.2.2).trans h.1, (hb.cell (p := ⟨0, 2, none⟩) h.2.2).trans h.2.1, Nat.lt_of_lt_of_le h.2.2 hb.size⟩
/-- The text of a segment. -/
def segJ (xs : List Int) : ByteArray := joinB (xs.map decB) [32]
def sgTxt (s : Sg) : ByteArray := if s.k = 1 then ⟨#[123]⟩ ++ segJ s.xs ++ ⟨#[125]⟩ else ⟨#[91]⟩ ++ segJ s.xs ++ ⟨#[93]⟩
def sgsTxt (ss : List Sg) : ByteArray := joinB (ss.map sgTxt) [32]
theorem segJ_size {xs : List Int} (h : ∀ x ∈ xs, x ≤ 4294967295) (hl : xs.length ≤ 255) : (segJ xs).size ≤ 5100 := by
  have := joinB_size (k := 19) (s := 1) (xs := xs.map decB) (sep := [32]) (fun y hy => by
    obtain ⟨x, hx, rfl⟩ := List.mem_map.1 hy
    have := h x hx
    exact decB_size (by omega)) (by simp)
  rw [List.length_map] at this
  unfold segJ
  omega
theorem sgTxt_size {s : Sg} (h : ∀ x ∈ s.xs, x ≤ 4294967295) (hl : s.xs.length ≤ 255) : (sgTxt s).size ≤ 5102 := by
  have := segJ_size h hl
  unfold sgTxt
  split <;> (rw [ByteArray.size_append, ByteArray.size_append]; first | (show 1 + (segJ s.xs).size + 1 ≤ 5102; omega))
theorem strs_take {ss : List Sg} {k : Nat} (h : k < ss.length) : ((ss.take (k + 1)).map sgTxt).map Value.string = ((ss.take k).map sgTxt).map Value.string ++ [.string (sgTxt (sgth ss k))] := by
  rw [take_sgth h]; simp
theorem decs_take {xs : List Int} {k : Nat} (h : k < xs.length) : ((xs.take (k + 1)).map decB).map Value.string = ((xs.take k).map decB).map Value.string ++ [.string (decB (nth xs k))] := by
  rw [take_nth h]; simp
set_option maxRecDepth 100000 in
theorem stext_no (A : Option Addr) (n c : Nat) (ss : List Sg) (w : World) (h : Segs w w.heap.size A n ss) (hn : n ≤ 1000000) (hk : ss.all (sgOk 4) = false) :
    Calls Tryd.prog 12 #[.slice A n c] w fun e w' => e = .returned (.string ⟨#[]⟩) ∧ Below w.heap.size w w' := by
  have hV := Lib.hid (svalid_yes 4 (.inr rfl) A n c ss w h hn)
  rw [hk] at hV
  clear hk
  go_enter Tryd.func12, Tryd.ntmps12
  go_wp2_with fail
  refine hV.out.mono ?_
  rintro e w1 ⟨rfl, hb⟩
  go_wp2
  go_ret
  exact ⟨rfl, hb⟩
set_option maxRecDepth 100000 in
theorem fmtS (x : Int) (h0 : 0 ≤ x) (h1 : x < 4294967296) (W : World) (ht : Tens W) :
    Calls Tryd.prog 43 #[.int .u64 x, .int .i64 10] W fun e w' => e = .returned (.string (decB x)) ∧ Below W.heap.size W w' := by
  have := fmtu_any x.toNat (by omega) W ht
  rw [Int.toNat_of_nonneg h0] at this
  exact this
theorem own_belowA {w w' : World} {base : Nat} {e : TypeId} {size n : Nat} {v : Value} {xs : List Value} (h : w.ownsRow base e size v n xs) (hb : Below w.heap.size w w') : w'.ownsRow base e size v n xs :=
  h.kept (only_of_below hb none) (by cases hv : v.ownBlock <;> simp)
set_option maxRecDepth 100000 in
theorem join_rowD {w : World} {base : Nat} {v : Value} {xs : List ByteArray} {J : ByteArray} (hown : w.ownsRow base 9 1 v xs.length (xs.map Value.string)) (hn : xs.length ≤ 1000000) (hk : ∀ x ∈ xs, x.data.toList.length ≤ 19) (hJ : joinB xs [32] = J) :
    Calls Tryd.prog 44 #[v, .string ⟨#[32]⟩] w.drew fun e w' => e = .returned (.string J) ∧ Below w.drew.heap.size w.drew w' := by
  have := join_row 19 ⟨#[32]⟩ (own_belowA hown (show Below w.heap.size w w.drew from bl_drewN (bl_refl w) 1)) hn hk (by omega) (by decide)
  rw [show (⟨#[32]⟩ : ByteArray).data.toList = [32] from rfl, hJ] at this
  exact this
end Go.Proofs.YtecbbjdcnlocdaaDoor
