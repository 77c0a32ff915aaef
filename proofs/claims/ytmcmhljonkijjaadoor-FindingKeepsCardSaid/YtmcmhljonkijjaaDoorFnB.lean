/- finding.Text -/
import Derived.Test.YtmcmhljonkijjaaDoorFnA
namespace Go.Proofs.YtmcmhljonkijjaaDoor
open Go.RowKit Go.Sort

def vAt (s : ByteArray) (t : Int) : ByteArray := s ++ ⟨#[32, 97, 116, 32]⟩ ++ decB t
def vNote (c s : Int) : ByteArray := ⟨#[110, 111, 116, 105, 102, 121, 32]⟩ ++ decB c ++ ⟨#[32]⟩ ++ decB s
/-- The text of a verdict. -/
def vtext (k c s : Int) (xs : List Int) (t : Int) : ByteArray :=
  if k = 0 then ⟨#[97, 99, 99, 101, 112, 116]⟩ else if k = 1 then vAt ⟨#[100, 105, 115, 99, 97, 114, 100]⟩ t else if k = 2 then vAt ⟨#[119, 105, 116, 104, 100, 114, 97, 119]⟩ t
  else if k = 3 then (if s = 2 then vAt ⟨#[114, 101, 115, 101, 116, 32, 105, 112, 118, 54]⟩ t else vAt ⟨#[114, 101, 115, 101, 116, 32, 105, 112, 118, 52]⟩ t)
  else if xs = [] then vAt (vNote c s) t else vAt (vNote c s ++ (⟨#[32]⟩ ++ hexB xs)) t
theorem hexB_size (xs : List Int) : (hexB xs).size = 2 * xs.length := by
  show (hexB xs).data.size = _
  simp [hexB, hexL_len]
set_option maxRecDepth 100000 in
theorem ftext_no (k c s t : Int) (A : Option Addr) (n cp : Nat) (w : World) (hk : vdOk k c s n t = false) :
    Calls Tryd.prog 45 #[.agg #[.int .i64 k, .int .i64 c, .int .i64 s, .slice A n cp, .int .i64 t]] w fun e w' => e = .returned (.string ⟨#[]⟩) ∧ Below w.heap.size w w' := by
  have hb := bl_alloc (bl_refl w) (.cells #[.int .i64 k, .int .i64 c, .int .i64 s, .slice A n cp, .int .i64 t] 40)
  have HK := Lib.hid hk
  clear hk
  go_enter Tryd.func45, Tryd.ntmps45
  go_wp2_with fail
  refine (fproper_any k c s t A n cp _).mono ?_
  rw [HK.out]
  rintro e w1 ⟨rfl, hb1⟩
  go_wp2
  go_ret
  exact ⟨rfl, bl_trans hb hb1⟩
theorem vdOk_facts {k c s t : Int} {n : Nat} (h : vdOk k c s n t = true) : 0 ≤ t ∧ ((k = 0 ∧ c = 0 ∧ s = 0 ∧ n = 0 ∧ t = 0) ∨ ((k = 1 ∨ k = 2) ∧ c = 0 ∧ s = 0 ∧ n = 0) ∨ (k = 3 ∧ c = 0 ∧ (s = 1 ∨ s = 2) ∧ n = 0) ∨ (k = 4 ∧ 1 ≤ c ∧ c ≤ 6 ∧ 0 ≤ s ∧ s ≤ 255)) := of_decide_eq_true h
theorem vd_cells {W : World} {g : Nat} {T : TypeId} {a b c d e : Value} (h : Own W g T #[a, b, c, d, e]) : W.cell? ⟨g, 0, none⟩ = some a ∧ W.cell? ⟨g, 1, none⟩ = some b ∧ W.cell? ⟨g, 2, none⟩ = some c ∧ W.cell? ⟨g, 3, none⟩ = some d ∧ W.cell? ⟨g, 4, none⟩ = some e := ⟨h.cell rfl, h.cell rfl, h.cell rfl, h.cell rfl, h.cell rfl⟩
set_option maxRecDepth 100000 in
set_option maxHeartbeats 1600000 in
theorem ftext_few (k c s t : Int) (A : Option Addr) (n cp : Nat) (w : World) (ht : Tens w) (h1 : t ≤ 9223372036854775807) (hk : vdOk k c s n t = true) (hk4 : k ≠ 4) :
    Calls Tryd.prog 45 #[.agg #[.int .i64 k, .int .i64 c, .int .i64 s, .slice A n cp, .int .i64 t]] w fun e w' => e = .returned (.string (vtext k c s [] t)) ∧ Below w.heap.size w w' := by
  have hf := vdOk_facts hk
  have h0 := hf.1
  have HK := Lib.hid hk
  have s2 := decB_size h1
  have hcases : (k = 0) ∨ (k = 1) ∨ (k = 2) ∨ (k = 3 ∧ s = 1) ∨ (k = 3 ∧ s = 2) := by omega
  clear hf hk
  have hb := bl_alloc (bl_refl w) (.cells #[.int .i64 k, .int .i64 c, .int .i64 s, .slice A n cp, .int .i64 t] 40)
  have o0 := Own.new w 40 #[.int .i64 k, .int .i64 c, .int .i64 s, .slice A n cp, .int .i64 t]
  have n1 : ¬ 9223372036854775807 < 7 + 4 + (decB t).size := by omega
  have n2 : ¬ 9223372036854775807 < 8 + 4 + (decB t).size := by omega
  have n3 : ¬ 9223372036854775807 < 10 + 4 + (decB t).size := by omega
  have n4 : ¬ 9223372036854775807 < 11 + (decB t).size := by omega
  have n5 : ¬ 9223372036854775807 < 12 + (decB t).size := by omega
  have n6 : ¬ 9223372036854775807 < 14 + (decB t).size := by omega
  go_enter Tryd.func45, Tryd.ntmps45
  go_wp2_with fail
  refine (fproper_any k c s t A n cp _).mono ?_
  rw [HK.out]
  rintro e w1 ⟨rfl, hb1⟩
  have o1 := o0.step hb1
  obtain ⟨c0, c1, c2, c3, c4⟩ := vd_cells o1
  have hb2 := bl_trans hb hb1
  have ht1 := ht.below hb2
  clear hb hb1 o0 o1 s2
  rcases hcases with rfl | rfl | rfl | ⟨rfl, rfl⟩ | ⟨rfl, rfl⟩
  · go_wp2
    go_ret
    exact ⟨rfl, hb2⟩
  all_goals
    go_wp2_with fail
    refine (itoa_any t h0 h1 _ ht1).mono ?_
    rintro e w3 ⟨rfl, hb3⟩
    go_wp2
    go_ret
    exact ⟨rfl, bl_trans hb2 hb3⟩
end Go.Proofs.YtmcmhljonkijjaaDoor
