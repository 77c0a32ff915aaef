/- verdicts, lists of verdicts; few -/
import Derived.Test.YtmcmhljonkijjaaDoorFnE
namespace Go.Proofs.YtmcmhljonkijjaaDoor
open Go.RowKit Go.Sort

/-- A verdict. -/
structure Vd where
  k : Int
  c : Int
  s : Int
  A : Option Addr
  n : Nat
  cp : Nat
  xs : List Int
  t : Int
def vdc (v : Vd) : Array Value := #[.int .i64 v.k, .int .i64 v.c, .int .i64 v.s, .slice v.A v.n v.cp, .int .i64 v.t]
def Vd.Ok (w : World) (B : Nat) (v : Vd) : Prop := Bytes w B v.A v.n v.xs ∧ v.n ≤ maxLen ∧ v.t ≤ 9223372036854775807
def vd0 : Vd := ⟨0, 0, 0, none, 0, 0, [], 0⟩
theorem Vd.Ok.below {w w' : World} {B : Nat} {v : Vd} (h : v.Ok w B) (hb : Below B w w') : v.Ok w' B := ⟨h.1.below hb, h.2⟩
theorem Vd.Ok.more {w : World} {B B' : Nat} {v : Vd} (h : v.Ok w B) (hB : B ≤ B') : v.Ok w B' := ⟨h.1.more hB, h.2⟩
/-- A list of verdicts. -/
def Vds (w : World) (B : Nat) (A : Option Addr) (n : Nat) (vs : List Vd) : Prop :=
  n = vs.length ∧ (∀ v ∈ vs, v.Ok w B) ∧ (vs = [] ∨ ∃ b o, A = some ⟨b, o, none⟩ ∧ b < B ∧ ∀ i v, vs[i]? = some v → w.rangeAt b (o + i * 5) (vdc v).toList)
theorem Vds.below {w w' : World} {B : Nat} {A : Option Addr} {n : Nat} {vs : List Vd} (h : Vds w B A n vs) (hb : Below B w w') : Vds w' B A n vs := by
  obtain ⟨hn, ho, hr⟩ := h
  refine ⟨hn, fun v hv => (ho v hv).below hb, ?_⟩
  rcases hr with h0 | ⟨b, o, rfl, hlt, hc⟩
  · exact .inl h0
  · exact .inr ⟨b, o, rfl, hlt, fun i v hi j u hu => (World.cell?_of_block (a := ⟨b, _, none⟩) (hb.block b hlt)).trans (hc i v hi j u hu)⟩
theorem Vds.more {w : World} {B B' : Nat} {A : Option Addr} {n : Nat} {vs : List Vd} (h : Vds w B A n vs) (hB : B ≤ B') : Vds w B' A n vs := by
  obtain ⟨hn, ho, hr⟩ := h
  refine ⟨hn, fun v hv => (ho v hv).more hB, ?_⟩
  rcases hr with h0 | ⟨b, o, rfl, hlt, hc⟩
  · exact .inl h0
  · exact .inr ⟨b, o, rfl, by omega, hc⟩
def nthV (vs : List Vd) (i : Nat) : Vd := vs.getD i vd0
theorem nthV_some {vs : List Vd} {i : Nat} (h : i < vs.length) : vs[i]? = some (nthV vs i) := by
  unfold nthV
  rw [List.getD_eq_getElem?_getD, List.getElem?_eq_getElem h]; rfl
theorem nthV_mem {vs : List Vd} {i : Nat} (h : i < vs.length) : nthV vs i ∈ vs := List.mem_of_getElem? (nthV_some h)
theorem take_nthV {vs : List Vd} {i : Nat} (h : i < vs.length) : vs.take (i + 1) = vs.take i ++ [nthV vs i] := by
  rw [List.take_add_one, nthV_some h]; rfl
theorem range5 {w : World} {b o : Nat} {v : Vd} (h : w.rangeAt b o (vdc v).toList) : w.cell? ⟨b, o, none⟩ = some (.int .i64 v.k) ∧ w.cell? ⟨b, o + 1, none⟩ = some (.int .i64 v.c) ∧ w.cell? ⟨b, o + 2, none⟩ = some (.int .i64 v.s) ∧ w.cell? ⟨b, o + 3, none⟩ = some (.slice v.A v.n v.cp) ∧ w.cell? ⟨b, o + 4, none⟩ = some (.int .i64 v.t) :=
  ⟨h 0 _ rfl, h 1 _ rfl, h 2 _ rfl, h 3 _ rfl, h 4 _ rfl⟩
theorem Vds.at_ {w : World} {B : Nat} {A : Option Addr} {n : Nat} {vs : List Vd} (h : Vds w B A n vs) {i : Nat} (hi : i < n) :
    ∃ b o, A = some ⟨b, o, none⟩ ∧ b < B ∧ (nthV vs i).Ok w B ∧ w.rangeAt b (o + i * 5) (vdc (nthV vs i)).toList := by
  obtain ⟨hn, ho, h0 | ⟨b, o, hA, hb, hc⟩⟩ := h
  · subst h0; simp at hn; omega
  · have hi' : i < vs.length := by omega
    exact ⟨b, o, hA, hb, ho _ (nthV_mem hi'), hc i _ (nthV_some hi')⟩
/-- Few and small. -/
def smallV (v : Vd) : Bool := decide (v.n ≤ 200)
def fewV (vs : List Vd) : Bool := vs.all smallV && decide (vs.length ≤ 50)
set_option maxRecDepth 100000 in
set_option maxHeartbeats 800000 in
theorem few11_any (A : Option Addr) (n c : Nat) (vs : List Vd) (w : World) (h : Vds w w.heap.size A n vs) (hm : n ≤ maxLen) :
    Calls Tryd.prog 17 #[.slice A n c] w fun e w' => e = .returned (.bool (fewV vs)) ∧ Below w.heap.size w w' := by
  unfold maxLen at hm
  have HN := Lib.hid h.1
  have HV := Lib.hid h
  clear h
  go_enter Tryd.func17, Tryd.ntmps17
  go_wp2
  go_loopw [7] (fun i wr => (∃ j : Nat, j ≤ n ∧ i = .int .i64 j ∧ Hid ((vs.take j).all smallV = true)) ∧ Below w.heap.size w wr) (fun i _ => n - (intOf i).toNat)
  case atStart => exact ⟨⟨0, Nat.zero_le _, rfl, Lib.hid (by simp)⟩, bl_refl w⟩
  case round =>
    obtain ⟨⟨j, hj, rfl, hall⟩, hbw⟩ := hrel
    by_cases hlt : j < n
    · obtain ⟨b, o, rfl, hbB, hok, hrg⟩ := (HV.out.below hbw).at_ hlt
      have hj' : Hid (j < vs.length) := Lib.hid (by have := HN.out; omega)
      have hst := Lib.hid (take_nthV (vs := vs) (i := j) hj'.out)
      have hnm := hok.2.1
      unfold maxLen at hnm
      generalize nthV vs j = v at *
      obtain ⟨d0, d1, d2, d3, d4⟩ := range5 hrg
      have hbs := hbw.size
      clear hrg hok
      by_cases hs : v.n ≤ 200
      · have hq : decide ((200 : Int) < (v.n : Int)) = false := by simp; omega
        go_wp2
        go_roundw
        case rel => exact ⟨⟨j + 1, by omega, by go_num, Lib.hid (by rw [hst.out, List.all_append, hall.out]; simp [smallV, hs])⟩, bl_alloc hbw _⟩
        case measure => simp [intOf]; omega
      · have hq : decide ((200 : Int) < (v.n : Int)) = true := by simp; omega
        go_wp2
        go_ret
        refine ⟨ret_bool ?_, bl_alloc hbw _⟩
        have h2 : vs.all smallV = false := by
          rw [List.all_eq_false]
          exact ⟨v, List.mem_of_mem_take (i := j + 1) (by rw [hst.out]; simp), by simp [smallV, hs]⟩
        simp [fewV, h2]
    · obtain rfl : j = n := by omega
      have ht : vs.all smallV = true := by
        have := hall.out
        rwa [List.take_of_length_le (by rw [← HN.out]; exact Nat.le_refl _)] at this
      have HT := Lib.hid ht
      clear ht
      go_wp2
      go_ret
      refine ⟨ret_bool ?_, hbw⟩
      rw [fewV, HT.out, ← HN.out, Bool.true_and, Bool.eq_iff_iff]
      simp only [decide_eq_true_eq]
      omega
end Go.Proofs.YtmcmhljonkijjaaDoor
