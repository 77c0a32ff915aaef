/- Lists of attributes; aggregate.first and its reference -/
import Derived.Test.YtkcejeogacobiaaDoorAwA
import Derived.Test.YtkcejeogacobiaaDoorSg
namespace Go.Proofs.YtkcejeogacobiaaDoor
open Go.RowKit

def atz : At := at0 0 0
def Ats (w : World) (B : Nat) (A : Option Addr) (n : Nat) (aa : List At) : Prop :=
  n = aa.length ∧ (aa = [] ∨ ∃ b o, A = some ⟨b, o, none⟩ ∧ b < B ∧ ∀ i a, aa[i]? = some a → w.rangeAt b (o + i * 9) (atc a).toList)
theorem Ats.below {w w' : World} {B : Nat} {A : Option Addr} {n : Nat} {aa : List At} (h : Ats w B A n aa) (hb : Below B w w') : Ats w' B A n aa := by
  obtain ⟨hn, hr⟩ := h
  refine ⟨hn, ?_⟩
  rcases hr with h0 | ⟨b, o, rfl, hlt, hc⟩
  · exact .inl h0
  · exact .inr ⟨b, o, rfl, hlt, fun i v hi j u hu => (World.cell?_of_block (a := ⟨b, _, none⟩) (hb.block b hlt)).trans (hc i v hi j u hu)⟩
theorem Ats.more {w : World} {B B' : Nat} {A : Option Addr} {n : Nat} {aa : List At} (h : Ats w B A n aa) (hB : B ≤ B') : Ats w B' A n aa := by
  obtain ⟨hn, hr⟩ := h
  refine ⟨hn, ?_⟩
  rcases hr with h0 | ⟨b, o, rfl, hlt, hc⟩
  · exact .inl h0
  · exact .inr ⟨b, o, rfl, by omega, hc⟩
def nthA (aa : List At) (i : Nat) : At := aa.getD i atz
theorem nthA_some {aa : List At} {i : Nat} (h : i < aa.length) : aa[i]? = some (nthA aa i) := by
  unfold nthA
  rw [List.getD_eq_getElem?_getD, List.getElem?_eq_getElem h]; rfl
theorem nthA_mem {aa : List At} {i : Nat} (h : i < aa.length) : nthA aa i ∈ aa := List.mem_of_getElem? (nthA_some h)
theorem take_nthA {aa : List At} {i : Nat} (h : i < aa.length) : aa.take (i + 1) = aa.take i ++ [nthA aa i] := by
  rw [List.take_add_one, nthA_some h]; rfl
theorem Ats.at_ {w : World} {B : Nat} {A : Option Addr} {n : Nat} {aa : List At} (h : Ats w B A n aa) {i : Nat} (hi : i < n) :
    ∃ b o, A = some ⟨b, o, none⟩ ∧ b < B ∧ w.rangeAt b (o + i * 9) (atc (nthA aa i)).toList := by
  obtain ⟨hn, h0 | ⟨b, o, hA, hb, hc⟩⟩ := h
  · subst h0; simp at hn; omega
  · have hi' : i < aa.length := by omega
    exact ⟨b, o, hA, hb, hc i _ (nthA_some hi')⟩
theorem range9 {w : World} {b o : Nat} {x0 x1 x2 x3 x4 x5 x6 x7 x8 : Value} (h : w.rangeAt b o (#[x0, x1, x2, x3, x4, x5, x6, x7, x8] : Array Value).toList) : w.cell? ⟨b, o, none⟩ = some x0 ∧ w.cell? ⟨b, o + 1, none⟩ = some x1 ∧ w.cell? ⟨b, o + 2, none⟩ = some x2 ∧ w.cell? ⟨b, o + 3, none⟩ = some x3 ∧ w.cell? ⟨b, o + 4, none⟩ = some x4 ∧ w.cell? ⟨b, o + 5, none⟩ = some x5 ∧ w.cell? ⟨b, o + 6, none⟩ = some x6 ∧ w.cell? ⟨b, o + 7, none⟩ = some x7 ∧ w.cell? ⟨b, o + 8, none⟩ = some x8 :=
  ⟨h 0 _ rfl, h 1 _ rfl, h 2 _ rfl, h 3 _ rfl, h 4 _ rfl, h 5 _ rfl, h 6 _ rfl, h 7 _ rfl, h 8 _ rfl⟩
theorem atA_one (k : Int) (p : Bool) (N M : Int) (A1 : Option Addr) (n1 c1 : Nat) (A2 : Option Addr) (n2 c2 : Nat) (A3 : Option Addr) (n3 c3 : Nat) (f : Int) (A4 : Option Addr) (n4 c4 : Nat) : (#[.int .i64 k, .bool p, .int .u32 N, .int .u32 M, .slice A1 n1 c1, .slice A2 n2 c2, .slice A3 n3 c3, .int .i64 f, .slice A4 n4 c4] : Array Value).all (·.oneCell') = true := by simp [Value.oneCell']
/-- The first attribute of some kind, or none. -/
def FstR (P : At → Bool) (aa : List At) (x : At) (q : Bool) : Prop := (q = true ∧ aa.find? P = some x) ∨ (q = false ∧ aa.find? P = none ∧ x = atz)
theorem find_at {P : At → Bool} {aa : List At} {j : Nat} (h : j < aa.length) (hall : ∀ x ∈ aa.take j, P x = false) (hp : P (nthA aa j) = true) : aa.find? P = some (nthA aa j) := by
  have e : aa = aa.take j ++ nthA aa j :: aa.drop (j + 1) := by
    have h2 := List.take_append_drop (j + 1) aa
    rw [take_nthA h, List.append_assoc] at h2
    exact h2.symm
  rw [e, List.find?_append, List.find?_eq_none.2 (fun x hx => by rw [hall x hx]; simp)]
  have e2 : nthA (aa.take j ++ nthA aa j :: aa.drop (j + 1)) j = nthA aa j := by rw [← e]
  rw [e2]
  simp [hp]
theorem find_no {P : At → Bool} {aa : List At} (hall : ∀ x ∈ aa, P x = false) : aa.find? P = none := List.find?_eq_none.2 (fun x hx => by rw [hall x hx]; simp)
set_option maxRecDepth 100000 in
set_option maxHeartbeats 3200000 in
theorem first_1 (A : Option Addr) (n c : Nat) (aa : List At) (w : World) (h : Ats w w.heap.size A n aa) (hm : n ≤ maxLen) (P : At → Bool)
    (hP : Hid (∀ a ∈ aa, ∀ W, Below w.heap.size w W → Calls Tryd.prog 82 #[.agg (atc a)] W fun e w' => e = .returned (.bool (P a)) ∧ Below W.heap.size W w')) :
    Calls Tryd.prog 81 #[.slice A n c, .func (.func 82) #[] #[]] w fun e w' => ∃ x q, e = .returned (.tuple #[.agg (atc x), .bool q]) ∧ FstR P aa x q ∧ Below w.heap.size w w' := by
  unfold maxLen at hm
  have HN := Lib.hid h.1
  have HV := Lib.hid h
  clear h
  have o0 := Own.new w 29 #[.int .i64 0, .bool false, .int .u32 0, .int .u32 0, .slice none 0 0, .slice none 0 0, .slice none 0 0, .int .i64 0, .slice none 0 0]
  have hb0 := bl_alloc (bl_refl w) (.cells #[.int .i64 0, .bool false, .int .u32 0, .int .u32 0, .slice none 0 0, .slice none 0 0, .slice none 0 0, .int .i64 0, .slice none 0 0] 29)
  go_enter Tryd.func81, Tryd.ntmps81
  go_wp2_with fail
  go_loopw [11] (fun i wr => (∃ j : Nat, j ≤ n ∧ i = .int .i64 j ∧ Hid (∀ x ∈ aa.take j, P x = false)) ∧ Own wr w.heap.size 29 #[.int .i64 0, .bool false, .int .u32 0, .int .u32 0, .slice none 0 0, .slice none 0 0, .slice none 0 0, .int .i64 0, .slice none 0 0] ∧ Below w.heap.size w wr) (fun i _ => n - (intOf i).toNat)
  case atStart => exact ⟨⟨0, Nat.zero_le _, rfl, Lib.hid (by simp)⟩, o0, hb0⟩
  case round =>
    obtain ⟨⟨j, hj, rfl, hall⟩, hor, hbw⟩ := hrel
    clear o0 hb0
    by_cases hlt : j < n
    · obtain ⟨b, o, rfl, hbB, hrg⟩ := (HV.out.below hbw).at_ hlt
      have hj' : Hid (j < aa.length) := Lib.hid (by have := HN.out; omega)
      have hst := Lib.hid (take_nthA (aa := aa) (i := j) hj'.out)
      have hp := Lib.hid (fun (W : World) (hW : Below w.heap.size w W) => hP.out _ (nthA_mem hj'.out) W hW)
      have hfa := Lib.hid (fun hq => find_at (P := P) hj'.out hall.out hq)
      have hne := Lib.hid (fun (hq : P (nthA aa j) = false) => show ∀ x ∈ aa.take (j + 1), P x = false from fun x hx => by
        rw [hst.out] at hx
        rcases List.mem_append.1 hx with hx | hx
        · exact hall.out x hx
        · rw [List.mem_singleton] at hx; rw [hx]; exact hq)
      generalize hq : P (nthA aa j) = q at *
      have HQ := Lib.hid hq
      clear hq hst hall
      generalize nthA aa j = a at *
      obtain ⟨k, p, N, M, A1, n1, c1, A2, n2, c2, A3, n3, c3, f, A4, n4, c4⟩ := a
      unfold atc at *
      dsimp only at *
      obtain ⟨e0, e1, e2, e3, e4, e5, e6, e7, e8⟩ := range9 hrg
      have hbs := hbw.size
      have hl := hor.lt
      have hb1 := bl_alloc hbw (.cells #[.int .i64 k, .bool p, .int .u32 N, .int .u32 M, .slice A1 n1 c1, .slice A2 n2 c2, .slice A3 n3 c3, .int .i64 f, .slice A4 n4 c4] 29)
      have o1 := hor.alloc (.cells #[.int .i64 k, .bool p, .int .u32 N, .int .u32 M, .slice A1 n1 c1, .slice A2 n2 c2, .slice A3 n3 c3, .int .i64 f, .slice A4 n4 c4] 29)
      have oX := Own.new wr 29 #[.int .i64 k, .bool p, .int .u32 N, .int .u32 M, .slice A1 n1 c1, .slice A2 n2 c2, .slice A3 n3 c3, .int .i64 f, .slice A4 n4 c4]
      clear hrg hor hbw
      go_wp2_with fail
      go_at_call 82
      refine (hp.out _ hb1).mono ?_
      rintro e w2 ⟨rfl, hb2⟩
      have o2 := o1.step hb2
      have hb3 := bl_trans hb1 hb2
      have pX := oX.step hb2
      clear e0 e1 e2 e3 e4 e5 e6 e7 e8 o1 oX hb1 hb2
      cases q
      · have hn2 := Lib.hid (hne.out rfl)
        go_wp2
        go_roundw
        case rel => exact ⟨⟨j + 1, by omega, by go_num, hn2⟩, o2, hb3⟩
        case measure => simp [intOf]; omega
      · have hf := Lib.hid (hfa.out rfl)
        obtain ⟨e0, e1, e2, e3, e4, e5, e6, e7, e8⟩ := at_cells pX
        go_wp2_with (refine wpList_store_row rfl 29 _ _ rfl w.heap.size #[.int .i64 k, .bool p, .int .u32 N, .int .u32 M, .slice A1 n1 c1, .slice A2 n2 c2, .slice A3 n3 c3, .int .i64 f, .slice A4 n4 c4] rfl rfl 29 #[.int .i64 0, .bool false, .int .u32 0, .int .u32 0, .slice none 0 0, .slice none 0 0, .slice none 0 0, .int .i64 0, .slice none 0 0] o2 (at_info9 _ _ _ _ _ _ _ _ _) rfl (atA_one _ _ _ _ _ _ _ _ _ _ _ _ _ _ _ _ _) ?_)
        exact bodyPost_ret (results_cell_tmp (p := 4) (t := 5) (fn := Tryd.f81) rfl _ _ w.heap.size 29 #[.int .i64 k, .bool p, .int .u32 N, .int .u32 M, .slice A1 n1 c1, .slice A2 n2 c2, .slice A3 n3 c3, .int .i64 f, .slice A4 n4 c4] _ rfl o2.setRow at_desc rfl (at_info9 _ _ _ _ _ _ _ _ _)) rfl ⟨⟨k, p, N, M, A1, n1, c1, A2, n2, c2, A3, n3, c3, f, A4, n4, c4⟩, true, rfl, .inl ⟨rfl, hf.out⟩, bl_setRow hb3 (Nat.le_refl _)⟩
    · obtain rfl : j = n := by omega
      have hf := Lib.hid (find_no (P := P) (aa := aa) (fun x hx => hall.out x (by rw [List.take_of_length_le (by rw [← HN.out]; exact Nat.le_refl _)]; exact hx)))
      have o1 := hor.alloc (.cells #[.int .i64 0, .bool false, .int .u32 0, .int .u32 0, .slice none 0 0, .slice none 0 0, .slice none 0 0, .int .i64 0, .slice none 0 0] 29)
      have hb1 := bl_alloc hbw (.cells #[.int .i64 0, .bool false, .int .u32 0, .int .u32 0, .slice none 0 0, .slice none 0 0, .slice none 0 0, .int .i64 0, .slice none 0 0] 29)
      go_wp2_with (refine wpList_store_row rfl 29 _ _ rfl w.heap.size #[.int .i64 0, .bool false, .int .u32 0, .int .u32 0, .slice none 0 0, .slice none 0 0, .slice none 0 0, .int .i64 0, .slice none 0 0] rfl rfl 29 #[.int .i64 0, .bool false, .int .u32 0, .int .u32 0, .slice none 0 0, .slice none 0 0, .slice none 0 0, .int .i64 0, .slice none 0 0] o1 (at_info9 _ _ _ _ _ _ _ _ _) rfl (ag_one _ _ _) ?_)
      exact bodyPost_ret (results_cell_tmp (p := 4) (t := 5) (fn := Tryd.f81) rfl _ _ w.heap.size 29 #[.int .i64 0, .bool false, .int .u32 0, .int .u32 0, .slice none 0 0, .slice none 0 0, .slice none 0 0, .int .i64 0, .slice none 0 0] _ rfl o1.setRow at_desc rfl (at_info9 _ _ _ _ _ _ _ _ _)) rfl ⟨atz, false, rfl, .inr ⟨rfl, hf.out, rfl⟩, bl_setRow hb1 (Nat.le_refl _)⟩
set_option maxRecDepth 100000 in
set_option maxHeartbeats 3200000 in
theorem first_2 (A : Option Addr) (n c : Nat) (aa : List At) (w : World) (h : Ats w w.heap.size A n aa) (hm : n ≤ maxLen) (P : At → Bool)
    (hP : Hid (∀ a ∈ aa, ∀ W, Below w.heap.size w W → Calls Tryd.prog 83 #[.agg (atc a)] W fun e w' => e = .returned (.bool (P a)) ∧ Below W.heap.size W w')) :
    Calls Tryd.prog 81 #[.slice A n c, .func (.func 83) #[] #[]] w fun e w' => ∃ x q, e = .returned (.tuple #[.agg (atc x), .bool q]) ∧ FstR P aa x q ∧ Below w.heap.size w w' := by
  unfold maxLen at hm
  have HN := Lib.hid h.1
  have HV := Lib.hid h
  clear h
  have o0 := Own.new w 29 #[.int .i64 0, .bool false, .int .u32 0, .int .u32 0, .slice none 0 0, .slice none 0 0, .slice none 0 0, .int .i64 0, .slice none 0 0]
  have hb0 := bl_alloc (bl_refl w) (.cells #[.int .i64 0, .bool false, .int .u32 0, .int .u32 0, .slice none 0 0, .slice none 0 0, .slice none 0 0, .int .i64 0, .slice none 0 0] 29)
  go_enter Tryd.func81, Tryd.ntmps81
  go_wp2_with fail
  go_loopw [11] (fun i wr => (∃ j : Nat, j ≤ n ∧ i = .int .i64 j ∧ Hid (∀ x ∈ aa.take j, P x = false)) ∧ Own wr w.heap.size 29 #[.int .i64 0, .bool false, .int .u32 0, .int .u32 0, .slice none 0 0, .slice none 0 0, .slice none 0 0, .int .i64 0, .slice none 0 0] ∧ Below w.heap.size w wr) (fun i _ => n - (intOf i).toNat)
  case atStart => exact ⟨⟨0, Nat.zero_le _, rfl, Lib.hid (by simp)⟩, o0, hb0⟩
  case round =>
    obtain ⟨⟨j, hj, rfl, hall⟩, hor, hbw⟩ := hrel
    clear o0 hb0
    by_cases hlt : j < n
    · obtain ⟨b, o, rfl, hbB, hrg⟩ := (HV.out.below hbw).at_ hlt
      have hj' : Hid (j < aa.length) := Lib.hid (by have := HN.out; omega)
      have hst := Lib.hid (take_nthA (aa := aa) (i := j) hj'.out)
      have hp := Lib.hid (fun (W : World) (hW : Below w.heap.size w W) => hP.out _ (nthA_mem hj'.out) W hW)
      have hfa := Lib.hid (fun hq => find_at (P := P) hj'.out hall.out hq)
      have hne := Lib.hid (fun (hq : P (nthA aa j) = false) => show ∀ x ∈ aa.take (j + 1), P x = false from fun x hx => by
        rw [hst.out] at hx
        rcases List.mem_append.1 hx with hx | hx
        · exact hall.out x hx
        · rw [List.mem_singleton] at hx; rw [hx]; exact hq)
      generalize hq : P (nthA aa j) = q at *
      have HQ := Lib.hid hq
      clear hq hst hall
      generalize nthA aa j = a at *
      obtain ⟨k, p, N, M, A1, n1, c1, A2, n2, c2, A3, n3, c3, f, A4, n4, c4⟩ := a
      unfold atc at *
      dsimp only at *
      obtain ⟨e0, e1, e2, e3, e4, e5, e6, e7, e8⟩ := range9 hrg
      have hbs := hbw.size
      have hl := hor.lt
      have hb1 := bl_alloc hbw (.cells #[.int .i64 k, .bool p, .int .u32 N, .int .u32 M, .slice A1 n1 c1, .slice A2 n2 c2, .slice A3 n3 c3, .int .i64 f, .slice A4 n4 c4] 29)
      have o1 := hor.alloc (.cells #[.int .i64 k, .bool p, .int .u32 N, .int .u32 M, .slice A1 n1 c1, .slice A2 n2 c2, .slice A3 n3 c3, .int .i64 f, .slice A4 n4 c4] 29)
      have oX := Own.new wr 29 #[.int .i64 k, .bool p, .int .u32 N, .int .u32 M, .slice A1 n1 c1, .slice A2 n2 c2, .slice A3 n3 c3, .int .i64 f, .slice A4 n4 c4]
      clear hrg hor hbw
      go_wp2_with fail
      go_at_call 83
      refine (hp.out _ hb1).mono ?_
      rintro e w2 ⟨rfl, hb2⟩
      have o2 := o1.step hb2
      have hb3 := bl_trans hb1 hb2
      have pX := oX.step hb2
      clear e0 e1 e2 e3 e4 e5 e6 e7 e8 o1 oX hb1 hb2
      cases q
      · have hn2 := Lib.hid (hne.out rfl)
        go_wp2
        go_roundw
        case rel => exact ⟨⟨j + 1, by omega, by go_num, hn2⟩, o2, hb3⟩
        case measure => simp [intOf]; omega
      · have hf := Lib.hid (hfa.out rfl)
        obtain ⟨e0, e1, e2, e3, e4, e5, e6, e7, e8⟩ := at_cells pX
        go_wp2_with (refine wpList_store_row rfl 29 _ _ rfl w.heap.size #[.int .i64 k, .bool p, .int .u32 N, .int .u32 M, .slice A1 n1 c1, .slice A2 n2 c2, .slice A3 n3 c3, .int .i64 f, .slice A4 n4 c4] rfl rfl 29 #[.int .i64 0, .bool false, .int .u32 0, .int .u32 0, .slice none 0 0, .slice none 0 0, .slice none 0 0, .int .i64 0, .slice none 0 0] o2 (at_info9 _ _ _ _ _ _ _ _ _) rfl (atA_one _ _ _ _ _ _ _ _ _ _ _ _ _ _ _ _ _) ?_)
        exact bodyPost_ret (results_cell_tmp (p := 4) (t := 5) (fn := Tryd.f81) rfl _ _ w.heap.size 29 #[.int .i64 k, .bool p, .int .u32 N, .int .u32 M, .slice A1 n1 c1, .slice A2 n2 c2, .slice A3 n3 c3, .int .i64 f, .slice A4 n4 c4] _ rfl o2.setRow at_desc rfl (at_info9 _ _ _ _ _ _ _ _ _)) rfl ⟨⟨k, p, N, M, A1, n1, c1, A2, n2, c2, A3, n3, c3, f, A4, n4, c4⟩, true, rfl, .inl ⟨rfl, hf.out⟩, bl_setRow hb3 (Nat.le_refl _)⟩
    · obtain rfl : j = n := by omega
      have hf := Lib.hid (find_no (P := P) (aa := aa) (fun x hx => hall.out x (by rw [List.take_of_length_le (by rw [← HN.out]; exact Nat.le_refl _)]; exact hx)))
      have o1 := hor.alloc (.cells #[.int .i64 0, .bool false, .int .u32 0, .int .u32 0, .slice none 0 0, .slice none 0 0, .slice none 0 0, .int .i64 0, .slice none 0 0] 29)
      have hb1 := bl_alloc hbw (.cells #[.int .i64 0, .bool false, .int .u32 0, .int .u32 0, .slice none 0 0, .slice none 0 0, .slice none 0 0, .int .i64 0, .slice none 0 0] 29)
      go_wp2_with (refine wpList_store_row rfl 29 _ _ rfl w.heap.size #[.int .i64 0, .bool false, .int .u32 0, .int .u32 0, .slice none 0 0, .slice none 0 0, .slice none 0 0, .int .i64 0, .slice none 0 0] rfl rfl 29 #[.int .i64 0, .bool false, .int .u32 0, .int .u32 0, .slice none 0 0, .slice none 0 0, .slice none 0 0, .int .i64 0, .slice none 0 0] o1 (at_info9 _ _ _ _ _ _ _ _ _) rfl (ag_one _ _ _) ?_)
      exact bodyPost_ret (results_cell_tmp (p := 4) (t := 5) (fn := Tryd.f81) rfl _ _ w.heap.size 29 #[.int .i64 0, .bool false, .int .u32 0, .int .u32 0, .slice none 0 0, .slice none 0 0, .slice none 0 0, .int .i64 0, .slice none 0 0] _ rfl o1.setRow at_desc rfl (at_info9 _ _ _ _ _ _ _ _ _)) rfl ⟨atz, false, rfl, .inr ⟨rfl, hf.out, rfl⟩, bl_setRow hb1 (Nat.le_refl _)⟩
set_option maxRecDepth 100000 in
set_option maxHeartbeats 3200000 in
theorem first_3 (A : Option Addr) (n c : Nat) (aa : List At) (w : World) (h : Ats w w.heap.size A n aa) (hm : n ≤ maxLen) (P : At → Bool)
    (hP : Hid (∀ a ∈ aa, ∀ W, Below w.heap.size w W → Calls Tryd.prog 84 #[.agg (atc a)] W fun e w' => e = .returned (.bool (P a)) ∧ Below W.heap.size W w')) :
    Calls Tryd.prog 81 #[.slice A n c, .func (.func 84) #[] #[]] w fun e w' => ∃ x q, e = .returned (.tuple #[.agg (atc x), .bool q]) ∧ FstR P aa x q ∧ Below w.heap.size w w' := by
  unfold maxLen at hm
  have HN := Lib.hid h.1
  have HV := Lib.hid h
  clear h
  have o0 := Own.new w 29 #[.int .i64 0, .bool false, .int .u32 0, .int .u32 0, .slice none 0 0, .slice none 0 0, .slice none 0 0, .int .i64 0, .slice none 0 0]
  have hb0 := bl_alloc (bl_refl w) (.cells #[.int .i64 0, .bool false, .int .u32 0, .int .u32 0, .slice none 0 0, .slice none 0 0, .slice none 0 0, .int .i64 0, .slice none 0 0] 29)
  go_enter Tryd.func81, Tryd.ntmps81
  go_wp2_with fail
  go_loopw [11] (fun i wr => (∃ j : Nat, j ≤ n ∧ i = .int .i64 j ∧ Hid (∀ x ∈ aa.take j, P x = false)) ∧ Own wr w.heap.size 29 #[.int .i64 0, .bool false, .int .u32 0, .int .u32 0, .slice none 0 0, .slice none 0 0, .slice none 0 0, .int .i64 0, .slice none 0 0] ∧ Below w.heap.size w wr) (fun i _ => n - (intOf i).toNat)
  case atStart => exact ⟨⟨0, Nat.zero_le _, rfl, Lib.hid (by simp)⟩, o0, hb0⟩
  case round =>
    obtain ⟨⟨j, hj, rfl, hall⟩, hor, hbw⟩ := hrel
    clear o0 hb0
    by_cases hlt : j < n
    · obtain ⟨b, o, rfl, hbB, hrg⟩ := (HV.out.below hbw).at_ hlt
      have hj' : Hid (j < aa.length) := Lib.hid (by have := HN.out; omega)
      have hst := Lib.hid (take_nthA (aa := aa) (i := j) hj'.out)
      have hp := Lib.hid (fun (W : World) (hW : Below w.heap.size w W) => hP.out _ (nthA_mem hj'.out) W hW)
      have hfa := Lib.hid (fun hq => find_at (P := P) hj'.out hall.out hq)
      have hne := Lib.hid (fun (hq : P (nthA aa j) = false) => show ∀ x ∈ aa.take (j + 1), P x = false from fun x hx => by
        rw [hst.out] at hx
        rcases List.mem_append.1 hx with hx | hx
        · exact hall.out x hx
        · rw [List.mem_singleton] at hx; rw [hx]; exact hq)
      generalize hq : P (nthA aa j) = q at *
      have HQ := Lib.hid hq
      clear hq hst hall
      generalize nthA aa j = a at *
      obtain ⟨k, p, N, M, A1, n1, c1, A2, n2, c2, A3, n3, c3, f, A4, n4, c4⟩ := a
      unfold atc at *
      dsimp only at *
      obtain ⟨e0, e1, e2, e3, e4, e5, e6, e7, e8⟩ := range9 hrg
      have hbs := hbw.size
      have hl := hor.lt
      have hb1 := bl_alloc hbw (.cells #[.int .i64 k, .bool p, .int .u32 N, .int .u32 M, .slice A1 n1 c1, .slice A2 n2 c2, .slice A3 n3 c3, .int .i64 f, .slice A4 n4 c4] 29)
      have o1 := hor.alloc (.cells #[.int .i64 k, .bool p, .int .u32 N, .int .u32 M, .slice A1 n1 c1, .slice A2 n2 c2, .slice A3 n3 c3, .int .i64 f, .slice A4 n4 c4] 29)
      have oX := Own.new wr 29 #[.int .i64 k, .bool p, .int .u32 N, .int .u32 M, .slice A1 n1 c1, .slice A2 n2 c2, .slice A3 n3 c3, .int .i64 f, .slice A4 n4 c4]
      clear hrg hor hbw
      go_wp2_with fail
      go_at_call 84
      refine (hp.out _ hb1).mono ?_
      rintro e w2 ⟨rfl, hb2⟩
      have o2 := o1.step hb2
      have hb3 := bl_trans hb1 hb2
      have pX := oX.step hb2
      clear e0 e1 e2 e3 e4 e5 e6 e7 e8 o1 oX hb1 hb2
      cases q
      · have hn2 := Lib.hid (hne.out rfl)
        go_wp2
        go_roundw
        case rel => exact ⟨⟨j + 1, by omega, by go_num, hn2⟩, o2, hb3⟩
        case measure => simp [intOf]; omega
      · have hf := Lib.hid (hfa.out rfl)
        obtain ⟨e0, e1, e2, e3, e4, e5, e6, e7, e8⟩ := at_cells pX
        go_wp2_with (refine wpList_store_row rfl 29 _ _ rfl w.heap.size #[.int .i64 k, .bool p, .int .u32 N, .int .u32 M, .slice A1 n1 c1, .slice A2 n2 c2, .slice A3 n3 c3, .int .i64 f, .slice A4 n4 c4] rfl rfl 29 #[.int .i64 0, .bool false, .int .u32 0, .int .u32 0, .slice none 0 0, .slice none 0 0, .slice none 0 0, .int .i64 0, .slice none 0 0] o2 (at_info9 _ _ _ _ _ _ _ _ _) rfl (atA_one _ _ _ _ _ _ _ _ _ _ _ _ _ _ _ _ _) ?_)
        exact bodyPost_ret (results_cell_tmp (p := 4) (t := 5) (fn := Tryd.f81) rfl _ _ w.heap.size 29 #[.int .i64 k, .bool p, .int .u32 N, .int .u32 M, .slice A1 n1 c1, .slice A2 n2 c2, .slice A3 n3 c3, .int .i64 f, .slice A4 n4 c4] _ rfl o2.setRow at_desc rfl (at_info9 _ _ _ _ _ _ _ _ _)) rfl ⟨⟨k, p, N, M, A1, n1, c1, A2, n2, c2, A3, n3, c3, f, A4, n4, c4⟩, true, rfl, .inl ⟨rfl, hf.out⟩, bl_setRow hb3 (Nat.le_refl _)⟩
    · obtain rfl : j = n := by omega
      have hf := Lib.hid (find_no (P := P) (aa := aa) (fun x hx => hall.out x (by rw [List.take_of_length_le (by rw [← HN.out]; exact Nat.le_refl _)]; exact hx)))
      have o1 := hor.alloc (.cells #[.int .i64 0, .bool false, .int .u32 0, .int .u32 0, .slice none 0 0, .slice none 0 0, .slice none 0 0, .int .i64 0, .slice none 0 0] 29)
      have hb1 := bl_alloc hbw (.cells #[.int .i64 0, .bool false, .int .u32 0, .int .u32 0, .slice none 0 0, .slice none 0 0, .slice none 0 0, .int .i64 0, .slice none 0 0] 29)
      go_wp2_with (refine wpList_store_row rfl 29 _ _ rfl w.heap.size #[.int .i64 0, .bool false, .int .u32 0, .int .u32 0, .slice none 0 0, .slice none 0 0, .slice none 0 0, .int .i64 0, .slice none 0 0] rfl rfl 29 #[.int .i64 0, .bool false, .int .u32 0, .int .u32 0, .slice none 0 0, .slice none 0 0, .slice none 0 0, .int .i64 0, .slice none 0 0] o1 (at_info9 _ _ _ _ _ _ _ _ _) rfl (ag_one _ _ _) ?_)
      exact bodyPost_ret (results_cell_tmp (p := 4) (t := 5) (fn := Tryd.f81) rfl _ _ w.heap.size 29 #[.int .i64 0, .bool false, .int .u32 0, .int .u32 0, .slice none 0 0, .slice none 0 0, .slice none 0 0, .int .i64 0, .slice none 0 0] _ rfl o1.setRow at_desc rfl (at_info9 _ _ _ _ _ _ _ _ _)) rfl ⟨atz, false, rfl, .inr ⟨rfl, hf.out, rfl⟩, bl_setRow hb1 (Nat.le_refl _)⟩
set_option maxRecDepth 100000 in
set_option maxHeartbeats 3200000 in
theorem rfirst_any (A : Option Addr) (n c : Nat) (aa : List At) (w : World) (h : Ats w w.heap.size A n aa) (hm : n ≤ maxLen) (kd : Int) :
    Calls Tryd.prog 85 #[.slice A n c, .int .i64 kd] w fun e w' => ∃ x q, e = .returned (.tuple #[.agg (atc x), .bool q]) ∧ FstR (fun a => a.k == kd) aa x q ∧ Below w.heap.size w w' := by
  unfold maxLen at hm
  have HN := Lib.hid h.1
  have HV := Lib.hid h
  clear h
  have o0 := Own.new w 29 #[.int .i64 0, .bool false, .int .u32 0, .int .u32 0, .slice none 0 0, .slice none 0 0, .slice none 0 0, .int .i64 0, .slice none 0 0]
  have hb0 := bl_alloc (bl_refl w) (.cells #[.int .i64 0, .bool false, .int .u32 0, .int .u32 0, .slice none 0 0, .slice none 0 0, .slice none 0 0, .int .i64 0, .slice none 0 0] 29)
  go_enter Tryd.func85, Tryd.ntmps85
  go_wp2_with fail
  go_loopw [6] (fun i wr => (∃ j : Nat, j ≤ n ∧ i = .int .i64 j ∧ Hid (∀ x ∈ aa.take j, (x.k == kd) = false)) ∧ Own wr w.heap.size 29 #[.int .i64 0, .bool false, .int .u32 0, .int .u32 0, .slice none 0 0, .slice none 0 0, .slice none 0 0, .int .i64 0, .slice none 0 0] ∧ Below w.heap.size w wr) (fun i _ => n - (intOf i).toNat)
  case atStart => exact ⟨⟨0, Nat.zero_le _, rfl, Lib.hid (by simp)⟩, o0, hb0⟩
  case round =>
    obtain ⟨⟨j, hj, rfl, hall⟩, hor, hbw⟩ := hrel
    clear o0 hb0
    by_cases hlt : j < n
    · obtain ⟨b, o, rfl, hbB, hrg⟩ := (HV.out.below hbw).at_ hlt
      have hj' : Hid (j < aa.length) := Lib.hid (by have := HN.out; omega)
      have hst := Lib.hid (take_nthA (aa := aa) (i := j) hj'.out)
      have hfa := Lib.hid (fun hq => find_at (P := fun a => a.k == kd) hj'.out hall.out hq)
      have hne := Lib.hid (fun (hq : ((nthA aa j).k == kd) = false) => show ∀ x ∈ aa.take (j + 1), (x.k == kd) = false from fun x hx => by
        rw [hst.out] at hx
        rcases List.mem_append.1 hx with hx | hx
        · exact hall.out x hx
        · rw [List.mem_singleton] at hx; rw [hx]; exact hq)
      clear hst hall
      generalize nthA aa j = a at *
      obtain ⟨k, p, N, M, A1, n1, c1, A2, n2, c2, A3, n3, c3, f, A4, n4, c4⟩ := a
      unfold atc at *
      dsimp only at *
      obtain ⟨e0, e1, e2, e3, e4, e5, e6, e7, e8⟩ := range9 hrg
      have hbs := hbw.size
      have hl := hor.lt
      clear hrg
      cases hq : (k == kd)
      · have hn2 := Lib.hid (hne.out hq)
        go_wp2
        go_roundw
        case rel => exact ⟨⟨j + 1, by omega, by go_num, hn2⟩, hor, hbw⟩
        case measure => simp [intOf]; omega
      · have hf := Lib.hid (hfa.out hq)
        go_wp2_with (refine wpList_store_row rfl 29 _ _ rfl w.heap.size #[.int .i64 k, .bool p, .int .u32 N, .int .u32 M, .slice A1 n1 c1, .slice A2 n2 c2, .slice A3 n3 c3, .int .i64 f, .slice A4 n4 c4] rfl rfl 29 #[.int .i64 0, .bool false, .int .u32 0, .int .u32 0, .slice none 0 0, .slice none 0 0, .slice none 0 0, .int .i64 0, .slice none 0 0] hor (at_info9 _ _ _ _ _ _ _ _ _) rfl (atA_one _ _ _ _ _ _ _ _ _ _ _ _ _ _ _ _ _) ?_)
        exact bodyPost_ret (results_cell_tmp (p := 4) (t := 5) (fn := Tryd.f85) rfl _ _ w.heap.size 29 #[.int .i64 k, .bool p, .int .u32 N, .int .u32 M, .slice A1 n1 c1, .slice A2 n2 c2, .slice A3 n3 c3, .int .i64 f, .slice A4 n4 c4] _ rfl hor.setRow at_desc rfl (at_info9 _ _ _ _ _ _ _ _ _)) rfl ⟨⟨k, p, N, M, A1, n1, c1, A2, n2, c2, A3, n3, c3, f, A4, n4, c4⟩, true, rfl, .inl ⟨rfl, hf.out⟩, bl_setRow hbw (Nat.le_refl _)⟩
    · obtain rfl : j = n := by omega
      have hf := Lib.hid (find_no (P := fun a => a.k == kd) (aa := aa) (fun x hx => hall.out x (by rw [List.take_of_length_le (by rw [← HN.out]; exact Nat.le_refl _)]; exact hx)))
      go_wp2_with (refine wpList_store_row rfl 29 _ _ rfl w.heap.size #[.int .i64 0, .bool false, .int .u32 0, .int .u32 0, .slice none 0 0, .slice none 0 0, .slice none 0 0, .int .i64 0, .slice none 0 0] rfl rfl 29 #[.int .i64 0, .bool false, .int .u32 0, .int .u32 0, .slice none 0 0, .slice none 0 0, .slice none 0 0, .int .i64 0, .slice none 0 0] hor (at_info9 _ _ _ _ _ _ _ _ _) rfl (ag_one _ _ _) ?_)
      exact bodyPost_ret (results_cell_tmp (p := 4) (t := 5) (fn := Tryd.f85) rfl _ _ w.heap.size 29 #[.int .i64 0, .bool false, .int .u32 0, .int .u32 0, .slice none 0 0, .slice none 0 0, .slice none 0 0, .int .i64 0, .slice none 0 0] _ rfl hor.setRow at_desc rfl (at_info9 _ _ _ _ _ _ _ _ _)) rfl ⟨atz, false, rfl, .inr ⟨rfl, hf.out, rfl⟩, bl_setRow hbw (Nat.le_refl _)⟩
set_option maxRecDepth 100000 in
theorem mg1_any (a : At) (w : World) (hN : 0 ≤ a.N) (hN2 : a.N < 4294967296) : Calls Tryd.prog 82 #[.agg (atc a)] w fun e w' => e = .returned (.bool (!agVal 4 a)) ∧ Below w.heap.size w w' := by
  have hV := Lib.hid (fun W => agvalid_any 4 a W hN hN2)
  generalize agVal 4 a = V at *
  clear hN hN2
  obtain ⟨k, p, N, M, A1, n1, c1, A2, n2, c2, A3, n3, c3, f, A4, n4, c4⟩ := a
  unfold atc at *
  dsimp only at *
  have hb0 := bl_alloc (bl_refl w) (.cells #[.int .i64 k, .bool p, .int .u32 N, .int .u32 M, .slice A1 n1 c1, .slice A2 n2 c2, .slice A3 n3 c3, .int .i64 f, .slice A4 n4 c4] 29)
  go_enter Tryd.func82, Tryd.ntmps82
  go_wp2_with fail
  refine (hV.out _).mono ?_
  rintro e w1 ⟨rfl, hb1⟩
  go_wp2
  go_ret
  exact ⟨rfl, bl_trans hb0 hb1⟩
set_option maxRecDepth 100000 in
theorem mg2_any (a : At) (w : World) : Calls Tryd.prog 83 #[.agg (atc a)] w fun e w' => e = .returned (.bool (a.k == 7)) ∧ Below w.heap.size w w' := by
  obtain ⟨k, p, N, M, A1, n1, c1, A2, n2, c2, A3, n3, c3, f, A4, n4, c4⟩ := a
  unfold atc at *
  dsimp only at *
  have hb0 := bl_alloc (bl_refl w) (.cells #[.int .i64 k, .bool p, .int .u32 N, .int .u32 M, .slice A1 n1 c1, .slice A2 n2 c2, .slice A3 n3 c3, .int .i64 f, .slice A4 n4 c4] 29)
  go_enter Tryd.func83, Tryd.ntmps83
  go_wp2
  go_ret
  exact ⟨rfl, hb0⟩
set_option maxRecDepth 100000 in
theorem mg3_any (a : At) (w : World) : Calls Tryd.prog 84 #[.agg (atc a)] w fun e w' => e = .returned (.bool (a.k == 18)) ∧ Below w.heap.size w w' := by
  obtain ⟨k, p, N, M, A1, n1, c1, A2, n2, c2, A3, n3, c3, f, A4, n4, c4⟩ := a
  unfold atc at *
  dsimp only at *
  have hb0 := bl_alloc (bl_refl w) (.cells #[.int .i64 k, .bool p, .int .u32 N, .int .u32 M, .slice A1 n1 c1, .slice A2 n2 c2, .slice A3 n3 c3, .int .i64 f, .slice A4 n4 c4] 29)
  go_enter Tryd.func84, Tryd.ntmps84
  go_wp2
  go_ret
  exact ⟨rfl, hb0⟩
end Go.Proofs.YtkcejeogacobiaaDoor
