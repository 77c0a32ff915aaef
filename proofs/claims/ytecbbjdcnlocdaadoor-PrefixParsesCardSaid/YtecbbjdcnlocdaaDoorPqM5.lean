/- XPqM5: XRpA, XRpB, XRpC, XRpD, XRpE, XRpF in one text -/
import Derived.Test.YtecbbjdcnlocdaaDoorPqM1
import Derived.Test.YtecbbjdcnlocdaaDoorApAt
import Derived.Test.YtecbbjdcnlocdaaDoorQmake
import Derived.Test.YtecbbjdcnlocdaaDoorPqM2
import Derived.Test.YtecbbjdcnlocdaaDoorPqM3
/- peerageref02: value, number, split, addr -/
namespace Go.Proofs.YtecbbjdcnlocdaaDoor
open Go.RowKit Go.Sort
set_option maxRecDepth 100000 in
/-- A byte of a string. -/
theorem str_atR (t : ByteArray) (j : Nat) (h : j < t.size) : ∃ c : UInt8, t.data.toList.drop j = c :: t.data.toList.drop (j + 1) ∧ ∀ W, (Instr.index 9 (.string t) (.int .i64 (j : Int))).run Tryd.prog W = .ok (.int .u8 (c.toNat : Int)) W := by
  have hl : j < t.data.toList.length := by rw [Array.length_toList]; exact h
  refine ⟨t.data.toList[j], (List.getElem_cons_drop hl).symm, fun W => ?_⟩
  rw [run_index_string (P := Tryd.prog) W 9 t .i64 (j : Int) (by kernel_rfl), dif_pos ⟨by omega, by omega⟩]
  rfl
def valP (c : UInt8) : Int := if 48 ≤ (c.toNat : Int) ∧ (c.toNat : Int) ≤ 57 then (c.toNat : Int) - 48 else if 97 ≤ (c.toNat : Int) ∧ (c.toNat : Int) ≤ 102 then (c.toNat : Int) - 87 else 99
theorem valP_range (c : UInt8) : 0 ≤ valP c ∧ valP c ≤ 99 := by unfold valP; split <;> (try split) <;> omega
set_option maxRecDepth 100000 in
theorem rvalue_any (c : UInt8) (w : World) : Calls Tryd.prog 95 #[.int .u8 (c.toNat : Int)] w fun e w' => e = .returned (.int .i64 (valP c)) ∧ w = w' := by
  have hc : c.toNat < 256 := c.toNat_lt
  have hO : Hid (valP c = if 48 ≤ (c.toNat : Int) ∧ (c.toNat : Int) ≤ 57 then (c.toNat : Int) - 48 else if 97 ≤ (c.toNat : Int) ∧ (c.toNat : Int) ≤ 102 then (c.toNat : Int) - 87 else 99) := Lib.hid rfl
  generalize valP c = v at *
  generalize hm : (c.toNat : Int) = m at *
  have hm0 : 0 ≤ m ∧ m ≤ 255 := by omega
  clear hm hc
  by_cases h1 : 48 ≤ m ∧ m ≤ 57
  · obtain ⟨a, b⟩ := h1
    have hv := Lib.hid (show v = m - 48 by rw [hO.out, if_pos ⟨a, b⟩])
    have e1 : ((48 : Int) ≤ m) = True := eq_true a
    have e2 : (m ≤ 57) = True := eq_true b
    have w1 : IntKind.u8.wrap (m - 48) = m - 48 := by rw [IntKind.wrap_u8]; omega
    have w2 : IntKind.i64.wrap (m - 48) = m - 48 := by rw [IntKind.wrap_i64]; omega
    clear hm0 hO
    go_enter Tryd.func95, Tryd.ntmps95
    go_wp2
    go_ret
    exact ⟨by rw [hv.out]; rfl, rfl⟩
  · by_cases h2 : 97 ≤ m ∧ m ≤ 102
    · obtain ⟨a, b⟩ := h2
      have hv := Lib.hid (show v = m - 97 + 10 by rw [hO.out, if_neg h1, if_pos ⟨a, b⟩]; omega)
      have e1 : ((97 : Int) ≤ m) = True := eq_true a
      have e2 : (m ≤ 102) = True := eq_true b
      have e3 : ((48 : Int) ≤ m) = True := eq_true (by omega)
      have e4 : (m ≤ 57) = False := eq_false (by omega)
      have w1 : IntKind.u8.wrap (m - 97) = m - 97 := by rw [IntKind.wrap_u8]; omega
      have w2 : IntKind.i64.wrap (m - 97) = m - 97 := by rw [IntKind.wrap_i64]; omega
      have w3 : IntKind.i64.wrap (m - 97 + 10) = m - 97 + 10 := by rw [IntKind.wrap_i64]; omega
      clear hm0 hO h1
      go_enter Tryd.func95, Tryd.ntmps95
      go_wp2
      go_ret
      exact ⟨by rw [hv.out]; rfl, rfl⟩
    · have hv := Lib.hid (show v = 99 by rw [hO.out, if_neg h1, if_neg h2])
      have d1 : (if (48 : Int) ≤ m then decide (m ≤ 57) else false) = false := by
        split
        · exact decide_eq_false (fun h => h1 ⟨by assumption, h⟩)
        · rfl
      clear hm0 hO
      by_cases a : 48 ≤ m
      · have e3 : ((48 : Int) ≤ m) = True := eq_true a
        have e4 : (m ≤ 57) = False := eq_false (fun h => h1 ⟨a, h⟩)
        clear h1
        by_cases b : 97 ≤ m
        · have e1 : ((97 : Int) ≤ m) = True := eq_true b
          have e2 : (m ≤ 102) = False := eq_false (fun h => h2 ⟨b, h⟩)
          clear h2
          go_enter Tryd.func95, Tryd.ntmps95
          go_wp2
          go_ret
          exact ⟨by rw [hv.out]; rfl, rfl⟩
        · have e1 : ((97 : Int) ≤ m) = False := eq_false b
          clear h2
          go_enter Tryd.func95, Tryd.ntmps95
          go_wp2
          go_ret
          exact ⟨by rw [hv.out]; rfl, rfl⟩
      · have e3 : ((48 : Int) ≤ m) = False := eq_false a
        have e1 : ((97 : Int) ≤ m) = False := eq_false (by omega)
        clear h1 h2
        go_enter Tryd.func95, Tryd.ntmps95
        go_wp2
        go_ret
        exact ⟨by rw [hv.out]; rfl, rfl⟩
/-- The reference's reading of a number. -/
def rnumG (B T : Int) : Int → Bool → List UInt8 → Int
  | n, _, [] => n
  | n, fl, c :: r => if B ≤ valP c then -1 else if T < n * B + valP c ∨ (fl = true ∧ n * B + valP c < B) then -1 else rnumG B T (n * B + valP c) true r
def rnum (B T : Int) (s : List UInt8) : Int := if s = [] then -1 else rnumG B T 0 false s
theorem rnumG_le {B T : Int} (hT : 0 ≤ T) : ∀ (s : List UInt8) (n : Int) (fl : Bool), n ≤ T → rnumG B T n fl s ≤ T
  | [], n, fl, h => h
  | c :: r, n, fl, h => by
    rw [rnumG]
    split
    · omega
    · split
      · omega
      · exact rnumG_le hT r _ _ (by omega)
set_option maxRecDepth 100000 in
set_option maxHeartbeats 3200000 in
theorem rnumber_any (t : ByteArray) (B T : Int) (hB : 1 ≤ B ∧ B ≤ 16) (hT : 0 ≤ T ∧ T ≤ 65535) (ht : t.size ≤ 1000000) (w : World) :
    Calls Tryd.prog 71 #[.string t, .int .i64 B, .int .i64 T] w fun e w' => e = .returned (.int .i64 (rnum B T t.data.toList)) ∧ w = w' := by
  have HT := Lib.hid ht
  have HBT := Lib.hid (And.intro hB hT)
  by_cases hte : t = ⟨#[]⟩
  · subst hte
    have hne : (⟨#[]⟩ : ByteArray).toList = [] := by rw [ByteArray.toList_eq]
    have hne2 : (⟨#[]⟩ : ByteArray).toList.isEmpty = true := by rw [hne]; rfl
    have hz : (⟨#[]⟩ : ByteArray).size = 0 := rfl
    clear hB hT ht
    go_enter Tryd.func71, Tryd.ntmps71
    go_wp2
    go_loop [7, 8] (fun n i => n = .int .i64 0 ∧ i = .int .i64 0) (fun _ _ => 0)
    case atStart => exact ⟨rfl, rfl⟩
    case round =>
      obtain ⟨rfl, rfl⟩ := hrel
      go_wp2
      go_ret
      exact ⟨rfl, rfl⟩
  · have hne2 : t.toList.isEmpty = false := by
      cases e : t.toList with
      | nil =>
        exfalso
        apply hte
        rw [ByteArray.toList_eq] at e
        obtain ⟨d⟩ := t
        have : d = #[] := by simpa using e
        rw [this]
      | cons a l => rfl
    have hne : ¬ t.toList = [] := fun e => by rw [e] at hne2; cases hne2
    have hU : Hid (rnum B T t.data.toList = rnumG B T 0 false t.data.toList) := Lib.hid (by unfold rnum; rw [if_neg (by rw [ByteArray.toList_eq] at hne; exact hne)])
    clear hte hB hT ht
    go_enter Tryd.func71, Tryd.ntmps71
    go_wp2
    go_loop [7, 8] (fun nv iv => ∃ (j : Nat) (n : Int), iv = .int .i64 (j : Int) ∧ nv = .int .i64 n ∧ j ≤ t.size ∧ 0 ≤ n ∧ n ≤ 65535 ∧ Hid (rnum B T t.data.toList = rnumG B T n (decide (0 < j)) (t.data.toList.drop j))) (fun _ iv => t.size - (intOf iv).toNat)
    case atStart => exact ⟨0, 0, rfl, rfl, Nat.zero_le _, by omega, by omega, hU⟩
    case round =>
      obtain ⟨j, n, rfl, rfl, hj, hn0, hn1, hcome⟩ := hrel
      have hTs := HT.out
      by_cases hlt : j < t.size
      · obtain ⟨cb, hdr, hix⟩ := str_atR t j hlt
        have hst := Lib.hid (show rnum B T t.data.toList = rnumG B T n (decide (0 < j)) (cb :: t.data.toList.drop (j + 1)) by rw [hcome.out, hdr])
        have hvr := valP_range cb
        have hVal := Lib.hid (fun W => rvalue_any cb W)
        have hcond : Hid (rnumG B T n (decide (0 < j)) (cb :: t.data.toList.drop (j + 1)) = if B ≤ valP cb then -1 else if T < n * B + valP cb ∨ (decide (0 < j) = true ∧ n * B + valP cb < B) then -1 else rnumG B T (n * B + valP cb) true (t.data.toList.drop (j + 1))) := Lib.hid rfl
        have hmul : n * B ≤ 65535 * 16 := by
          have := HBT.out.1
          calc n * B ≤ 65535 * B := Int.mul_le_mul_of_nonneg_right hn1 (by omega)
            _ ≤ 65535 * 16 := Int.mul_le_mul_of_nonneg_left this.2 (by omega)
        have hmul0 : 0 ≤ n * B := Int.mul_nonneg hn0 (by have := HBT.out.1; omega)
        generalize valP cb = v at *
        have hw1 : IntKind.i64.wrap (n * B) = n * B := by rw [IntKind.wrap_i64]; omega
        obtain ⟨P, hP⟩ : ∃ P : Int, P = n * B := ⟨_, rfl⟩
        have hwP : IntKind.i64.wrap (n * B) = P := by rw [hw1, hP]
        obtain ⟨M, hM⟩ : ∃ M : Int, M = P + v := ⟨_, rfl⟩
        have hwM : IntKind.i64.wrap (P + v) = M := by rw [hM, IntKind.wrap_i64]; omega
        have hMe : n * B + v = M := by rw [hM, hP]
        rw [hMe] at hcond
        have hM0 := Lib.hid (show 0 ≤ M by omega)
        clear hdr hcome hw1 hM hP hMe hmul hmul0 hvr
        by_cases hbv : B ≤ v
        · have hR := Lib.hid (show rnum B T t.data.toList = -1 by rw [hst.out, hcond.out, if_pos hbv])
          have e1 : (B ≤ v) = True := eq_true hbv
          clear hcond hst hbv
          go_wp2_with fail
          refine (hVal.out _).mono ?_
          rintro e w2 ⟨rfl, rfl⟩
          go_wp2
          go_ret
          exact ⟨by rw [hR.out]; rfl, rfl⟩
        · have e1 : (B ≤ v) = False := eq_false hbv
          by_cases hbad : T < M ∨ (decide (0 < j) = true ∧ M < B)
          · have hR := Lib.hid (show rnum B T t.data.toList = -1 by rw [hst.out, hcond.out, if_neg hbv, if_pos hbad])
            clear hcond hst hbv
            by_cases htm : T < M
            · have e2 : (T < M) = True := eq_true htm
              clear hbad htm
              go_wp2_with fail
              refine (hVal.out _).mono ?_
              rintro e w2 ⟨rfl, rfl⟩
              go_wp2
              go_ret
              exact ⟨by rw [hR.out]; rfl, rfl⟩
            · obtain ⟨hj0, hmb⟩ := hbad.resolve_left htm
              have hj1 := of_decide_eq_true hj0
              have e2 : (T < M) = False := eq_false htm
              have e3 : ((0 : Int) < (j : Int)) = True := eq_true (by omega)
              have e3b : (0 < j) = True := eq_true hj1
              have e4 : (M < B) = True := eq_true hmb
              clear hbad htm hj0 hmb hj1
              go_wp2_with fail
              refine (hVal.out _).mono ?_
              rintro e w2 ⟨rfl, rfl⟩
              go_wp2
              go_ret
              exact ⟨by rw [hR.out]; rfl, rfl⟩
          · have htm : ¬ T < M := fun h => hbad (.inl h)
            have hR := Lib.hid (show rnum B T t.data.toList = rnumG B T M (decide (0 < j + 1)) (t.data.toList.drop (j + 1)) by rw [hst.out, hcond.out, if_neg hbv, if_neg hbad, decide_eq_true (Nat.succ_pos j)])
            have hM1 := Lib.hid (show M ≤ 65535 by have := HBT.out.2; omega)
            have e2 : (T < M) = False := eq_false htm
            clear hcond hst hbv htm
            by_cases hj1 : 0 < j
            · have hmb : ¬ M < B := fun h => hbad (.inr ⟨decide_eq_true hj1, h⟩)
              have e3 : ((0 : Int) < (j : Int)) = True := eq_true (by omega)
              have e3b : (0 < j) = True := eq_true hj1
              have e4 : (M < B) = False := eq_false hmb
              clear hbad hmb hj1
              go_wp2_with fail
              refine (hVal.out _).mono ?_
              rintro e w2 ⟨rfl, rfl⟩
              go_wp2
              go_round
              case rel => exact ⟨j + 1, M, by go_num, rfl, by omega, hM0.out, hM1.out, hR⟩
              case measure => simp [intOf]; omega
            · have e3 : ((0 : Int) < (j : Int)) = False := eq_false (by omega)
              have e3b : (0 < j) = False := eq_false hj1
              clear hbad hj1
              go_wp2_with fail
              refine (hVal.out _).mono ?_
              rintro e w2 ⟨rfl, rfl⟩
              go_wp2
              go_round
              case rel => exact ⟨j + 1, M, by go_num, rfl, by omega, hM0.out, hM1.out, hR⟩
              case measure => simp [intOf]; omega
      · obtain rfl : j = t.size := by omega
        have hR := Lib.hid (show rnum B T t.data.toList = n by
          rw [hcome.out, List.drop_eq_nil_of_le (by rw [Array.length_toList]; exact Nat.le_refl _)]; rfl)
        go_wp2
        go_ret
        exact ⟨by rw [hR.out]; rfl, rfl⟩
end Go.Proofs.YtecbbjdcnlocdaaDoor

/- peerageref02: split, addr -/
namespace Go.Proofs.YtecbbjdcnlocdaaDoor
open Go.RowKit Go.Sort
theorem extract_list (t : ByteArray) (a b : Nat) : (t.extract a b).data.toList = (t.data.toList.drop a).take (b - a) := by
  rw [ByteArray.data_extract, Array.toList_extract]
/-- How far split has come: L is cut, from fr on nothing is cut. -/
def SpI (T : List UInt8) (d : UInt8) (j fr : Nat) (L : List (List UInt8)) : Prop := (j ≤ T.length → fr ≤ j ∧ Lib.split T [d] = L ++ Lib.split (T.drop fr) [d] ∧ d ∉ (T.drop fr).take (j - fr)) ∧ (T.length < j → Lib.split T [d] = L)
theorem SpI.start (T : List UInt8) (d : UInt8) : SpI T d 0 0 [] := ⟨fun _ => ⟨Nat.le_refl _, by simp, by simp⟩, fun h => by omega⟩
theorem SpI.pass {T : List UInt8} {d c : UInt8} {j fr : Nat} {L : List (List UInt8)} {r : List UInt8} (h : SpI T d j fr L) (hj : j < T.length) (hc : T.drop j = c :: r) (hne : c ≠ d) : SpI T d (j + 1) fr L := by
  obtain ⟨h1, h2, h3⟩ := h.1 (by omega)
  refine ⟨fun _ => ⟨by omega, h2, fun hm => ?_⟩, fun hh => by omega⟩
  have e : (T.drop fr).take (j + 1 - fr) = (T.drop fr).take (j - fr) ++ [c] := by
    rw [show j + 1 - fr = (j - fr) + 1 by omega, List.take_add_one, List.getElem?_drop, show fr + (j - fr) = j by omega]
    have : T[j]? = some c := by
      have := congrArg (fun l => l[0]?) hc
      simpa using this
    rw [this]; rfl
  rw [e] at hm
  rcases List.mem_append.1 hm with hm | hm
  · exact h3 hm
  · rw [List.mem_singleton] at hm; exact hne hm.symm
theorem SpI.cut {T : List UInt8} {d : UInt8} {j fr : Nat} {L : List (List UInt8)} {r : List UInt8} (h : SpI T d j fr L) (hj : j < T.length) (hc : T.drop j = d :: r) : SpI T d (j + 1) (j + 1) (L ++ [(T.drop fr).take (j - fr)]) := by
  obtain ⟨h1, h2, h3⟩ := h.1 (by omega)
  have e : T.drop fr = (T.drop fr).take (j - fr) ++ d :: T.drop (j + 1) := by
    have e1 := (List.take_append_drop (j - fr) (T.drop fr)).symm
    rw [List.drop_drop, show fr + (j - fr) = j by omega] at e1
    have e2 : T.drop j = d :: T.drop (j + 1) := by
      have e3 : T.drop (j + 1) = r := by
        have := congrArg (List.drop 1) hc
        rw [List.drop_drop] at this
        exact this
      rw [e3]; exact hc
    rw [e2] at e1
    exact e1
  refine ⟨fun _ => ⟨Nat.le_refl _, ?_, by simp⟩, fun hh => by omega⟩
  rw [h2]
  conv => lhs; arg 2; rw [e]
  rw [split_hit d _ _ h3]
  simp
theorem SpI.last {T : List UInt8} {d : UInt8} {fr : Nat} {L : List (List UInt8)} (h : SpI T d T.length fr L) : SpI T d (T.length + 1) (T.length + 1) (L ++ [(T.drop fr).take (T.length - fr)]) := by
  obtain ⟨h1, h2, h3⟩ := h.1 (Nat.le_refl _)
  have e : (T.drop fr).take (T.length - fr) = T.drop fr := List.take_of_length_le (by rw [List.length_drop]; exact Nat.le_refl _)
  rw [e] at h3 ⊢
  refine ⟨fun hh => by omega, fun _ => ?_⟩
  rw [h2, split_free d _ h3]
theorem SpI.done {T : List UInt8} {d : UInt8} {j fr : Nat} {L : List (List UInt8)} (h : SpI T d j fr L) (hj : T.length < j) : Lib.split T [d] = L := h.2 hj
/-- What split leaves. -/
def RSpl (t : ByteArray) (d : UInt8) (w : World) (e : Ending) (w' : World) : Prop := ∃ (A : Option Addr) (c : Nat) (Ws : List ByteArray), e = .returned (.slice A Ws.length c) ∧ Shows w' w'.heap.size A (Ws.map Value.string) ∧ Below w.heap.size w w' ∧ Ws.map (·.data.toList) = Lib.split t.data.toList [d] ∧ Ws.length ≤ t.size + 1 ∧ ∀ x ∈ Ws, x.size ≤ t.size
set_option maxRecDepth 100000 in
set_option maxHeartbeats 3200000 in
theorem rsplit_any (t : ByteArray) (d : UInt8) (ht : t.size ≤ 1000000) (w : World) :
    Calls Tryd.prog 69 #[.string t, .int .u8 (d.toNat : Int)] w fun e w' => RSpl t d w e w' := by
  have HT := Lib.hid ht
  have hlen := Lib.hid (show t.data.toList.length = t.size by rw [Array.length_toList]; rfl)
  obtain ⟨dm, hdm⟩ : ∃ dm : Int, dm = (d.toNat : Int) := ⟨_, rfl⟩
  have HD := Lib.hid hdm
  rw [← hdm]
  clear ht hdm
  go_enter Tryd.func69, Tryd.ntmps69
  go_wp2
  go_loopw [5, 6, 7] (fun v f i wr => ∃ (j fr : Nat) (Ws : List ByteArray), i = .int .i64 (j : Int) ∧ f = .int .i64 (fr : Int) ∧ j ≤ t.size + 1 ∧ fr ≤ j ∧ wr.ownsRow w.heap.size 9 1 v Ws.length (Ws.map Value.string) ∧ Ws.length ≤ j ∧ Below w.heap.size w wr ∧ Hid (SpI t.data.toList d j fr (Ws.map (·.data.toList)) ∧ ∀ x ∈ Ws, x.size ≤ t.size)) (fun _ _ i _ => t.size + 1 - (intOf i).toNat)
  case atStart => exact ⟨0, 0, [], rfl, rfl, Nat.zero_le _, Nat.le_refl _, World.ownsRow_nil _ _ _ _, Nat.zero_le _, bl_refl w, Lib.hid ⟨SpI.start _ _, fun _ h => by cases h⟩⟩
  case round =>
    obtain ⟨j, fr, Ws, rfl, rfl, hj, hfr, hrow, hWl, hb, hcome⟩ := hrel
    obtain ⟨A0, c0, rfl⟩ := own_form hrow
    have hTs := HT.out
    by_cases hle : j ≤ t.size
    · have hex := Lib.hid (show (t.extract fr j).data.toList = (t.data.toList.drop fr).take (j - fr) from extract_list t fr j)
      have hexs := Lib.hid (show (t.extract fr j).size ≤ t.size by rw [ByteArray.size_extract]; omega)
      have hfj : (fr : Int) ≤ (j : Int) := by omega
      have hjt : (j : Int) ≤ (t.size : Int) := by omega
      have HR := Lib.hid hrow
      have HB := Lib.hid hb
      have hbs := hb.size
      obtain ⟨nW, hnW⟩ : ∃ nW, nW = Ws.length := ⟨_, rfl⟩
      have HNW := Lib.hid hnW
      have hown : wr.ownsRow w.heap.size 9 1 (.slice A0 nW c0) nW (Ws.map Value.string) := by rw [hnW]; exact hrow
      have HO := Lib.hid hown
      have hnl : nW ≤ 1000001 := by omega
      rw [← hnW]
      clear hrow hb hown hnW
      by_cases hlt : j < t.size
      · obtain ⟨cb, hdr, hix⟩ := str_atR t j hlt
        have hjn : ((j : Int) == (t.size : Int)) = false := by rw [beq_eq_false_iff_ne]; omega
        by_cases hcd : cb = d
        · have hS := Lib.hid (hcome.out.1.cut (by rw [hlen.out]; exact hlt) (by rw [hdr, hcd]))
          have hX := Lib.hid hcome.out.2
          have hceq : ((cb.toNat : Int) == dm) = true := by rw [HD.out, hcd]; simp
          clear hdr hcd hcome
          generalize (cb.toNat : Int) = cm at *
          go_wp2_with (at_builtin; refine wpList_append_grow _ rfl _ _ rfl sl_strs w.heap.size _ nW _ rfl (HO.out.alloc _) (wr.heap.size + 1) (some ⟨wr.heap.size, 0, none⟩) 1 1 [.string (t.extract fr j)] rfl rfl (Shows.of_owned (Own.new _ _ _) (by simp)) (one1 rfl) (by unfold maxLen; omega) (by omega) (by simp; omega) ?_; intro v3 w3 ho3 hg3)
          have hb3 := (HB.out.alloc HB.out.size _).grown hg3 (by simp; omega) (own_base HO.out)
          have hnn := HNW.out
          go_roundw
          case rel => exact ⟨j + 1, j + 1, Ws ++ [t.extract fr j], by go_num, by go_num, by omega, Nat.le_refl _, by rw [List.length_append, ← hnn, List.map_append]; exact ho3, by rw [List.length_append, List.length_singleton]; omega, hb3, Lib.hid ⟨by rw [List.map_append, List.map_singleton, hex.out]; exact hS.out, fun x hx => by
            rcases List.mem_append.1 hx with hx | hx
            · exact hX.out x hx
            · rw [List.mem_singleton] at hx; rw [hx]; exact hexs.out⟩⟩
          case measure => simp [intOf]; omega
        · have hS := Lib.hid (hcome.out.1.pass (by rw [hlen.out]; exact hlt) hdr hcd)
          have hX := Lib.hid hcome.out.2
          have hceq : ((cb.toNat : Int) == dm) = false := by
            rw [beq_eq_false_iff_ne, HD.out]
            intro e
            apply hcd
            apply UInt8.toNat_inj.1
            omega
          clear hdr hcd hcome
          generalize (cb.toNat : Int) = cm at *
          go_wp2
          have hnn := HNW.out
          go_roundw
          case rel => exact ⟨j + 1, fr, Ws, by go_num, rfl, by omega, by omega, by rw [← hnn]; exact HO.out, by omega, HB.out, Lib.hid ⟨hS.out, hX.out⟩⟩
          case measure => simp [intOf]; omega
      · have hje : j = t.size := by omega
        have hS := Lib.hid (show SpI t.data.toList d (j + 1) (j + 1) (Ws.map (·.data.toList) ++ [(t.data.toList.drop fr).take (j - fr)]) by
          have := hcome.out.1
          rw [hje, ← hlen.out] at this ⊢
          exact this.last)
        have hX := Lib.hid hcome.out.2
        have hjn : ((j : Int) == (t.size : Int)) = true := by rw [hje]; simp
        clear hcome hje hlt
        go_wp2_with (at_builtin; refine wpList_append_grow _ rfl _ _ rfl sl_strs w.heap.size _ nW _ rfl (HO.out.alloc _) (wr.heap.size + 1) (some ⟨wr.heap.size, 0, none⟩) 1 1 [.string (t.extract fr j)] rfl rfl (Shows.of_owned (Own.new _ _ _) (by simp)) (one1 rfl) (by unfold maxLen; omega) (by omega) (by simp; omega) ?_; intro v3 w3 ho3 hg3)
        have hb3 := (HB.out.alloc HB.out.size _).grown hg3 (by simp; omega) (own_base HO.out)
        have hnn := HNW.out
        go_roundw
        case rel => exact ⟨j + 1, j + 1, Ws ++ [t.extract fr j], by go_num, by go_num, by omega, Nat.le_refl _, by rw [List.length_append, ← hnn, List.map_append]; exact ho3, by rw [List.length_append, List.length_singleton]; omega, hb3, Lib.hid ⟨by rw [List.map_append, List.map_singleton, hex.out]; exact hS.out, fun x hx => by
          rcases List.mem_append.1 hx with hx | hx
          · exact hX.out x hx
          · rw [List.mem_singleton] at hx; rw [hx]; exact hexs.out⟩⟩
        case measure => simp [intOf]; omega
    · have hR := Lib.hid (hcome.out.1.done (by rw [hlen.out]; omega))
      have hX := Lib.hid hcome.out.2
      obtain ⟨A4, c4, he, _, hs⟩ := own_val hrow
      have HSh := Lib.hid (show Shows wr wr.heap.size A0 (Ws.map Value.string) by
        injection he with e1 e2 e3
        rw [e1]; exact hs)
      have hjl : ¬ (j : Int) ≤ (t.size : Int) := by omega
      clear hcome hrow he hs
      go_wp2
      go_ret
      exact ⟨A0, c0, Ws, rfl, HSh.out, hb, hR.out.symm, by omega, hX.out⟩
/-- The bytes of some words, as the reference reads them. -/
def raddr (B T : Int) : List (List UInt8) → Option (List Int)
  | [] => some []
  | x :: r => if rnum B T x < 0 then none else (raddr B T r).map (((if 255 < T then [rnum B T x / 256 % 256] else []) ++ [rnum B T x % 256]) ++ ·)
def RCm (B T : Int) (ws : List (List UInt8)) (q : Nat) (out : List Int) : Prop := raddr B T ws = (raddr B T (ws.drop q)).map (out ++ ·)
theorem RCm.start (B T : Int) (ws : List (List UInt8)) : RCm B T ws 0 [] := by
  unfold RCm
  rw [List.drop_zero]
  cases raddr B T ws <;> rfl
theorem RCm.step {B T : Int} {ws : List (List UInt8)} {q : Nat} {out : List Int} {x : List UInt8} (h : RCm B T ws q out) (hq : ws[q]? = some x) (hu : ¬ rnum B T x < 0) : RCm B T ws (q + 1) (out ++ ((if 255 < T then [rnum B T x / 256 % 256] else []) ++ [rnum B T x % 256])) := by
  unfold RCm at h ⊢
  rw [h, drop_at hq, raddr, if_neg hu]
  cases raddr B T (ws.drop (q + 1)) <;> simp
theorem RCm.bad {B T : Int} {ws : List (List UInt8)} {q : Nat} {out : List Int} {x : List UInt8} (h : RCm B T ws q out) (hq : ws[q]? = some x) (hu : rnum B T x < 0) : raddr B T ws = none := by
  unfold RCm at h
  rw [h, drop_at hq, raddr, if_pos hu]
  rfl
theorem RCm.done {B T : Int} {ws : List (List UInt8)} {q : Nat} {out : List Int} (h : RCm B T ws q out) (hq : ws.length ≤ q) : raddr B T ws = some out := by
  unfold RCm at h
  rw [h, List.drop_eq_nil_of_le hq]
  simp [raddr]
theorem rnum_top {B T : Int} (hT : 0 ≤ T) (s : List UInt8) : rnum B T s ≤ T := by
  unfold rnum
  split
  · omega
  · exact rnumG_le hT s 0 false hT
end Go.Proofs.YtecbbjdcnlocdaaDoor

/- peerageref02: addr, Parse -/
namespace Go.Proofs.YtecbbjdcnlocdaaDoor
open Go.RowKit Go.Sort
theorem and255 (n : Nat) (h : n ≤ 65535) : bits BinOp.and IntKind.i64 (n : Int) 255 = ((n % 256 : Nat) : Int) := by
  show IntKind.i64.wrap ((BitVec.ofInt 64 (n : Int) &&& BitVec.ofInt 64 255).toNat : Int) = _
  have e1 : (BitVec.ofInt 64 (n : Int)).toNat = n := by
    rw [BitVec.ofInt_natCast, BitVec.toNat_ofNat]; exact Nat.mod_eq_of_lt (by omega)
  have e2 : n &&& 255 = n % 256 := Nat.and_two_pow_sub_one_eq_mod n 8
  rw [BitVec.toNat_and, e1, show (BitVec.ofInt 64 255).toNat = 255 from rfl, e2, IntKind.wrap_i64]
  omega
/-- What addr leaves. -/
def RAdr (B T : Int) (ws : List (List UInt8)) (w : World) (e : Ending) (w' : World) : Prop := ∃ (A : Option Addr) (m c : Nat) (out : List Int) (q : Bool), e = .returned (.tuple #[.slice A m c, .bool q]) ∧ Bytes w' w'.heap.size A m out ∧ Below w.heap.size w w' ∧ ((q = true ∧ raddr B T ws = some out) ∨ (q = false ∧ raddr B T ws = none ∧ m = 0))
set_option maxRecDepth 100000 in
set_option maxHeartbeats 3200000 in
theorem raddr_1 (A : Option Addr) (c : Nat) (Ws : List ByteArray) (w : World) (h : Shows w w.heap.size A (Ws.map Value.string)) (hl : Ws.length ≤ 1000001) (hs : ∀ x ∈ Ws, x.size ≤ 1000000) :
    Calls Tryd.prog 70 #[.slice A Ws.length c, .int .i64 10, .int .i64 255] w fun e w' => RAdr 10 255 (Ws.map (·.data.toList)) w e w' := by
  obtain ⟨k, hk⟩ : ∃ k, k = Ws.length := ⟨_, rfl⟩
  have HK := Lib.hid hk
  rw [← hk]
  have hkl : k ≤ 1000001 := by omega
  have HS := Lib.hid hs
  have HV := Lib.hid h
  clear hk hs hl h
  go_enter Tryd.func70, Tryd.ntmps70
  go_wp2
  go_loopw [8, 9] (fun v i wr => ∃ (q m : Nat) (out : List Int), q ≤ k ∧ i = .int .i64 (q : Int) ∧ wr.ownsRow w.heap.size 5 1 v m (out.map (Value.int .u8)) ∧ m ≤ 2 * q ∧ Below w.heap.size w wr ∧ Hid (RCm 10 255 (Ws.map (·.data.toList)) q out ∧ ∀ y ∈ out, 0 ≤ y ∧ y ≤ 255)) (fun _ i _ => k - (intOf i).toNat)
  case atStart => exact ⟨0, 0, [], Nat.zero_le _, rfl, World.ownsRow_nil _ _ _ _, Nat.zero_le _, bl_refl w, Lib.hid ⟨RCm.start _ _ _, fun _ h => by cases h⟩⟩
  case round =>
    obtain ⟨q, m, out, hq, rfl, hrow, hm, hb, hcome⟩ := hrel
    obtain ⟨A0, c0, rfl⟩ := own_form hrow
    by_cases hlt : q < k
    · have hql : q < Ws.length := by have := HK.out; omega
      obtain ⟨x, hx⟩ : ∃ x, Ws[q]? = some x := ⟨_, List.getElem?_eq_getElem hql⟩
      obtain ⟨b, o, rfl, hbB, hc0⟩ := HV.out.at_ (k := q) (v := .string x) (by rw [List.getElem?_map, hx]; rfl)
      have hcx := (hb.cell (p := ⟨b, o + q, none⟩) hbB).trans hc0
      have hxs : x.size ≤ 1000000 := HS.out x (List.mem_of_getElem? hx)
      have hx2 : (Ws.map (·.data.toList))[q]? = some x.data.toList := by rw [List.getElem?_map, hx]; rfl
      have hP := Lib.hid (fun W => rnumber_any x 10 255 (by omega) (by omega) hxs W)
      have hrt := rnum_top (B := 10) (T := 255) (by omega) x.data.toList
      have HX2 := Lib.hid hx2
      have HO := Lib.hid hrow
      have HB := Lib.hid hb
      have hbs := hb.size
      have hbl : b < wr.heap.size := by omega
      have hst := Lib.hid (fun (hn : ¬ rnum 10 255 x.data.toList < 0) => hcome.out.1.step HX2.out hn)
      have hbd := Lib.hid (fun (hn : rnum 10 255 x.data.toList < 0) => hcome.out.1.bad HX2.out hn)
      have hX := Lib.hid hcome.out.2
      generalize rnum 10 255 x.data.toList = N at *
      clear hx hx2 hxs hrow hb hql hcome hc0
      by_cases hn : N < 0
      · have hR := Lib.hid (hbd.out hn)
        have e1 : (N < 0) = True := eq_true hn
        have hb0 := HB.out
        clear hst hbd hn hrt
        go_wp2_with fail
        refine (hP.out _).mono ?_
        rintro e w2 ⟨rfl, rfl⟩
        go_wp2
        go_ret2
        exact ⟨none, 0, 0, [], false, rfl, bytes_nilN _ _, hb0, .inr ⟨rfl, hR.out, rfl⟩⟩
      · have e1 : (N < 0) = False := eq_false hn
        have hR := Lib.hid (hst.out hn)
        obtain ⟨u, rfl⟩ := Int.eq_ofNat_of_zero_le (show 0 ≤ N by omega)
        have hu : u ≤ 65535 := by omega
        have ha := and255 u hu
        have hw1 : IntKind.u8.wrap ((u % 256 : Nat) : Int) = ((u % 256 : Nat) : Int) := by rw [IntKind.wrap_u8]; omega
        have hd1 := Lib.hid (show ((u % 256 : Nat) : Int) = (u : Int) % 256 ∧ (u % 256 : Nat) ≤ 255 by omega)
        generalize u % 256 = y1 at *
        clear hst hbd hn hrt
        go_wp2_with fail
        refine (hP.out _).mono ?_
        rintro e w2 ⟨rfl, rfl⟩
        go_wp2_with (at_builtin; refine wpList_append_grow _ rfl _ _ rfl sl_bytes w.heap.size _ m _ rfl (HO.out.alloc _) (wr.heap.size + 1) (some ⟨wr.heap.size, 0, none⟩) 1 1 [.int .u8 (y1 : Int)] rfl rfl (Shows.of_owned (Own.new _ _ _) (by simp)) (one1 rfl) (by unfold maxLen; omega) (by omega) (by simp; omega) ?_; intro v4 w4 ho4 hg4)
        have hb4 := (HB.out.alloc HB.out.size _).grown hg4 (by simp; omega) (own_base HO.out)
        go_roundw
        case rel => exact ⟨q + 1, m + 1, out ++ [(y1 : Int)], by omega, by go_num, by rw [List.map_append]; exact ho4, by omega, hb4, Lib.hid ⟨by have := hR.out; rw [if_neg (by omega), List.nil_append, ← hd1.out.1] at this; exact this, fun y hy => by
          rcases List.mem_append.1 hy with hy | hy
          · exact hX.out y hy
          · rw [List.mem_singleton] at hy; have := hd1.out.2; omega⟩⟩
        case measure => simp [intOf]; omega
    · have hR := Lib.hid (hcome.out.1.done (by rw [List.length_map]; have := HK.out; omega))
      have hRg := Lib.hid hcome.out.2
      obtain ⟨A4, c4, he, hc3, hs3⟩ := own_val hrow
      have hBy := Lib.hid (show Bytes wr wr.heap.size A0 m out from ⟨by have := hrow.1; simp at this; omega, hRg.out, by
        injection he with e1 e2 e3
        rw [e1]
        exact hs3⟩)
      clear he hs3 hcome hrow
      go_wp2
      go_ret2
      exact ⟨A0, m, c0, out, true, rfl, hBy.out, hb, .inl ⟨rfl, hR.out⟩⟩
set_option maxRecDepth 100000 in
set_option maxHeartbeats 3200000 in
theorem raddr_2 (A : Option Addr) (c : Nat) (Ws : List ByteArray) (w : World) (h : Shows w w.heap.size A (Ws.map Value.string)) (hl : Ws.length ≤ 1000001) (hs : ∀ x ∈ Ws, x.size ≤ 1000000) :
    Calls Tryd.prog 70 #[.slice A Ws.length c, .int .i64 16, .int .i64 65535] w fun e w' => RAdr 16 65535 (Ws.map (·.data.toList)) w e w' := by
  obtain ⟨k, hk⟩ : ∃ k, k = Ws.length := ⟨_, rfl⟩
  have HK := Lib.hid hk
  rw [← hk]
  have hkl : k ≤ 1000001 := by omega
  have HS := Lib.hid hs
  have HV := Lib.hid h
  clear hk hs hl h
  go_enter Tryd.func70, Tryd.ntmps70
  go_wp2
  go_loopw [8, 9] (fun v i wr => ∃ (q m : Nat) (out : List Int), q ≤ k ∧ i = .int .i64 (q : Int) ∧ wr.ownsRow w.heap.size 5 1 v m (out.map (Value.int .u8)) ∧ m ≤ 2 * q ∧ Below w.heap.size w wr ∧ Hid (RCm 16 65535 (Ws.map (·.data.toList)) q out ∧ ∀ y ∈ out, 0 ≤ y ∧ y ≤ 255)) (fun _ i _ => k - (intOf i).toNat)
  case atStart => exact ⟨0, 0, [], Nat.zero_le _, rfl, World.ownsRow_nil _ _ _ _, Nat.zero_le _, bl_refl w, Lib.hid ⟨RCm.start _ _ _, fun _ h => by cases h⟩⟩
  case round =>
    obtain ⟨q, m, out, hq, rfl, hrow, hm, hb, hcome⟩ := hrel
    obtain ⟨A0, c0, rfl⟩ := own_form hrow
    by_cases hlt : q < k
    · have hql : q < Ws.length := by have := HK.out; omega
      obtain ⟨x, hx⟩ : ∃ x, Ws[q]? = some x := ⟨_, List.getElem?_eq_getElem hql⟩
      obtain ⟨b, o, rfl, hbB, hc0⟩ := HV.out.at_ (k := q) (v := .string x) (by rw [List.getElem?_map, hx]; rfl)
      have hcx := (hb.cell (p := ⟨b, o + q, none⟩) hbB).trans hc0
      have hxs : x.size ≤ 1000000 := HS.out x (List.mem_of_getElem? hx)
      have hx2 : (Ws.map (·.data.toList))[q]? = some x.data.toList := by rw [List.getElem?_map, hx]; rfl
      have hP := Lib.hid (fun W => rnumber_any x 16 65535 (by omega) (by omega) hxs W)
      have hrt := rnum_top (B := 16) (T := 65535) (by omega) x.data.toList
      have HX2 := Lib.hid hx2
      have HO := Lib.hid hrow
      have HB := Lib.hid hb
      have hbs := hb.size
      have hbl : b < wr.heap.size := by omega
      have hst := Lib.hid (fun (hn : ¬ rnum 16 65535 x.data.toList < 0) => hcome.out.1.step HX2.out hn)
      have hbd := Lib.hid (fun (hn : rnum 16 65535 x.data.toList < 0) => hcome.out.1.bad HX2.out hn)
      have hX := Lib.hid hcome.out.2
      generalize rnum 16 65535 x.data.toList = N at *
      clear hx hx2 hxs hrow hb hql hcome hc0
      by_cases hn : N < 0
      · have hR := Lib.hid (hbd.out hn)
        have e1 : (N < 0) = True := eq_true hn
        have hb0 := HB.out
        clear hst hbd hn hrt
        go_wp2_with fail
        refine (hP.out _).mono ?_
        rintro e w2 ⟨rfl, rfl⟩
        go_wp2
        go_ret2
        exact ⟨none, 0, 0, [], false, rfl, bytes_nilN _ _, hb0, .inr ⟨rfl, hR.out, rfl⟩⟩
      · have e1 : (N < 0) = False := eq_false hn
        have hR := Lib.hid (hst.out hn)
        obtain ⟨u, rfl⟩ := Int.eq_ofNat_of_zero_le (show 0 ≤ N by omega)
        have hu : u ≤ 65535 := by omega
        have ha := and255 u hu
        have hw1 : IntKind.u8.wrap ((u % 256 : Nat) : Int) = ((u % 256 : Nat) : Int) := by rw [IntKind.wrap_u8]; omega
        have hd1 := Lib.hid (show ((u % 256 : Nat) : Int) = (u : Int) % 256 ∧ (u % 256 : Nat) ≤ 255 by omega)
        have hw2 : IntKind.u8.wrap ((u / 256 : Nat) : Int) = ((u / 256 : Nat) : Int) := by rw [IntKind.wrap_u8]; omega
        have hsh : (u : Int) / 256 = ((u / 256 : Nat) : Int) := by omega
        have hd2 := Lib.hid (show ((u / 256 : Nat) : Int) = (u : Int) / 256 % 256 ∧ (u / 256 : Nat) ≤ 255 by omega)
        generalize u / 256 = y2 at *
        generalize u % 256 = y1 at *
        clear hst hbd hn hrt
        go_wp2_with fail
        refine (hP.out _).mono ?_
        rintro e w2 ⟨rfl, rfl⟩
        go_wp2_with (first
          | (at_builtin; refine wpList_append_grow _ rfl _ _ rfl sl_bytes w.heap.size _ m _ rfl (HO.out.alloc _) (wr.heap.size + 1) (some ⟨wr.heap.size, 0, none⟩) 1 1 [.int .u8 (y2 : Int)] rfl rfl (Shows.of_owned (Own.new _ _ _) (by simp)) (one1 rfl) (by unfold maxLen; omega) (by omega) (by simp; omega) ?_; intro v4 w4 ho4 hg4; have hb4 := (HB.out.alloc HB.out.size _).grown hg4 (by simp; omega) (own_base HO.out); have hs4 := hb4.size)
          | (at_builtin; refine wpList_append_grow _ rfl _ _ rfl sl_bytes w.heap.size _ (m + 1) _ rfl (ho4.alloc _) (w4.heap.size + 1) (some ⟨w4.heap.size, 0, none⟩) 1 1 [.int .u8 (y1 : Int)] rfl rfl (Shows.of_owned (Own.new _ _ _) (by simp)) (one1 rfl) (by unfold maxLen; omega) (by omega) (by simp; omega) ?_; intro v5 w5 ho5 hg5; have hb5 := (hb4.alloc hs4 _).grown hg5 (by simp; omega) (own_base ho4)))
        go_roundw
        case rel => exact ⟨q + 1, m + 1 + 1, out ++ [(y2 : Int)] ++ [(y1 : Int)], by omega, by go_num, by rw [List.map_append, List.map_append]; exact ho5, by omega, hb5, Lib.hid ⟨by have := hR.out; rw [if_pos (by omega), ← hd1.out.1, ← hd2.out.1] at this; rw [List.append_assoc]; exact this, fun y hy => by
          rcases List.mem_append.1 hy with hy | hy
          · rcases List.mem_append.1 hy with hy | hy
            · exact hX.out y hy
            · rw [List.mem_singleton] at hy; have := hd2.out.2; omega
          · rw [List.mem_singleton] at hy; have := hd1.out.2; omega⟩⟩
        case measure => simp [intOf]; omega
    · have hR := Lib.hid (hcome.out.1.done (by rw [List.length_map]; have := HK.out; omega))
      have hRg := Lib.hid hcome.out.2
      obtain ⟨A4, c4, he, hc3, hs3⟩ := own_val hrow
      have hBy := Lib.hid (show Bytes wr wr.heap.size A0 m out from ⟨by have := hrow.1; simp at this; omega, hRg.out, by
        injection he with e1 e2 e3
        rw [e1]
        exact hs3⟩)
      clear he hs3 hcome hrow
      go_wp2
      go_ret2
      exact ⟨A0, m, c0, out, true, rfl, hBy.out, hb, .inl ⟨rfl, hR.out⟩⟩
/-- What the reference's Parse gives. -/
def rfam (s : List UInt8) : Int × Option (List Int) := if (Lib.split s [58]).length = 8 then (2, raddr 16 65535 (Lib.split s [58])) else (1, raddr 10 255 (Lib.split s [46]))
def rfin (s : List UInt8) (f n : Int) (b : List Int) : Option (Int × Int × List Int) := if makeOk f n b.length = true then (if (ptxtO f n (maskL n (padTo b))).data.toList = s ∧ pfxOk f n (maskL n (padTo b)) = true then some (f, n, maskL n (padTo b)) else none) else none
def rParse (s : List UInt8) : Option (Int × Int × List Int) := match Lib.split s [47] with
  | [x, y] => (rfam x).2.bind fun b => if rnum 10 128 y < 0 ∨ ((rfam x).1 = 1 ∧ b.length ≠ 4) then none else rfin s (rfam x).1 (rnum 10 128 y) b
  | _ => none
end Go.Proofs.YtecbbjdcnlocdaaDoor

/- peerageref02.Parse -/
namespace Go.Proofs.YtecbbjdcnlocdaaDoor
open Go.RowKit Go.Sort
theorem rParse_len {s : List UInt8} (h : (Lib.split s [47]).length ≠ 2) : rParse s = none := by
  unfold rParse
  split
  · rename_i e
    rw [e] at h
    exact absurd rfl h
  · rfl
theorem rParse_two {s x y : List UInt8} (h : Lib.split s [47] = [x, y]) : rParse s = (rfam x).2.bind fun b => if rnum 10 128 y < 0 ∨ ((rfam x).1 = 1 ∧ b.length ≠ 4) then none else rfin s (rfam x).1 (rnum 10 128 y) b := by
  unfold rParse
  rw [h]
def RPP (t : ByteArray) (w : World) (e : Ending) (w' : World) : Prop := ∃ (f l : Int) (a : List Int) (q : Bool), e = .returned (.tuple #[.agg (pfx f l a), .bool q]) ∧ IsAddr a ∧ Below w.heap.size w w' ∧ ((q = true ∧ rParse t.data.toList = some (f, l, a)) ∨ (q = false ∧ rParse t.data.toList = none ∧ f = 0 ∧ l = 0 ∧ a = zero16))
theorem raddr_len (B T : Int) : ∀ (ws : List (List UInt8)) (out : List Int), raddr B T ws = some out → out.length = (if 255 < T then 2 else 1) * ws.length
  | [], out, h => by cases h; simp
  | x :: r, out, h => by
    rw [raddr] at h
    split at h
    · cases h
    · obtain ⟨o, ho, rfl⟩ := Option.map_eq_some_iff.1 h
      have ih := raddr_len B T r o ho
      rw [List.length_append, ih, List.length_cons]
      split <;> simp <;> omega
set_option maxRecDepth 100000 in
set_option maxHeartbeats 6400000 in
theorem rpparse_any (t : ByteArray) (ht : t.size ≤ 1000000) (w : World) :
    Calls Tryd.prog 32 #[.string t] w fun e w' => RPP t w e w' := by
  have hz18 : #[.int .i64 0, .int .i64 0, .int .u8 0, .int .u8 0, .int .u8 0, .int .u8 0, .int .u8 0, .int .u8 0, .int .u8 0, .int .u8 0, .int .u8 0, .int .u8 0, .int .u8 0, .int .u8 0, .int .u8 0, .int .u8 0, .int .u8 0, .int .u8 0] = pfx 0 0 zero16 := pfx_zero.symm
  have ho := Own.new w 41 (pfx 0 0 zero16)
  have hb0 := bl_alloc (bl_refl w) (.cells (pfx 0 0 zero16) 41)
  have hSp := Lib.hid (fun W => (show Calls Tryd.prog 69 #[.string t, .int .u8 47] W fun e w' => RSpl t 47 W e w' from rsplit_any t 47 ht W))
  have HT := Lib.hid ht
  clear ht
  go_enter Tryd.func32, Tryd.ntmps32
  go_wp2_with fail
  refine (hSp.out _).mono ?_
  rintro e w1 ⟨A1, k1, Ws, rfl, hs1, hb1, hW, hl1, hz1⟩
  have o1 := ho.step hb1
  have b1 := bl_trans hb0 hb1
  clear ho hb0 hb1 hSp
  by_cases h2 : Ws.length = 2
  · obtain ⟨x0, x1, rfl⟩ : ∃ x0 x1, Ws = [x0, x1] := by
      match Ws, h2 with
      | [a, b], _ => exact ⟨a, b, rfl⟩
    have hx0 : x0.size ≤ 1000000 := Nat.le_trans (hz1 x0 (by simp)) HT.out
    have hx1 : x1.size ≤ 1000000 := Nat.le_trans (hz1 x1 (by simp)) HT.out
    have hP2 := Lib.hid (rParse_two (s := t.data.toList) (x := x0.data.toList) (y := x1.data.toList) hW.symm)
    obtain ⟨bb, oo, rfl, hbb, hcc⟩ : ∃ b o, A1 = some ⟨b, o, none⟩ ∧ b < w1.heap.size ∧ ∀ i v, ([x0, x1].map Value.string)[i]? = some v → w1.cell? ⟨b, o + i, none⟩ = some v := by
      rcases hs1 with h0 | h
      · simp at h0
      · exact h
    have d0 : w1.cell? ⟨bb, oo, none⟩ = some (.string x0) := hcc 0 _ rfl
    have d1 : w1.cell? ⟨bb, oo + 1, none⟩ = some (.string x1) := hcc 1 _ rfl
    have HD0 := Lib.hid d0
    have HD1 := Lib.hid d1
    have hSa := Lib.hid (fun W => (show Calls Tryd.prog 69 #[.string x0, .int .u8 46] W fun e w' => RSpl x0 46 W e w' from rsplit_any x0 46 hx0 W))
    have hSb := Lib.hid (fun W => (show Calls Tryd.prog 69 #[.string x0, .int .u8 58] W fun e w' => RSpl x0 58 W e w' from rsplit_any x0 58 hx0 W))
    have hr : Hid (rfam x0.data.toList = if (Lib.split x0.data.toList [58]).length = 8 then (2, raddr 16 65535 (Lib.split x0.data.toList [58])) else (1, raddr 10 255 (Lib.split x0.data.toList [46]))) := Lib.hid rfl
    have hlen2 : [x0, x1].length = 2 := rfl
    clear hs1 hW hl1 hz1 h2 hcc
    dsimp only [List.length_cons, List.length_nil]
    go_wp2_with fail
    refine (hSa.out _).mono ?_
    rintro e w2 ⟨A2, k2, W2, rfl, hs2, hb2, hW2, hl2, hz2⟩
    have o2 := o1.step hb2
    have b2 := bl_trans b1 hb2
    have HB12 := Lib.hid hb2
    have hAd := Lib.hid (raddr_1 A2 k2 W2 w2 hs2 (by have := HT.out; omega) (fun x hx => Nat.le_trans (hz2 x hx) hx0))
    rw [hW2] at hAd
    clear hs2 hW2 hl2 hz2 hSa o1 b1 hb2 d0 d1
    go_wp2_with fail
    refine hAd.out.mono ?_
    rintro e w3 ⟨A6, m6, c6, out6, q6, rfl, hB6, hb3, hc6⟩
    have o3 := o2.step hb3
    have b3 := bl_trans b2 hb3
    have HB13 := Lib.hid (bl_trans HB12.out hb3)
    have e0 := (HB13.out.cell (p := ⟨bb, oo, none⟩) hbb).trans HD0.out
    clear o2 b2 hb3 hAd
    go_wp2_with fail
    refine (hSb.out _).mono ?_
    rintro e w4 ⟨A4, k4, W4, rfl, hs4, hb4, hW4, hl4, hz4⟩
    have o4 := o3.step hb4
    have b4 := bl_trans b3 hb4
    have HB14 := Lib.hid (bl_trans HB13.out hb4)
    have hB64 := (hB6.below hb4).more hb4.size
    have hL8 := Lib.hid (show (Lib.split x0.data.toList [58]).length = W4.length by rw [← hW4, List.length_map])
    clear o3 b3 hB6 e0 hs4 hz4 hl4 hW4 hb4
    obtain ⟨k8, hk8⟩ : ∃ k8, k8 = W4.length := ⟨_, rfl⟩
    have HK8 := Lib.hid hk8
    rw [← hk8]
    clear hk8
    by_cases h8 : k8 = 8
    · have q8 : ((k8 : Int) == 8) = true := by rw [h8]; rfl
      have hrf0 := Lib.hid (show rfam x0.data.toList = (2, raddr 16 65535 (Lib.split x0.data.toList [58])) by rw [hr.out, if_pos (by rw [hL8.out, ← HK8.out]; exact h8)])
      have hL88 := Lib.hid (show (Lib.split x0.data.toList [58]).length = 8 by rw [hL8.out, ← HK8.out]; exact h8)
      have e0 := (HB14.out.cell (p := ⟨bb, oo, none⟩) hbb).trans HD0.out
      clear hc6 hB64 h8 hr hL8
      go_wp2_with fail
      refine (hSb.out _).mono ?_
      rintro e w5 ⟨A5, k5, W5, rfl, hs5, hb5, hW5, hl5, hz5⟩
      have o5 := o4.step hb5
      have b5 := bl_trans b4 hb5
      have HB15 := Lib.hid (bl_trans HB14.out hb5)
      have hAd := Lib.hid (raddr_2 A5 k5 W5 w5 hs5 (by have := HT.out; omega) (fun x hx => Nat.le_trans (hz5 x hx) hx0))
      rw [hW5] at hAd
      clear hs5 hW5 hl5 hz5 hSb o4 b4 hb5 e0
      go_wp2_with fail
      refine hAd.out.mono ?_
      rintro e w7 ⟨A6, m6, c6, out6, q6, rfl, hB6, hb7, hc6⟩
      have o6 := o5.step hb7
      have b6 := bl_trans b5 hb7
      have HB17 := Lib.hid (bl_trans HB15.out hb7)
      have e1 := (HB17.out.cell (p := ⟨bb, oo + 1, none⟩) hbb).trans HD1.out
      have h16 := Lib.hid (show m6 ≤ 16 by
        rcases hc6 with ⟨_, h⟩ | ⟨_, _, h⟩
        · have := raddr_len _ _ _ _ h
          rw [hL88.out] at this
          rw [hB6.1, this]; decide
        · omega)
      obtain ⟨wsl, hwsl⟩ : ∃ wsl, wsl = Lib.split x0.data.toList [58] := ⟨_, rfl⟩
      rw [← hwsl] at hc6 hrf0
      have hrf := Lib.hid hrf0.out
      clear o5 b5 hb7 hAd hwsl hrf0 hL88
      have hNb := Lib.hid (fun W => rnumber_any x1 10 128 (by omega) (by omega) hx1 W)
      have hP5 := Lib.hid (show rParse t.data.toList = (raddr 16 65535 wsl).bind (fun b => if rnum 10 128 x1.data.toList < 0 then none else rfin t.data.toList 2 (rnum 10 128 x1.data.toList) b) by
        rw [hP2.out, hrf.out]
        show (raddr 16 65535 wsl).bind (fun b => if rnum 10 128 x1.data.toList < 0 ∨ ((2 : Int) = 1 ∧ b.length ≠ 4) then none else rfin t.data.toList 2 (rnum 10 128 x1.data.toList) b) = _
        simp only [show ((2 : Int) = 1) = False from eq_false (by decide), false_and, or_false])
      have hNt := rnum_top (B := 10) (T := 128) (by omega) x1.data.toList
      generalize rnum 10 128 x1.data.toList = N at *
      have hs6 := b6.size
      clear hP2 hrf
      go_wp2_with fail
      refine (hNb.out _).mono ?_
      rintro e w8 ⟨rfl, rfl⟩
      cases q6
      · have hR := Lib.hid (show rParse t.data.toList = none by
          rcases hc6 with ⟨h, _⟩ | ⟨_, h, _⟩
          · cases h
          · rw [hP5.out, h]; rfl)
        clear hc6 hB6 hP5 hNt
        go_wp2_with (refine wpList_store_row rfl 41 _ _ rfl w.heap.size (pfx 0 0 zero16) rfl rfl 41 (pfx 0 0 zero16) o6 (pfx_info rfl) rfl (pfx_one 0 0 zero16) ?_)
        have hfin := Own.setRow (cs' := pfx 0 0 zero16) o6
        exact bodyPost_ret (results_cell_tmp rfl _ _ w.heap.size 41 (pfx 0 0 zero16) _ rfl hfin pfx_desc rfl (pfx_info rfl)) rfl ⟨0, 0, zero16, false, rfl, zero16_addr, bl_setRow b6 (Nat.le_refl _), .inr ⟨rfl, hR.out, rfl, rfl, rfl⟩⟩
      · have hA6 : raddr 16 65535 wsl = some out6 := by
          rcases hc6 with ⟨_, h⟩ | ⟨h, _⟩
          · exact h
          · cases h
        have hP6 := Lib.hid (show rParse t.data.toList = if N < 0 then none else rfin t.data.toList 2 N out6 by rw [hP5.out, hA6]; rfl)
        have hL6 := Lib.hid hB6.1
        clear hc6 hA6 hP5
        by_cases hn : N < 0
        · have hR := Lib.hid (show rParse t.data.toList = none by rw [hP6.out, if_pos hn])
          have e1 : (N < 0) = True := eq_true hn
          clear hB6 hP6 hNt hn
          go_wp2_with (refine wpList_store_row rfl 41 _ _ rfl w.heap.size (pfx 0 0 zero16) rfl rfl 41 (pfx 0 0 zero16) o6 (pfx_info rfl) rfl (pfx_one 0 0 zero16) ?_)
          have hfin := Own.setRow (cs' := pfx 0 0 zero16) o6
          exact bodyPost_ret (results_cell_tmp rfl _ _ w.heap.size 41 (pfx 0 0 zero16) _ rfl hfin pfx_desc rfl (pfx_info rfl)) rfl ⟨0, 0, zero16, false, rfl, zero16_addr, bl_setRow b6 (Nat.le_refl _), .inr ⟨rfl, hR.out, rfl, rfl, rfl⟩⟩
        · have e1 : (N < 0) = False := eq_false hn
          have hP7 := Lib.hid (show rParse t.data.toList = rfin t.data.toList 2 N out6 by rw [hP6.out, if_neg hn])
          have hm16 : m6 ≤ 16 := h16.out
          have hN0 := Lib.hid hn
          clear hP6 hn
          obtain ⟨pf, pl, pa, bm, hMk, hpa, hF⟩ : ∃ (pf pl : Int) (pa : List Int) (bm : Bool), Hid (Calls Tryd.prog 72 #[.int .i64 2, .int .i64 N, .slice A6 m6 c6] w7 fun e w' => e = .returned (.tuple #[.agg (pfx pf pl pa), .bool bm]) ∧ Below w7.heap.size w7 w') ∧ IsAddr pa ∧ Hid (rParse t.data.toList = if (ptxtO pf pl pa).data.toList = t.data.toList ∧ pfxOk pf pl pa = true then some (pf, pl, pa) else none) := by
            cases hmk : makeOk 2 N m6 with
            | false =>
              refine ⟨0, 0, zero16, false, Lib.hid (rmake_no 2 N A6 m6 c6 w7 (by omega) hmk), zero16_addr, Lib.hid ?_⟩
              rw [hP7.out]
              unfold rfin
              rw [← hL6.out, hmk, if_neg (by simp), if_neg (fun h => by have h2 : pfxOk 0 0 zero16 = false := rfl; rw [h2] at h; exact absurd h.2 (by simp))]
            | true =>
              refine ⟨2, N, maskL N (padTo out6), true, Lib.hid (rmake_yes 2 N A6 m6 c6 out6 w7 hB6 hmk), maskL_addr N (padTo_addr (by rw [← hL6.out]; exact hm16) hB6.2.1), Lib.hid ?_⟩
              rw [hP7.out]
              unfold rfin
              rw [← hL6.out, if_pos hmk]
          have HS := Lib.hid (pfx_size (f := pf) (l := pl) hpa.1)
          have HPA := Lib.hid hpa
          clear hB6 hP7 hpa hm16 hNt
          go_wp2_with fail
          refine hMk.out.mono ?_
          rintro e w9 ⟨rfl, hb9⟩
          have o9 := o6.step hb9
          have b9 := bl_trans b6 hb9
          have s9 := b9.size
          have oN := Own.new w9 41 (pfx 0 0 zero16)
          have lt9 := o9.lt
          have oV := Own.setRow (cs' := pfx pf pl pa) oN
          have bV := bl_setRow (cs := pfx pf pl pa) (b9.alloc s9 (.cells (pfx 0 0 zero16) 41)) s9
          have oR := (Rest.setRowP (w9.alloc (.cells (pfx 0 0 zero16) 41)) w9.heap.size (pfx pf pl pa)).own (o9.alloc (.cells (pfx 0 0 zero16) 41)) (fun e => by omega)
          clear o6 b6 hb9 hMk o9 b9
          go_wp2_with (refine wpList_store_row rfl 41 _ _ rfl w9.heap.size (pfx pf pl pa) rfl rfl 41 (pfx 0 0 zero16) oN (pfx_info HPA.out.1) (by rw [HS.out]; rfl) (pfx_one _ _ _) ?_; (generalize (w9.alloc (.cells (pfx 0 0 zero16) 41)).setRow w9.heap.size (pfx pf pl pa) = w10 at *); (clear oN); (go_wp2_with (refine wpList_load_row rfl 41 _ rfl w9.heap.size rfl 41 (pfx pf pl pa) (0, 0) (.struct (Tryd.prog.fieldsOf 41)) oV (by kernel_rfl) rfl (by rw [HS.out]; kernel_rfl) ?_)))
          have hTx := Lib.hid (rptext_any pf pl pa w10 HPA.out)
          refine hTx.out.mono ?_
          rintro e w11 ⟨rfl, hb11⟩
          have oV11 := oV.step hb11
          have oR11 := oR.step hb11
          have b11 := bl_trans bV hb11
          generalize ptxtO pf pl pa = Z at *
          clear oV oR bV hb11 hTx
          by_cases hT : Z = t
          · have q1 : (Z.toList == t.toList) = true := by rw [hT]; simp
            have hF2 := Lib.hid (show rParse t.data.toList = if pfxOk pf pl pa = true then some (pf, pl, pa) else none by
              rw [hF.out, hT]
              by_cases hk : pfxOk pf pl pa = true
              · rw [if_pos ⟨rfl, hk⟩, if_pos hk]
              · rw [if_neg (fun h => hk h.2), if_neg hk])
            have hVl := Lib.hid (fun W => rpvalid_any pf pl pa W HPA.out)
            clear hF hT
            generalize pfxOk pf pl pa = K at *
            go_wp2_with (refine wpList_load_row_on (by rfl) 41 _ rfl w9.heap.size rfl 41 (pfx pf pl pa) (.struct (Tryd.prog.fieldsOf 41)) oV11 (by kernel_rfl) rfl (by rw [HS.out]; kernel_rfl) ?_)
            refine (hVl.out _).mono ?_
            rintro e w12 ⟨rfl, hb12⟩
            have oV12 := oV11.step hb12
            have oR12 := oR11.step hb12
            have b12 := bl_trans b11 hb12
            clear oV11 oR11 b11 hb12 hVl
            cases K
            · have hR := Lib.hid (show rParse t.data.toList = none by rw [hF2.out]; rfl)
              go_wp2_with (refine wpList_store_row rfl 41 _ _ rfl w.heap.size (pfx 0 0 zero16) rfl rfl 41 (pfx 0 0 zero16) oR12 (pfx_info rfl) rfl (pfx_one 0 0 zero16) ?_)
              have hfin := Own.setRow (cs' := pfx 0 0 zero16) oR12
              exact bodyPost_ret (results_cell_tmp rfl _ _ w.heap.size 41 (pfx 0 0 zero16) _ rfl hfin pfx_desc rfl (pfx_info rfl)) rfl ⟨0, 0, zero16, false, rfl, zero16_addr, bl_setRow b12 (Nat.le_refl _), .inr ⟨rfl, hR.out, rfl, rfl, rfl⟩⟩
            · have hR := Lib.hid (show rParse t.data.toList = some (pf, pl, pa) by rw [hF2.out]; rfl)
              go_wp2_with (first
                | (refine wpList_load_row rfl 41 _ rfl w9.heap.size rfl 41 (pfx pf pl pa) (0, 0) (.struct (Tryd.prog.fieldsOf 41)) oV12 (by kernel_rfl) rfl (by rw [HS.out]; kernel_rfl) ?_)
                | (refine wpList_store_row rfl 41 _ _ rfl w.heap.size (pfx pf pl pa) rfl rfl 41 (pfx 0 0 zero16) oR12 (pfx_info HPA.out.1) (by rw [HS.out]; rfl) (pfx_one _ _ _) ?_))
              have hfin := Own.setRow (cs' := pfx pf pl pa) oR12
              exact bodyPost_ret (results_cell_tmp rfl _ _ w.heap.size 41 (pfx pf pl pa) _ rfl hfin pfx_desc rfl (pfx_info HPA.out.1)) rfl ⟨pf, pl, pa, true, rfl, HPA.out, bl_setRow b12 (Nat.le_refl _), .inl ⟨rfl, hR.out⟩⟩
          · have q1 : (Z.toList == t.toList) = false := by
              rw [beq_eq_false_iff_ne]
              intro e
              rw [ByteArray.toList_eq, ByteArray.toList_eq] at e
              exact hT (ba_extP e)
            have hR := Lib.hid (show rParse t.data.toList = none by rw [hF.out, if_neg (fun h => hT (ba_extP h.1))])
            clear hF hT
            go_wp2_with (refine wpList_store_row rfl 41 _ _ rfl w.heap.size (pfx 0 0 zero16) rfl rfl 41 (pfx 0 0 zero16) oR11 (pfx_info rfl) rfl (pfx_one 0 0 zero16) ?_)
            have hfin := Own.setRow (cs' := pfx 0 0 zero16) oR11
            exact bodyPost_ret (results_cell_tmp rfl _ _ w.heap.size 41 (pfx 0 0 zero16) _ rfl hfin pfx_desc rfl (pfx_info rfl)) rfl ⟨0, 0, zero16, false, rfl, zero16_addr, bl_setRow b11 (Nat.le_refl _), .inr ⟨rfl, hR.out, rfl, rfl, rfl⟩⟩
    · have q8 : ((k8 : Int) == 8) = false := by rw [beq_eq_false_iff_ne]; omega
      have hrf0 := Lib.hid (show rfam x0.data.toList = (1, raddr 10 255 (Lib.split x0.data.toList [46])) by rw [hr.out, if_neg (by rw [hL8.out, ← HK8.out]; exact h8)])
      have e1 := (HB14.out.cell (p := ⟨bb, oo + 1, none⟩) hbb).trans HD1.out
      obtain ⟨wsl, hwsl⟩ : ∃ wsl, wsl = Lib.split x0.data.toList [46] := ⟨_, rfl⟩
      rw [← hwsl] at hc6 hrf0
      have hrf := Lib.hid hrf0.out
      have o6 := o4
      have b6 := b4
      have hB6 := hB64
      clear h8 hr hL8 hwsl hrf0 o4 b4 hB64 hSb
      have hNb := Lib.hid (fun W => rnumber_any x1 10 128 (by omega) (by omega) hx1 W)
      have hP5 := Lib.hid (show rParse t.data.toList = (raddr 10 255 wsl).bind (fun b => if rnum 10 128 x1.data.toList < 0 ∨ b.length ≠ 4 then none else rfin t.data.toList 1 (rnum 10 128 x1.data.toList) b) by
        rw [hP2.out, hrf.out]
        show (raddr 10 255 wsl).bind (fun b => if rnum 10 128 x1.data.toList < 0 ∨ ((1 : Int) = 1 ∧ b.length ≠ 4) then none else rfin t.data.toList 1 (rnum 10 128 x1.data.toList) b) = _
        simp only [true_and])
      have hNt := rnum_top (B := 10) (T := 128) (by omega) x1.data.toList
      generalize rnum 10 128 x1.data.toList = N at *
      have hs6 := b6.size
      clear hP2 hrf
      go_wp2_with fail
      refine (hNb.out _).mono ?_
      rintro e w8 ⟨rfl, rfl⟩
      cases q6
      · have hR := Lib.hid (show rParse t.data.toList = none by
          rcases hc6 with ⟨h, _⟩ | ⟨_, h, _⟩
          · cases h
          · rw [hP5.out, h]; rfl)
        clear hc6 hB6 hP5 hNt
        go_wp2_with (refine wpList_store_row rfl 41 _ _ rfl w.heap.size (pfx 0 0 zero16) rfl rfl 41 (pfx 0 0 zero16) o6 (pfx_info rfl) rfl (pfx_one 0 0 zero16) ?_)
        have hfin := Own.setRow (cs' := pfx 0 0 zero16) o6
        exact bodyPost_ret (results_cell_tmp rfl _ _ w.heap.size 41 (pfx 0 0 zero16) _ rfl hfin pfx_desc rfl (pfx_info rfl)) rfl ⟨0, 0, zero16, false, rfl, zero16_addr, bl_setRow b6 (Nat.le_refl _), .inr ⟨rfl, hR.out, rfl, rfl, rfl⟩⟩
      · have hA6 : raddr 10 255 wsl = some out6 := by
          rcases hc6 with ⟨_, h⟩ | ⟨h, _⟩
          · exact h
          · cases h
        have hP6 := Lib.hid (show rParse t.data.toList = if N < 0 ∨ out6.length ≠ 4 then none else rfin t.data.toList 1 N out6 by rw [hP5.out, hA6]; rfl)
        have hL6 := Lib.hid hB6.1
        clear hc6 hA6 hP5
        by_cases hn : N < 0
        · have hR := Lib.hid (show rParse t.data.toList = none by rw [hP6.out, if_pos (.inl hn)])
          have e1 : (N < 0) = True := eq_true hn
          clear hB6 hP6 hNt hn
          go_wp2_with (refine wpList_store_row rfl 41 _ _ rfl w.heap.size (pfx 0 0 zero16) rfl rfl 41 (pfx 0 0 zero16) o6 (pfx_info rfl) rfl (pfx_one 0 0 zero16) ?_)
          have hfin := Own.setRow (cs' := pfx 0 0 zero16) o6
          exact bodyPost_ret (results_cell_tmp rfl _ _ w.heap.size 41 (pfx 0 0 zero16) _ rfl hfin pfx_desc rfl (pfx_info rfl)) rfl ⟨0, 0, zero16, false, rfl, zero16_addr, bl_setRow b6 (Nat.le_refl _), .inr ⟨rfl, hR.out, rfl, rfl, rfl⟩⟩
        · have e1 : (N < 0) = False := eq_false hn
          by_cases hm4 : m6 = 4
          · have e2 : ((m6 : Int) != 4) = false := by rw [hm4]; rfl
            have hP7 := Lib.hid (show rParse t.data.toList = rfin t.data.toList 1 N out6 by rw [hP6.out, if_neg (fun h => h.elim hn (fun h => h (by rw [← hL6.out]; exact hm4)))])
            have hm16 : m6 ≤ 16 := by omega
            have hN0 := Lib.hid hn
            clear hP6 hm4 hn
            obtain ⟨pf, pl, pa, bm, hMk, hpa, hF⟩ : ∃ (pf pl : Int) (pa : List Int) (bm : Bool), Hid (Calls Tryd.prog 72 #[.int .i64 1, .int .i64 N, .slice A6 m6 c6] w4 fun e w' => e = .returned (.tuple #[.agg (pfx pf pl pa), .bool bm]) ∧ Below w4.heap.size w4 w') ∧ IsAddr pa ∧ Hid (rParse t.data.toList = if (ptxtO pf pl pa).data.toList = t.data.toList ∧ pfxOk pf pl pa = true then some (pf, pl, pa) else none) := by
              cases hmk : makeOk 1 N m6 with
              | false =>
                refine ⟨0, 0, zero16, false, Lib.hid (rmake_no 1 N A6 m6 c6 w4 (by omega) hmk), zero16_addr, Lib.hid ?_⟩
                rw [hP7.out]
                unfold rfin
                rw [← hL6.out, hmk, if_neg (by simp), if_neg (fun h => by have h2 : pfxOk 0 0 zero16 = false := rfl; rw [h2] at h; exact absurd h.2 (by simp))]
              | true =>
                refine ⟨1, N, maskL N (padTo out6), true, Lib.hid (rmake_yes 1 N A6 m6 c6 out6 w4 hB6 hmk), maskL_addr N (padTo_addr (by rw [← hL6.out]; exact hm16) hB6.2.1), Lib.hid ?_⟩
                rw [hP7.out]
                unfold rfin
                rw [← hL6.out, if_pos hmk]
            have HS := Lib.hid (pfx_size (f := pf) (l := pl) hpa.1)
            have HPA := Lib.hid hpa
            clear hB6 hP7 hpa hm16 hNt
            go_wp2_with fail
            refine hMk.out.mono ?_
            rintro e w9 ⟨rfl, hb9⟩
            have o9 := o6.step hb9
            have b9 := bl_trans b6 hb9
            have s9 := b9.size
            have oN := Own.new w9 41 (pfx 0 0 zero16)
            have lt9 := o9.lt
            have oV := Own.setRow (cs' := pfx pf pl pa) oN
            have bV := bl_setRow (cs := pfx pf pl pa) (b9.alloc s9 (.cells (pfx 0 0 zero16) 41)) s9
            have oR := (Rest.setRowP (w9.alloc (.cells (pfx 0 0 zero16) 41)) w9.heap.size (pfx pf pl pa)).own (o9.alloc (.cells (pfx 0 0 zero16) 41)) (fun e => by omega)
            clear o6 b6 hb9 hMk o9 b9
            go_wp2_with (refine wpList_store_row rfl 41 _ _ rfl w9.heap.size (pfx pf pl pa) rfl rfl 41 (pfx 0 0 zero16) oN (pfx_info HPA.out.1) (by rw [HS.out]; rfl) (pfx_one _ _ _) ?_; (generalize (w9.alloc (.cells (pfx 0 0 zero16) 41)).setRow w9.heap.size (pfx pf pl pa) = w10 at *); (clear oN); (go_wp2_with (refine wpList_load_row rfl 41 _ rfl w9.heap.size rfl 41 (pfx pf pl pa) (0, 0) (.struct (Tryd.prog.fieldsOf 41)) oV (by kernel_rfl) rfl (by rw [HS.out]; kernel_rfl) ?_)))
            have hTx := Lib.hid (rptext_any pf pl pa w10 HPA.out)
            refine hTx.out.mono ?_
            rintro e w11 ⟨rfl, hb11⟩
            have oV11 := oV.step hb11
            have oR11 := oR.step hb11
            have b11 := bl_trans bV hb11
            generalize ptxtO pf pl pa = Z at *
            clear oV oR bV hb11 hTx
            by_cases hT : Z = t
            · have q1 : (Z.toList == t.toList) = true := by rw [hT]; simp
              have hF2 := Lib.hid (show rParse t.data.toList = if pfxOk pf pl pa = true then some (pf, pl, pa) else none by
                rw [hF.out, hT]
                by_cases hk : pfxOk pf pl pa = true
                · rw [if_pos ⟨rfl, hk⟩, if_pos hk]
                · rw [if_neg (fun h => hk h.2), if_neg hk])
              have hVl := Lib.hid (fun W => rpvalid_any pf pl pa W HPA.out)
              clear hF hT
              generalize pfxOk pf pl pa = K at *
              go_wp2_with (refine wpList_load_row_on (by rfl) 41 _ rfl w9.heap.size rfl 41 (pfx pf pl pa) (.struct (Tryd.prog.fieldsOf 41)) oV11 (by kernel_rfl) rfl (by rw [HS.out]; kernel_rfl) ?_)
              refine (hVl.out _).mono ?_
              rintro e w12 ⟨rfl, hb12⟩
              have oV12 := oV11.step hb12
              have oR12 := oR11.step hb12
              have b12 := bl_trans b11 hb12
              clear oV11 oR11 b11 hb12 hVl
              cases K
              · have hR := Lib.hid (show rParse t.data.toList = none by rw [hF2.out]; rfl)
                go_wp2_with (refine wpList_store_row rfl 41 _ _ rfl w.heap.size (pfx 0 0 zero16) rfl rfl 41 (pfx 0 0 zero16) oR12 (pfx_info rfl) rfl (pfx_one 0 0 zero16) ?_)
                have hfin := Own.setRow (cs' := pfx 0 0 zero16) oR12
                exact bodyPost_ret (results_cell_tmp rfl _ _ w.heap.size 41 (pfx 0 0 zero16) _ rfl hfin pfx_desc rfl (pfx_info rfl)) rfl ⟨0, 0, zero16, false, rfl, zero16_addr, bl_setRow b12 (Nat.le_refl _), .inr ⟨rfl, hR.out, rfl, rfl, rfl⟩⟩
              · have hR := Lib.hid (show rParse t.data.toList = some (pf, pl, pa) by rw [hF2.out]; rfl)
                go_wp2_with (first
                  | (refine wpList_load_row rfl 41 _ rfl w9.heap.size rfl 41 (pfx pf pl pa) (0, 0) (.struct (Tryd.prog.fieldsOf 41)) oV12 (by kernel_rfl) rfl (by rw [HS.out]; kernel_rfl) ?_)
                  | (refine wpList_store_row rfl 41 _ _ rfl w.heap.size (pfx pf pl pa) rfl rfl 41 (pfx 0 0 zero16) oR12 (pfx_info HPA.out.1) (by rw [HS.out]; rfl) (pfx_one _ _ _) ?_))
                have hfin := Own.setRow (cs' := pfx pf pl pa) oR12
                exact bodyPost_ret (results_cell_tmp rfl _ _ w.heap.size 41 (pfx pf pl pa) _ rfl hfin pfx_desc rfl (pfx_info HPA.out.1)) rfl ⟨pf, pl, pa, true, rfl, HPA.out, bl_setRow b12 (Nat.le_refl _), .inl ⟨rfl, hR.out⟩⟩
            · have q1 : (Z.toList == t.toList) = false := by
                rw [beq_eq_false_iff_ne]
                intro e
                rw [ByteArray.toList_eq, ByteArray.toList_eq] at e
                exact hT (ba_extP e)
              have hR := Lib.hid (show rParse t.data.toList = none by rw [hF.out, if_neg (fun h => hT (ba_extP h.1))])
              clear hF hT
              go_wp2_with (refine wpList_store_row rfl 41 _ _ rfl w.heap.size (pfx 0 0 zero16) rfl rfl 41 (pfx 0 0 zero16) oR11 (pfx_info rfl) rfl (pfx_one 0 0 zero16) ?_)
              have hfin := Own.setRow (cs' := pfx 0 0 zero16) oR11
              exact bodyPost_ret (results_cell_tmp rfl _ _ w.heap.size 41 (pfx 0 0 zero16) _ rfl hfin pfx_desc rfl (pfx_info rfl)) rfl ⟨0, 0, zero16, false, rfl, zero16_addr, bl_setRow b11 (Nat.le_refl _), .inr ⟨rfl, hR.out, rfl, rfl, rfl⟩⟩
          · have e2 : ((m6 : Int) != 4) = true := by rw [bne_iff_ne]; omega
            have hR := Lib.hid (show rParse t.data.toList = none by rw [hP6.out, if_pos (.inr (by rw [← hL6.out]; exact hm4))])
            clear hB6 hP6 hNt hn hm4
            go_wp2_with (refine wpList_store_row rfl 41 _ _ rfl w.heap.size (pfx 0 0 zero16) rfl rfl 41 (pfx 0 0 zero16) o6 (pfx_info rfl) rfl (pfx_one 0 0 zero16) ?_)
            have hfin := Own.setRow (cs' := pfx 0 0 zero16) o6
            exact bodyPost_ret (results_cell_tmp rfl _ _ w.heap.size 41 (pfx 0 0 zero16) _ rfl hfin pfx_desc rfl (pfx_info rfl)) rfl ⟨0, 0, zero16, false, rfl, zero16_addr, bl_setRow b6 (Nat.le_refl _), .inr ⟨rfl, hR.out, rfl, rfl, rfl⟩⟩
  · have hR := Lib.hid (show rParse t.data.toList = none from rParse_len (by rw [← hW, List.length_map]; exact h2))
    obtain ⟨kw, hkw⟩ : ∃ kw, kw = Ws.length := ⟨_, rfl⟩
    rw [← hkw]
    have hn2 : ((kw : Int) != 2) = true := by rw [bne_iff_ne]; omega
    clear hs1 hW hl1 hz1 h2 hkw
    go_wp2_with (refine wpList_store_row rfl 41 _ _ rfl w.heap.size (pfx 0 0 zero16) rfl rfl 41 (pfx 0 0 zero16) o1 (pfx_info rfl) rfl (pfx_one 0 0 zero16) ?_)
    have hfin := Own.setRow (cs' := pfx 0 0 zero16) o1
    exact bodyPost_ret (results_cell_tmp rfl _ _ w.heap.size 41 (pfx 0 0 zero16) _ rfl hfin pfx_desc rfl (pfx_info rfl)) rfl ⟨0, 0, zero16, false, rfl, zero16_addr, bl_setRow b1 (Nat.le_refl _), .inr ⟨rfl, hR.out, rfl, rfl, rfl⟩⟩
end Go.Proofs.YtecbbjdcnlocdaaDoor

/- texts of prefixes are read back by the reference (no memory) -/
namespace Go.Proofs.YtecbbjdcnlocdaaDoor
open Go.RowKit Go.Sort
theorem valP_dig : ∀ d, d < 10 → valP (UInt8.ofNat (48 + d)) = (d : Int) := by decide +kernel
theorem valP_hex : ∀ d, d < 16 → valP (hexD d) = (d : Int) := by decide +kernel
theorem rnumG_step {B T n : Int} {fl : Bool} {c : UInt8} {r : List UInt8} (h1 : ¬ B ≤ valP c) (h2 : ¬ T < n * B + valP c) (h3 : fl = true → ¬ n * B + valP c < B) : rnumG B T n fl (c :: r) = rnumG B T (n * B + valP c) true r := by
  rw [rnumG, if_neg h1, if_neg (fun h => h.elim h2 (fun h => h3 h.1 h.2))]
theorem rnum_decG (T : Int) : ∀ (x : Nat) (r : List UInt8), (x : Int) ≤ T → rnumG 10 T 0 false (Lib.decDigits x ++ r) = rnumG 10 T (x : Int) true r := by
  intro x
  induction x using Nat.strongRecOn with
  | ind x ih =>
    intro r hx
    rw [Lib.decDigits]
    by_cases h : x < 10
    · rw [dif_pos h]
      show rnumG 10 T 0 false (UInt8.ofNat (48 + x) :: r) = _
      rw [rnumG_step (by rw [valP_dig x h]; omega) (by rw [valP_dig x h]; omega) (fun h => by cases h), valP_dig x h]
      congr 1; omega
    · rw [dif_neg h, List.append_assoc, ih (x / 10) (by omega) _ (by omega)]
      show rnumG 10 T ((x / 10 : Nat) : Int) true (UInt8.ofNat (48 + x % 10) :: r) = _
      have hv := valP_dig (x % 10) (by omega)
      rw [rnumG_step (by rw [hv]; omega) (by rw [hv]; omega) (fun _ => by rw [hv]; omega), hv]
      congr 1; omega
theorem rnum_hexG (T : Int) : ∀ (x : Nat) (r : List UInt8), (x : Int) ≤ T → rnumG 16 T 0 false (hexS x ++ r) = rnumG 16 T (x : Int) true r := by
  intro x
  induction x using Nat.strongRecOn with
  | ind x ih =>
    intro r hx
    rw [hexS]
    by_cases h : x < 16
    · rw [if_pos h]
      show rnumG 16 T 0 false (hexD x :: r) = _
      rw [rnumG_step (by rw [valP_hex x h]; omega) (by rw [valP_hex x h]; omega) (fun h => by cases h), valP_hex x h]
      congr 1; omega
    · rw [if_neg h, List.append_assoc, ih (x / 16) (by omega) _ (by omega)]
      show rnumG 16 T ((x / 16 : Nat) : Int) true (hexD (x % 16) :: r) = _
      have hv := valP_hex (x % 16) (by omega)
      rw [rnumG_step (by rw [hv]; omega) (by rw [hv]; omega) (fun _ => by rw [hv]; omega), hv]
      congr 1; omega
theorem rnum_dec {T : Int} {x : Nat} (hx : (x : Int) ≤ T) : rnum 10 T (Lib.decDigits x) = (x : Int) := by
  unfold rnum
  rw [if_neg (dec_ne x)]
  have := rnum_decG T x [] hx
  rw [List.append_nil] at this
  rw [this]; rfl
theorem rnum_hex {T : Int} {x : Nat} (hx : (x : Int) ≤ T) : rnum 16 T (hexS x) = (x : Int) := by
  unfold rnum
  rw [if_neg (hexS_ne x)]
  have := rnum_hexG T x [] hx
  rw [List.append_nil] at this
  rw [this]; rfl
theorem raddr_dec : ∀ (ns : List Nat), (∀ n ∈ ns, n ≤ 255) → raddr 10 255 (ns.map Lib.decDigits) = some (ns.map fun n : Nat => (n : Int))
  | [], _ => rfl
  | n :: ns, h => by
    have hn := h n (by simp)
    rw [List.map_cons, raddr, rnum_dec (by omega), if_neg (by omega), raddr_dec ns (fun m hm => h m (List.mem_cons_of_mem _ hm)), if_neg (by omega)]
    show some ([(n : Int) % 256] ++ _) = _
    rw [show (n : Int) % 256 = (n : Int) by omega]
    rfl
theorem raddr_hex : ∀ (ns : List Nat), (∀ n ∈ ns, n ≤ 65535) → raddr 16 65535 (ns.map hexS) = some (ns.flatMap fun n : Nat => digitsOf 2 (n : Int))
  | [], _ => rfl
  | n :: ns, h => by
    have hn := h n (by simp)
    rw [List.map_cons, raddr, rnum_hex (by omega), if_neg (by omega), raddr_hex ns (fun m hm => h m (List.mem_cons_of_mem _ hm)), if_pos (by omega)]
    show some ([(n : Int) / 256 % 256] ++ [(n : Int) % 256] ++ _) = _
    rw [List.flatMap_cons, digitsOf_2]
    rfl
theorem rfam4 {a : List Int} (ha : IsAddr a) : rfam (joinB (words10 a 4) [46]).data.toList = (1, some (a.take 4)) := by
  obtain ⟨x0, x1, x2, x3, x4, x5, x6, x7, x8, x9, x10, x11, x12, x13, x14, x15, rfl⟩ := list16 ha.1
  have hr := ha.2
  have h0 := hr x0 (by simp)
  have h1 := hr x1 (by simp)
  have h2 := hr x2 (by simp)
  have h3 := hr x3 (by simp)
  have e : (joinB (words10 [x0, x1, x2, x3, x4, x5, x6, x7, x8, x9, x10, x11, x12, x13, x14, x15] 4) [46]).data.toList = Lib.join ([x0.toNat, x1.toNat, x2.toNat, x3.toNat].map Lib.decDigits) [46] := by
    rw [joinB_list]
    unfold words10
    simp [decB_list]
  rw [e]
  have hfree : ∀ (c : UInt8), (c.toNat < 48 ∨ 57 < c.toNat) → ∀ y ∈ [x0.toNat, x1.toNat, x2.toNat, x3.toNat].map Lib.decDigits, c ∉ y := fun c hc y hy hcy => by
    obtain ⟨n, _, rfl⟩ := List.mem_map.1 hy
    have := dec_mem n c hcy
    omega
  have h58 : (58 : UInt8) ∉ Lib.join ([x0.toNat, x1.toNat, x2.toNat, x3.toNat].map Lib.decDigits) [46] := fun hm => by
    rcases join_mem _ hm with h | ⟨y, hy, hc⟩
    · exact absurd h (by decide)
    · exact hfree 58 (by decide) y hy hc
  unfold rfam
  rw [split_free 58 _ h58, if_neg (by simp)]
  have hsp := split_join 46 (Lib.decDigits x0.toNat) [Lib.decDigits x1.toNat, Lib.decDigits x2.toNat, Lib.decDigits x3.toNat] (hfree 46 (by decide))
  show (1, raddr 10 255 (Lib.split (Lib.join [Lib.decDigits x0.toNat, Lib.decDigits x1.toNat, Lib.decDigits x2.toNat, Lib.decDigits x3.toNat] [46]) [46])) = _
  rw [hsp]
  have hd := raddr_dec [x0.toNat, x1.toNat, x2.toNat, x3.toNat] (fun n hn => by
    simp only [List.mem_cons, List.not_mem_nil, or_false] at hn
    rcases hn with rfl | rfl | rfl | rfl <;> omega)
  show (1, raddr 10 255 ([x0.toNat, x1.toNat, x2.toNat, x3.toNat].map Lib.decDigits)) = _
  rw [hd]
  simp only [List.map_cons, List.map_nil, Int.toNat_of_nonneg h0.1, Int.toNat_of_nonneg h1.1, Int.toNat_of_nonneg h2.1, Int.toNat_of_nonneg h3.1]
  rfl
theorem rfam6 {a : List Int} (ha : IsAddr a) : rfam (joinB (words16 a 8) [58]).data.toList = (2, some a) := by
  have hw : ∀ i, i < 8 → word16 a i ≤ 65535 ∧ digitsOf 2 (word16 a i : Int) = [nth a (2 * i), nth a (2 * i + 1)] := fun i hi => by
    have h1 := word16_le ha hi
    have h2 := (ha.at_ (i := 2 * i) (by omega)).2
    have h3 := (ha.at_ (i := 2 * i + 1) (by omega)).2
    refine ⟨h1.1, ?_⟩
    rw [h1.2, digitsOf_2]
    simp only [List.cons.injEq, and_true]
    omega
  have e : (joinB (words16 a 8) [58]).data.toList = Lib.join (((List.range 8).map (word16 a)).map hexS) [58] := by
    rw [joinB_list]
    unfold words16
    rw [List.map_map, List.map_map]
    congr 1
  rw [e]
  have hfree : ∀ (c : UInt8), (¬ (48 ≤ c.toNat ∧ c.toNat ≤ 57) ∧ ¬ (97 ≤ c.toNat ∧ c.toNat ≤ 102)) → ∀ y ∈ ((List.range 8).map (word16 a)).map hexS, c ∉ y := fun c hc y hy hcy => by
    obtain ⟨n, _, rfl⟩ := List.mem_map.1 hy
    have := hexS_mem n c hcy
    omega
  have hr8 : List.range 8 = [0, 1, 2, 3, 4, 5, 6, 7] := by decide
  rw [hr8] at hfree ⊢
  have hsp := split_join 58 (hexS (word16 a 0)) ([1, 2, 3, 4, 5, 6, 7].map (fun i => hexS (word16 a i))) (hfree 58 (by decide))
  have hnm := raddr_hex ([0, 1, 2, 3, 4, 5, 6, 7].map (word16 a)) (fun n hn => by
    obtain ⟨i, hi, rfl⟩ := List.mem_map.1 hn
    refine (hw i ?_).1
    simp only [List.mem_cons, List.not_mem_nil, or_false] at hi
    omega)
  unfold rfam
  have hsp2 : Lib.split (Lib.join (([0, 1, 2, 3, 4, 5, 6, 7].map (word16 a)).map hexS) [58]) [58] = ([0, 1, 2, 3, 4, 5, 6, 7].map (word16 a)).map hexS := hsp
  rw [hsp2, if_pos (by simp), hnm]
  simp only [List.map_cons, List.map_nil, List.flatMap_cons, List.flatMap_nil]
  rw [(hw 0 (by omega)).2, (hw 1 (by omega)).2, (hw 2 (by omega)).2, (hw 3 (by omega)).2, (hw 4 (by omega)).2, (hw 5 (by omega)).2, (hw 6 (by omega)).2, (hw 7 (by omega)).2]
  obtain ⟨x0, x1, x2, x3, x4, x5, x6, x7, x8, x9, x10, x11, x12, x13, x14, x15, rfl⟩ := list16 ha.1
  rfl
/-- The text of a valid prefix is parsed to it by the reference. -/
theorem rParse_text {f l : Int} {a : List Int} (ha : IsAddr a) (hk : pfxOk f l a = true) : rParse (ptxt f l a).data.toList = some (f, l, a) := by
  obtain ⟨hf, hm⟩ := pOk_fam hk
  have hl := pfxOk_range hk
  have hO : ptxtO f l a = ptxt f l a := if_pos hk
  have hlen : lenOk f l = true := by unfold pfxOk at hk; rw [Bool.and_eq_true] at hk; exact hk.1
  have key : ∀ (J : ByteArray) (xs : List Int), ptxt f l a = J ++ ⟨#[47]⟩ ++ decB l → rfam J.data.toList = (f, some xs) → (47 : UInt8) ∉ J.data.toList → (f = 1 → xs.length = 4) → makeOk f l xs.length = true → padTo xs = a → rParse (ptxt f l a).data.toList = some (f, l, a) := fun J xs e1 h1 h2 h4 h3 h5 => by
    have e2 : (ptxt f l a).data.toList = J.data.toList ++ 47 :: Lib.decDigits l.toNat := by
      rw [e1, ← decB_list]; simp
    have e3 : Lib.split (ptxt f l a).data.toList [47] = [J.data.toList, Lib.decDigits l.toNat] := by
      rw [e2, split_hit 47 _ _ h2, split_free 47 _ (fun h => by have := dec_mem l.toNat 47 h; simp at this)]
    unfold rParse
    rw [e3]
    show (rfam J.data.toList).2.bind _ = _
    rw [h1]
    show (if rnum 10 128 (Lib.decDigits l.toNat) < 0 ∨ (f = 1 ∧ xs.length ≠ 4) then none else rfin (ptxt f l a).data.toList f (rnum 10 128 (Lib.decDigits l.toNat)) xs) = _
    rw [rnum_dec (by omega), Int.toNat_of_nonneg hl.1, if_neg (fun h => by
      rcases h with h | h
      · omega
      · exact h.2 (h4 h.1))]
    unfold rfin
    rw [if_pos h3, h5, hm, hO, if_pos ⟨rfl, hk⟩]
  rcases hf with ⟨rfl, h1, h2⟩ | ⟨rfl, h1, h2⟩
  · refine key _ (a.take 4) (by unfold ptxt; rw [if_pos rfl]; rfl) (rfam4 ha) (addr4 ha).2 (fun _ => by rw [List.length_take, ha.1]; rfl) ?_ ?_
    · unfold makeOk
      rw [hlen, List.length_take, ha.1]
      rfl
    · have z : ∀ i, 4 ≤ i → i < 16 → nth a i = 0 := fun i h4 h16 => mask_tail ha hm h16 (by omega)
      obtain ⟨x0, x1, x2, x3, x4, x5, x6, x7, x8, x9, x10, x11, x12, x13, x14, x15, rfl⟩ := list16 ha.1
      have z4 : x4 = 0 := z 4 (by omega) (by omega)
      have z5 : x5 = 0 := z 5 (by omega) (by omega)
      have z6 : x6 = 0 := z 6 (by omega) (by omega)
      have z7 : x7 = 0 := z 7 (by omega) (by omega)
      have z8 : x8 = 0 := z 8 (by omega) (by omega)
      have z9 : x9 = 0 := z 9 (by omega) (by omega)
      have z10 : x10 = 0 := z 10 (by omega) (by omega)
      have z11 : x11 = 0 := z 11 (by omega) (by omega)
      have z12 : x12 = 0 := z 12 (by omega) (by omega)
      have z13 : x13 = 0 := z 13 (by omega) (by omega)
      have z14 : x14 = 0 := z 14 (by omega) (by omega)
      have z15 : x15 = 0 := z 15 (by omega) (by omega)
      rw [z4, z5, z6, z7, z8, z9, z10, z11, z12, z13, z14, z15]
      rfl
  · refine key _ a (by unfold ptxt; rw [if_neg (by decide)]; rfl) (rfam6 ha) (addr6 ha).2 (fun h => absurd h (by decide)) ?_ ?_
    · unfold makeOk
      rw [hlen, ha.1]
      rfl
    · unfold padTo
      rw [ha.1]
      show a ++ List.replicate 0 0 = a
      rw [List.replicate_zero, List.append_nil]
/-- What the reference parses is valid and has that text. -/
theorem rParse_says {s : List UInt8} {f l : Int} {a : List Int} (h : rParse s = some (f, l, a)) : (ptxtO f l a).data.toList = s ∧ pfxOk f l a = true := by
  unfold rParse at h
  split at h
  · obtain ⟨b, _, h⟩ := Option.bind_eq_some_iff.1 h
    split at h
    · cases h
    · unfold rfin at h
      split at h
      · split at h
        · rename_i e
          have h2 := Option.some.inj h
          injection h2 with h3 h4
          injection h4 with h5 h6
          rw [h6, h3, h5] at e
          exact e
        · cases h
      · cases h
  · cases h
end Go.Proofs.YtecbbjdcnlocdaaDoor

/- PrefixParses: the walk -/
namespace Go.Proofs.YtecbbjdcnlocdaaDoor
open Go.RowKit Go.Sort
set_option maxRecDepth 100000 in
theorem pparses_long (t : ByteArray) (w : World) (ht : Tens w) (hn : 200 < t.size) :
    Calls Tryd.prog 6 #[.string t] w fun e w' => e = .returned (.bool true) ∧ Below w.heap.size w w' := by
  have hi : (200 : Int) < (t.size : Int) := by omega
  go_enter Tryd.func6, Tryd.ntmps6
  go_wp2_with fail
  refine (alive2_any _ ht).mono ?_
  rintro e w1 ⟨rfl, hb1⟩
  go_wp2
  go_ret
  exact ⟨rfl, hb1⟩
/-- Both ends parse alike. -/
theorem pparse_same {s : List UInt8} {f l : Int} {a : List Int} {q : Bool} {f' l' : Int} {a' : List Int} {q' : Bool} (ha : IsAddr a) (ha' : IsAddr a')
    (h : (q = true ∧ pParse s = some (f, l, a)) ∨ (q = false ∧ pParse s = none ∧ f = 0 ∧ l = 0 ∧ a = zero16)) (h' : (q' = true ∧ rParse s = some (f', l', a')) ∨ (q' = false ∧ rParse s = none ∧ f' = 0 ∧ l' = 0 ∧ a' = zero16)) :
    q' = q ∧ f' = f ∧ l' = l ∧ a' = a := by
  rcases h with ⟨rfl, h⟩ | ⟨rfl, h, rfl, rfl, rfl⟩
  · have hs := pParse_says h
    have hk : pfxOk f l a = true := by
      cases hk : pfxOk f l a with
      | true => rfl
      | false =>
        exfalso
        unfold ptxtO at hs
        rw [hk, if_neg (by simp)] at hs
        rw [← hs] at h
        have h2 : pParse [] = some (f, l, a) := h
        rw [pParse_nil] at h2
        cases h2
    have hO : ptxtO f l a = ptxt f l a := if_pos hk
    rw [hO] at hs
    have h3 := rParse_text ha hk
    rw [hs] at h3
    rcases h' with ⟨rfl, h'⟩ | ⟨_, h', _⟩
    · rw [h3] at h'
      have e := Option.some.inj h'
      injection e with e1 e2
      injection e2 with e3 e4
      exact ⟨rfl, e1.symm, e3.symm, e4.symm⟩
    · rw [h3] at h'; cases h'
  · rcases h' with ⟨rfl, h'⟩ | ⟨rfl, _, rfl, rfl, rfl⟩
    · obtain ⟨hs, hk⟩ := rParse_says h'
      have hO : ptxtO f' l' a' = ptxt f' l' a' := if_pos hk
      rw [hO] at hs
      have h3 := pParse_text ha' hk
      rw [hs, h] at h3
      cases h3
    · exact ⟨rfl, rfl, rfl, rfl⟩
set_option maxRecDepth 100000 in
set_option maxHeartbeats 3200000 in
theorem pparses_short (t : ByteArray) (w : World) (hn : t.size ≤ 200) (ht : Tens w) (hbn : Brn w) (hz : PuOk w) :
    Calls Tryd.prog 6 #[.string t] w fun e w' => e = .returned (.bool true) ∧ Below w.heap.size w w' := by
  have hi : ¬ (200 : Int) < (t.size : Int) := by omega
  have hC1 := Lib.hid (pparse_any t (by omega) w hz ht hbn)
  have hC2 := Lib.hid (fun W => rpparse_any t (by omega) W)
  have hz18 : #[.int .i64 0, .int .i64 0, .int .u8 0, .int .u8 0, .int .u8 0, .int .u8 0, .int .u8 0, .int .u8 0, .int .u8 0, .int .u8 0, .int .u8 0, .int .u8 0, .int .u8 0, .int .u8 0, .int .u8 0, .int .u8 0, .int .u8 0, .int .u8 0] = pfx 0 0 zero16 := pfx_zero.symm
  have hA := Lib.hid (fun W (h : Below w.heap.size w W) => alive2_any W (ht.below h))
  have hTB := Lib.hid (fun W (h : Below w.heap.size w W) => And.intro (ht.below h) (hbn.below h))
  clear hn ht hbn hz
  go_enter Tryd.func6, Tryd.ntmps6
  go_wp2_with fail
  refine hC1.out.mono ?_
  rintro e w1 ⟨f, l, a, q, rfl, ha, hb1, hc1⟩
  have HS := Lib.hid (pfx_size (f := f) (l := l) ha.1)
  have HA := Lib.hid ha
  have HC := Lib.hid hc1
  have s1 := hb1.size
  have oN1 := Own.new w1 41 (pfx 0 0 zero16)
  have oV1 := Own.setRow (cs' := pfx f l a) oN1
  have bV1 := bl_setRow (cs := pfx f l a) (hb1.alloc s1 (.cells (pfx 0 0 zero16) 41)) s1
  clear ha hc1 hb1
  go_wp2_with (refine wpList_store_row rfl 41 _ _ rfl w1.heap.size (pfx f l a) rfl rfl 41 (pfx 0 0 zero16) oN1 (pfx_info HA.out.1) (by rw [HS.out]; rfl) (pfx_one _ _ _) ?_)
  generalize (w1.alloc (.cells (pfx 0 0 zero16) 41)).setRow w1.heap.size (pfx f l a) = w2 at *
  clear oN1
  refine (hC2.out w2).mono ?_
  rintro e w3 ⟨f', l', a', q', rfl, ha', hb3, hc3⟩
  obtain ⟨rfl, rfl, rfl, rfl⟩ := pparse_same HA.out ha' HC.out hc3
  have oV3 := oV1.step hb3
  have b3 := bl_trans bV1 hb3
  have s3 := b3.size
  have oN3 := Own.new w3 41 (pfx 0 0 zero16)
  have lt3 := oV3.lt
  have oX4 := Own.setRow (cs' := pfx f' l' a') oN3
  have oV4 := (Rest.setRowP (w3.alloc (.cells (pfx 0 0 zero16) 41)) w3.heap.size (pfx f' l' a')).own (oV3.alloc (.cells (pfx 0 0 zero16) 41)) (fun e => by omega)
  have b4 := bl_setRow (cs := pfx f' l' a') (b3.alloc s3 (.cells (pfx 0 0 zero16) 41)) s3
  clear oV1 bV1 hb3 hc3 ha' oV3 b3
  go_wp2_with (refine wpList_store_row rfl 41 _ _ rfl w3.heap.size (pfx f' l' a') rfl rfl 41 (pfx 0 0 zero16) oN3 (pfx_info HA.out.1) (by rw [HS.out]; rfl) (pfx_one _ _ _) ?_)
  generalize (w3.alloc (.cells (pfx 0 0 zero16) 41)).setRow w3.heap.size (pfx f' l' a') = w4 at *
  clear oN3
  have hAl := Lib.hid (hA.out w4 b4)
  have heq := fun W => eql_pfx_same (f := f') (l := l') HA.out W
  cases q'
  · clear HC
    refine hAl.out.mono ?_
    rintro e w5 ⟨rfl, hb5⟩
    have oV5 := oV4.step hb5
    have oX5 := oX4.step hb5
    have b5 := bl_trans b4 hb5
    clear oV4 oX4 b4 hb5 hAl
    go_wp2_with (first
      | (refine wpList_load_row_on (by rfl) 41 _ rfl w1.heap.size rfl 41 (pfx f' l' a') (.struct (Tryd.prog.fieldsOf 41)) oV5 (by kernel_rfl) rfl (by rw [HS.out]; kernel_rfl) ?_)
      | (refine wpList_load_row_on (by rfl) 41 _ rfl w3.heap.size rfl 41 (pfx f' l' a') (.struct (Tryd.prog.fieldsOf 41)) oX5 (by kernel_rfl) rfl (by rw [HS.out]; kernel_rfl) ?_))
    go_ret
    exact ⟨rfl, b5⟩
  · have hsy : ptxtO f' l' a' = t := by
      rcases HC.out with ⟨_, h⟩ | ⟨h, _⟩
      · exact ba_extP (pParse_says h)
      · cases h
    have HY := Lib.hid hsy
    clear HC hsy
    refine hAl.out.mono ?_
    rintro e w5 ⟨rfl, hb5⟩
    have oV5 := oV4.step hb5
    have oX5 := oX4.step hb5
    have b5 := bl_trans b4 hb5
    have hTx := Lib.hid (show Calls Tryd.prog 23 #[.agg (pfx f' l' a')] w5 fun e w' => e = .returned (.string t) ∧ Below w5.heap.size w5 w' by
      have := ptext_any f' l' a' w5 HA.out (hTB.out w5 b5).1 (hTB.out w5 b5).2
      rw [HY.out] at this
      exact this)
    clear oV4 oX4 b4 hb5 hAl
    go_wp2_with (first
      | (refine wpList_load_row_on (by rfl) 41 _ rfl w1.heap.size rfl 41 (pfx f' l' a') (.struct (Tryd.prog.fieldsOf 41)) oV5 (by kernel_rfl) rfl (by rw [HS.out]; kernel_rfl) ?_)
      | (refine wpList_load_row_on (by rfl) 41 _ rfl w3.heap.size rfl 41 (pfx f' l' a') (.struct (Tryd.prog.fieldsOf 41)) oX5 (by kernel_rfl) rfl (by rw [HS.out]; kernel_rfl) ?_))
    refine hTx.out.mono ?_
    rintro e w6 ⟨rfl, hb6⟩
    have b6 := bl_trans b5 hb6
    go_wp2
    go_ret
    exact ⟨rfl, b6⟩
set_option maxRecDepth 100000 in
theorem pparses_all (t : ByteArray) (w : World) (ht : Tens w) (hbn : Brn w) (hz : PuOk w) :
    Calls Tryd.prog 6 #[.string t] w fun e w' => e = .returned (.bool true) ∧ Below w.heap.size w w' := by
  by_cases hn : t.size ≤ 200
  · exact pparses_short t w hn ht hbn hz
  · exact pparses_long t w ht (by omega)
end Go.Proofs.YtecbbjdcnlocdaaDoor
