/- SegmentReads: the walk -/
import Derived.Test.YtmcmhljonkijjabDoorSgRc
import Derived.Test.YtmcmhljonkijjabDoorSgRd
import Derived.Test.YtmcmhljonkijjabDoorSgR
import Derived.Test.YtmcmhljonkijjabDoorSgL
namespace Go.Proofs.YtmcmhljonkijjabDoor
open Go.RowKit Go.Sort

set_option maxRecDepth 100000 in
theorem segread_long (wd : Int) (A : Option Addr) (n c : Nat) (w : World) (ht : Tens w) (hbk : Brk w) (hn : 600 < n) :
    Calls Tryd.prog 4 #[.int .i64 wd, .slice A n c] w fun e w' => e = .returned (.bool true) ∧ Below w.heap.size w w' := by
  have hA := Lib.hid (alive06_any w ht hbk)
  have hi : (600 : Int) < (n : Int) := by omega
  go_enter Tryd.func4, Tryd.ntmps4
  go_wp2_with fail
  refine hA.out.mono ?_
  rintro e w' ⟨rfl, hb⟩
  go_wp2
  go_ret
  exact ⟨rfl, hb⟩
theorem got_none {q : Bool} {L : List Sg} (h : Got none q L) : q = false ∧ L = [] := by
  rcases h.1 with h | h
  · cases h.1
  · exact h.2
theorem got_some {out : List (Int × List Int)} {q : Bool} {L : List Sg} (h : Got (some out) q L) : q = true ∧ L.map sgK = out := by
  rcases h.1 with h | h
  · exact ⟨h.2, (Option.some.inj h.1).symm⟩
  · cases h.1
set_option maxRecDepth 100000 in
set_option maxHeartbeats 3200000 in
theorem segread_none (wd : Int) (A : Option Addr) (n c : Nat) (w : World) (hn : n ≤ 600)
    (hS : Hid (∀ W, Below w.heap.size w W → Calls Tryd.prog 18 #[.int .i64 wd, .slice A n c] W (GotR W none)))
    (hR : Hid (∀ W, Below w.heap.size w W → Calls Tryd.prog 19 #[.int .i64 wd, .slice A n c] W (GotR W none)))
    (hB : Hid (∀ W A c, Segs W W.heap.size A 0 [] → Calls Tryd.prog 15 #[.int .i64 wd, .slice A 0 c] W fun e w' => ∃ B m k p, e = .returned (.tuple #[.slice B m k, .bool p]) ∧ Below W.heap.size W w'))
    (hA : Hid (∀ W, Below w.heap.size w W → Calls Tryd.prog 12 #[] W fun e w' => e = .returned (.bool true) ∧ Below W.heap.size W w')) :
    Calls Tryd.prog 4 #[.int .i64 wd, .slice A n c] w fun e w' => e = .returned (.bool true) ∧ Below w.heap.size w w' := by
  have hi : ¬ (600 : Int) < (n : Int) := by omega
  have hQ := Lib.hid (fun (W : World) (A1 A2 : Option Addr) (c1 c2 : Nat) (h1 : Segs W W.heap.size A1 0 []) (h2 : Segs W W.heap.size A2 0 []) => (rsameS_any A1 A2 0 0 c1 c2 [] [] W _ _ h1 h2 (by omega) (by omega) (fun _ h => by cases h) (fun _ h => by cases h)))
  rw [decide_eq_true rfl] at hQ
  go_enter Tryd.func4, Tryd.ntmps4
  go_wp2_with fail
  refine (hS.out _ (bl_refl w)).mono ?_
  rintro e w1 ⟨v1, L1, q1, rfl, hr1, hg1, hb1⟩
  obtain ⟨rfl, rfl⟩ := got_none hg1.out
  obtain ⟨A1, c1, rfl, hs1⟩ := hr1.segs
  have HS1 := Lib.hid hs1
  clear hr1 hs1 hg1
  dsimp only [List.length_nil] at *
  go_wp2_with fail
  refine (hR.out _ hb1).mono ?_
  rintro e w2 ⟨v2, L2, q2, rfl, hr2, hg2, hb2⟩
  obtain ⟨rfl, rfl⟩ := got_none hg2.out
  obtain ⟨A2, c2, rfl, hs2⟩ := hr2.segs
  have HS2 := Lib.hid hs2
  have hB2 := bl_trans hb1 hb2
  have HS1' := Lib.hid ((HS1.out.below hb2).more hb2.size)
  clear hr2 hs2 hg2 hb1 hb2
  dsimp only [List.length_nil] at *
  go_wp2_with fail
  refine (hB.out _ _ _ HS1'.out).mono ?_
  rintro e w3 ⟨B3, m3, k3, p3, rfl, hb3⟩
  have hB3 := bl_trans hB2 hb3
  go_wp2_with fail
  refine (hA.out _ hB3).mono ?_
  rintro e w4 ⟨rfl, hb4⟩
  have hB4 := bl_trans hB3 hb4
  have hc4 := bl_trans hb3 hb4
  have hQ2 := Lib.hid (hQ.out w4 A1 A2 c1 c2 ((HS1'.out.below hc4).more hc4.size) ((HS2.out.below hc4).more hc4.size))
  go_wp2_with fail
  refine hQ2.out.mono ?_
  rintro e w' ⟨rfl, m, rfl⟩
  have hB5 := bl_drewN hB4 m
  go_wp2
  go_ret
  exact ⟨rfl, hB5⟩
set_option maxRecDepth 100000 in
set_option maxHeartbeats 3200000 in
theorem segread_some (wd : Int) (out : List (Int × List Int)) (A : Option Addr) (n c : Nat) (xs : List Int) (w : World) (hx : Bytes w w.heap.size A n xs) (hn : n ≤ 600)
    (hS : Hid (∀ W, Below w.heap.size w W → Calls Tryd.prog 18 #[.int .i64 wd, .slice A n c] W (GotR W (some out))))
    (hR : Hid (∀ W, Below w.heap.size w W → Calls Tryd.prog 19 #[.int .i64 wd, .slice A n c] W (GotR W (some out))))
    (hB : Hid (∀ W A c L, L.map sgK = out → (∀ s ∈ L, s.n = s.xs.length) → L.length ≤ 600 → Segs W W.heap.size A L.length L → Calls Tryd.prog 15 #[.int .i64 wd, .slice A L.length c] W fun e w' => ∃ g, e = .returned (.tuple #[.slice (some ⟨g, 0, none⟩) xs.length xs.length, .bool true]) ∧ Own w' g 5 (xs.map (Value.int .u8)).toArray ∧ Below W.heap.size W w'))
    (hA : Hid (∀ W, Below w.heap.size w W → Calls Tryd.prog 12 #[] W fun e w' => e = .returned (.bool true) ∧ Below W.heap.size W w')) :
    Calls Tryd.prog 4 #[.int .i64 wd, .slice A n c] w fun e w' => e = .returned (.bool true) ∧ Below w.heap.size w w' := by
  have hi : ¬ (600 : Int) < (n : Int) := by omega
  have HX := Lib.hid hx
  have hE := Lib.hid (fun (W : World) (g : Nat) (o : Own W g 5 (xs.map (Value.int .u8)).toArray) (hb : Below w.heap.size w W) => bytesEq_any (some ⟨g, 0, none⟩) A xs.length n xs.length c xs xs W _ _ (Bytes.of_owned o hx.2.1 o.lt) (hx.below hb) (by have := hx.1; omega) (by omega))
  rw [decide_eq_true rfl] at hE
  clear hx
  go_enter Tryd.func4, Tryd.ntmps4
  go_wp2_with fail
  refine (hS.out _ (bl_refl w)).mono ?_
  rintro e w1 ⟨v1, L1, q1, rfl, hr1, hg1, hb1⟩
  obtain ⟨rfl, hm1⟩ := got_some hg1.out
  have HM1 := Lib.hid hm1
  have HD1 := Lib.hid hg1.out.2
  have HL1 := Lib.hid (fun s hs => (hr1.2 s hs).2.1)
  obtain ⟨A1, c1, rfl, hs1⟩ := hr1.segs
  have HS1 := Lib.hid hs1
  clear hr1 hs1 hg1 hm1
  go_wp2_with fail
  refine (hR.out _ hb1).mono ?_
  rintro e w2 ⟨v2, L2, q2, rfl, hr2, hg2, hb2⟩
  obtain ⟨rfl, hm2⟩ := got_some hg2.out
  have HM2 := Lib.hid hm2
  have HD2 := Lib.hid hg2.out.2
  obtain ⟨A2, c2, rfl, hs2⟩ := hr2.segs
  have HS2 := Lib.hid hs2
  have hB2 := bl_trans hb1 hb2
  have HS1' := Lib.hid ((HS1.out.below hb2).more hb2.size)
  have hBy := Lib.hid (hB.out w2 A1 c1 L1 HM1.out HL1.out HD1.out.1 HS1'.out)
  clear hr2 hs2 hg2 hb1 hb2 hm2
  go_wp2_with fail
  refine hBy.out.mono ?_
  rintro e w3 ⟨g, rfl, o3, hb3⟩
  have hB3 := bl_trans hB2 hb3
  go_wp2_with fail
  refine (hA.out _ hB3).mono ?_
  rintro e w4 ⟨rfl, hb4⟩
  have hB4 := bl_trans hB3 hb4
  have hc4 := bl_trans hb3 hb4
  have o4 := o3.step hb4
  have hQ2 := Lib.hid (rsameS_any A1 A2 L1.length L2.length c1 c2 L1 L2 w4 _ _ (HS1'.out.below hc4) (HS2.out.below hc4) (by have := HD1.out.1; omega) (by have := HD2.out.1; omega) HD1.out.2 HD2.out.2)
  rw [decide_eq_true (HM1.out.trans HM2.out.symm)] at hQ2
  go_wp2_with fail
  refine hQ2.out.mono ?_
  rintro e w' ⟨rfl, m, rfl⟩
  have hB5 := bl_drewN hB4 m
  have o5 := o4.drewN m
  have hE2 := Lib.hid (hE.out _ g o5 hB5)
  go_wp2_with fail
  refine hE2.out.mono ?_
  rintro e w' ⟨rfl, m2, rfl⟩
  have hB6 := bl_drewN hB4 (m + m2)
  go_wp2
  go_ret
  exact ⟨rfl, hB6⟩
set_option maxRecDepth 100000 in
theorem sread_bad (wd : Int) (hw : ¬ (wd = 2 ∨ wd = 4)) (A : Option Addr) (n c : Nat) (w : World) : Calls Tryd.prog 18 #[.int .i64 wd, .slice A n c] w (GotR w none) := by
  have HW := Lib.hid (fun W => hasw_any wd W)
  rw [decide_eq_false hw] at HW
  have bB := bl_alloc (bl_refl w) (.cells #[.int .i64 wd] 3)
  clear hw
  go_enter Tryd.func18, Tryd.ntmps18
  go_wp2_with fail
  refine (HW.out _).mono ?_
  rintro e w' ⟨rfl, rfl⟩
  go_wp2
  go_ret2
  exact GotR.mk _ [] false rfl (SRow.nil _ _) (Lib.hid ⟨.inr ⟨rfl, rfl, rfl⟩, by simp, fun _ h => by cases h⟩) bB
set_option maxRecDepth 100000 in
theorem rread_bad6 (wd : Int) (hw : ¬ (wd = 2 ∨ wd = 4)) (A : Option Addr) (n c : Nat) (w : World) : Calls Tryd.prog 19 #[.int .i64 wd, .slice A n c] w (GotR w none) := by
  have e2 : (wd != 2) = true := by simp; omega
  have e4 : (wd != 4) = true := by simp; omega
  clear hw
  go_enter Tryd.func19, Tryd.ntmps19
  go_wp2
  go_ret2
  exact GotR.mk _ [] false rfl (SRow.nil _ _) (Lib.hid ⟨.inr ⟨rfl, rfl, rfl⟩, by simp, fun _ h => by cases h⟩) (bl_refl w)
set_option maxRecDepth 100000 in
theorem bytes_nil (wd : Int) (W : World) (A : Option Addr) (c : Nat) (h : Segs W W.heap.size A 0 []) : Calls Tryd.prog 15 #[.int .i64 wd, .slice A 0 c] W fun e w' => ∃ B m k p, e = .returned (.tuple #[.slice B m k, .bool p]) ∧ Below W.heap.size W w' := by
  by_cases hw : wd = 2 ∨ wd = 4
  · exact (sbytes_yes wd hw A 0 c [] W h (by omega) rfl).mono fun e w' ⟨g, he, _, _, hb⟩ => ⟨_, _, _, _, he, hb⟩
  · exact (sbytes_no wd A 0 c [] W h (by omega) (by rw [decide_eq_false hw]; rfl)).mono fun e w' ⟨he, hb⟩ => ⟨_, _, _, _, he, hb⟩
set_option maxRecDepth 100000 in
theorem bytes_back (K : Nat) (hK : K = 2 ∨ K = 4) (xs : List Int) (hb : byteL xs) (out : List (Int × List Int)) (ho : readS K (xs.length + 1) xs = some out) (W : World) (A : Option Addr) (c : Nat) (L : List Sg) (hm : L.map sgK = out) (hx : ∀ s ∈ L, s.n = s.xs.length) (hl : L.length ≤ 600) (h : Segs W W.heap.size A L.length L) :
    Calls Tryd.prog 15 #[.int .i64 (K : Int), .slice A L.length c] W fun e w' => ∃ g, e = .returned (.tuple #[.slice (some ⟨g, 0, none⟩) xs.length xs.length, .bool true]) ∧ Own w' g 5 (xs.map (Value.int .u8)).toArray ∧ Below W.heap.size W w' := by
  have hg : L.all (sgOk (K : Int)) = true := ok_of_good hx (by
    rw [hm]
    have := readS_good (wd := (K : Int)) (xs.length + 1) (ys := xs) (out := out) hb
    rw [Int.toNat_natCast] at this
    exact this ho)
  have hf : sgsForm K L = xs := by rw [sgsForm_k hx, hm]; exact readS_form hK _ hb ho
  have hy := sbytes_yes (K : Int) (by omega) A L.length c L W h (by omega) hg
  rw [Int.toNat_natCast, hf] at hy
  exact hy.mono fun e w' ⟨g, he, _, o, hb⟩ => ⟨g, he, o, hb⟩
set_option maxRecDepth 100000 in
theorem segread_K (K : Nat) (hK : K = 2 ∨ K = 4) (A : Option Addr) (n c : Nat) (xs : List Int) (w : World) (ht : Tens w) (hbk : Brk w) (hx : Bytes w w.heap.size A n xs) (hc : n ≤ c) (hn : n ≤ 600) :
    Calls Tryd.prog 4 #[.int .i64 (K : Int), .slice A n c] w fun e w' => e = .returned (.bool true) ∧ Below w.heap.size w w' := by
  have X : ∀ W, Below w.heap.size w W → Bytes W W.heap.size A n xs := fun W hb => (hx.below hb).more hb.size
  have hA : Hid (∀ W, Below w.heap.size w W → Calls Tryd.prog 12 #[] W fun e w' => e = .returned (.bool true) ∧ Below W.heap.size W w') := Lib.hid fun W hb => alive06_any W (ht.below hb) (hbk.below hb)
  have hS : ∀ O, readS K (xs.length + 1) xs = O → ∀ W, Below w.heap.size w W → Calls Tryd.prog 18 #[.int .i64 (K : Int), .slice A n c] W (GotR W O) := fun O hO W hb => sread_yes K hK A n c xs W (X W hb) hn O (Lib.hid hO)
  have hR : ∀ O, readS K (xs.length + 1) xs = O → ∀ W, Below w.heap.size w W → Calls Tryd.prog 19 #[.int .i64 (K : Int), .slice A n c] W (GotR W O) := fun O hO W hb => by
    rcases hK with rfl | rfl
    · exact rreadS_2 A n c xs W (X W hb) hc hn O (Lib.hid hO)
    · exact rreadS_4 A n c xs W (X W hb) hc hn O (Lib.hid hO)
  cases ho : readS K (xs.length + 1) xs with
  | none => exact segread_none (K : Int) A n c w hn (Lib.hid (hS none ho)) (Lib.hid (hR none ho)) (Lib.hid fun W A c h => bytes_nil (K : Int) W A c h) hA
  | some out => exact segread_some (K : Int) out A n c xs w hx hn (Lib.hid (hS _ ho)) (Lib.hid (hR _ ho)) (Lib.hid fun W A c L hm hl hz h => bytes_back K hK xs hx.2.1 out ho W A c L hm hl hz h) hA
set_option maxRecDepth 100000 in
theorem segread_all (wd : Int) (A : Option Addr) (n c : Nat) (xs : List Int) (w : World) (ht : Tens w) (hbk : Brk w) (hx : Bytes w w.heap.size A n xs) (hc : n ≤ c) :
    Calls Tryd.prog 4 #[.int .i64 wd, .slice A n c] w fun e w' => e = .returned (.bool true) ∧ Below w.heap.size w w' := by
  by_cases hn : n ≤ 600
  · by_cases hw : wd = 2 ∨ wd = 4
    · rcases hw with rfl | rfl
      · exact segread_K 2 (.inl rfl) A n c xs w ht hbk hx hc hn
      · exact segread_K 4 (.inr rfl) A n c xs w ht hbk hx hc hn
    · exact segread_none wd A n c w hn (Lib.hid fun W _ => sread_bad wd hw A n c W) (Lib.hid fun W _ => rread_bad6 wd hw A n c W) (Lib.hid fun W A c h => bytes_nil wd W A c h) (Lib.hid fun W hb => alive06_any W (ht.below hb) (hbk.below hb))
  · exact segread_long wd A n c w ht hbk (by omega)
end Go.Proofs.YtmcmhljonkijjabDoor
