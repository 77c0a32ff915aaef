/- peerageref08.Valid; AggregateWidths: the walk -/
import Derived.Test.YtkcejeogacobiaaDoorAgC
import Derived.Test.YtkcejeogacobiaaDoorAgD
import Derived.Test.YtkcejeogacobiaaDoorFew
namespace Go.Proofs.YtkcejeogacobiaaDoor
open Go.RowKit Go.Sort

theorem agval_num {wd : Int} {a : At} (h : agHnd wd a.k = true) (hN2 : a.N < 4294967296) : decide (a.N < 256 ^ (agSize wd a.k).toNat) = (decide (agSize wd a.k = 4) || decide (a.N ≤ 65535)) := by
  obtain ⟨s, h1, h2⟩ := agHnd_size h
  rw [h1, Int.toNat_natCast, Bool.eq_iff_iff]
  simp only [Bool.or_eq_true, decide_eq_true_eq]
  rcases h2 with rfl | rfl
  · have : (256 : Int) ^ 2 = 65536 := by decide
    constructor <;> omega
  · have : (256 : Int) ^ 4 = 4294967296 := by decide
    constructor <;> omega
set_option maxRecDepth 100000 in
set_option maxHeartbeats 1600000 in
theorem ragvalid_any (wd : Int) (a : At) (w : World) (hN2 : a.N < 4294967296) :
    Calls Tryd.prog 39 #[.int .i64 wd, .agg (atc a)] w fun e w' => e = .returned (.bool (agVal wd a)) ∧ Below w.heap.size w w' := by
  have hO : Hid (agVal wd a = (agHas a.k && decide (wd = 2 ∨ wd = 4) && bareB a && decide (a.N < 256 ^ (agSize wd a.k).toNat))) := Lib.hid rfl
  have hZ := Lib.hid (fun h => agval_num (wd := wd) (a := a) h hN2)
  have hHn : Hid (agHnd wd a.k = (agHas a.k && decide (wd = 2 ∨ wd = 4))) := Lib.hid rfl
  have hH := Lib.hid (raghas_any a.k)
  have hS := Lib.hid (ragsize_any wd a.k)
  have hB := Lib.hid (fun W => rbare_any a W)
  generalize agVal wd a = V at *
  generalize decide (a.N < 256 ^ (agSize wd a.k).toNat) = D at *
  generalize agHnd wd a.k = G at *
  generalize agHas a.k = Q at *
  generalize bareB a = B at *
  generalize agSize wd a.k = z at *
  obtain ⟨k, p, N, M, A1, n1, c1, A2, n2, c2, A3, n3, c3, f, A4, n4, c4⟩ := a
  unfold atc at *
  dsimp only at *
  have hb0 := bl_alloc (bl_refl w) (.cells #[.int .i64 k, .bool p, .int .u32 N, .int .u32 M, .slice A1 n1 c1, .slice A2 n2 c2, .slice A3 n3 c3, .int .i64 f, .slice A4 n4 c4] 29)
  have o0 := Own.new w 29 #[.int .i64 k, .bool p, .int .u32 N, .int .u32 M, .slice A1 n1 c1, .slice A2 n2 c2, .slice A3 n3 c3, .int .i64 f, .slice A4 n4 c4]
  by_cases hw : wd = 2 ∨ wd = 4
  · have hdd : Hid (decide (wd = 2 ∨ wd = 4) = true) := Lib.hid (decide_eq_true hw)
    cases Q
    · rcases hw with rfl | rfl
      all_goals
        go_enter Tryd.func39, Tryd.ntmps39
        go_wp2_with fail
        refine (hH.out _).mono ?_
        rintro e w' ⟨rfl, rfl⟩
        go_wp2
        go_ret
        exact ⟨ret_boolA (by rw [hO.out]; rfl), hb0⟩
    · cases B
      · obtain ⟨e0, e1, e2, e3, e4, e5, e6, e7, e8⟩ := at_cells o0
        rcases hw with rfl | rfl
        all_goals
          go_enter Tryd.func39, Tryd.ntmps39
          go_wp2_with fail
          refine (hH.out _).mono ?_
          rintro e w' ⟨rfl, rfl⟩
          go_wp2_with fail
          refine (hB.out _).mono ?_
          rintro e w1 ⟨rfl, hb1⟩
          go_wp2
          go_ret
          exact ⟨ret_boolA (by rw [hO.out]; simp), bl_trans hb0 hb1⟩
      · obtain ⟨e0, e1, e2, e3, e4, e5, e6, e7, e8⟩ := at_cells o0
        have hV : Hid (V = (decide (z = 4) || decide (N ≤ 65535))) := Lib.hid (by rw [hO.out, hdd.out, ← hZ.out (by rw [hHn.out, hdd.out]; rfl)]; simp)
        rcases hw with rfl | rfl
        all_goals
          go_enter Tryd.func39, Tryd.ntmps39
          go_wp2_with fail
          refine (hH.out _).mono ?_
          rintro e w' ⟨rfl, rfl⟩
          go_wp2_with fail
          refine (hB.out _).mono ?_
          rintro e w1 ⟨rfl, hb1⟩
          obtain ⟨f0, f1, f2, f3, f4, f5, f6, f7, f8⟩ := at_cells (o0.step hb1)
          clear e0 e1 e2 e3 e4 e5 e6 e7 e8
          go_wp2_with fail
          refine (hS.out _).mono ?_
          rintro e w' ⟨rfl, rfl⟩
          go_wp2
          all_goals go_ret
          all_goals refine ⟨ret_boolA ?_, bl_trans hb0 hb1⟩
          all_goals (rw [hV.out]; clear hV hO hZ hHn hdd hH hB hS hb0 hb1 o0 f0 f1 f3 f4 f5 f6 f7 f8; simp_all)
  · have q2 : (wd != 2) = true := by simp; omega
    have q4 : (wd != 4) = true := by simp; omega
    have hV : Hid (V = false) := Lib.hid (by rw [hO.out, decide_eq_false hw]; simp)
    clear hw
    go_enter Tryd.func39, Tryd.ntmps39
    go_wp2
    go_ret
    exact ⟨ret_boolA (by rw [hV.out]), hb0⟩
end Go.Proofs.YtkcejeogacobiaaDoor
