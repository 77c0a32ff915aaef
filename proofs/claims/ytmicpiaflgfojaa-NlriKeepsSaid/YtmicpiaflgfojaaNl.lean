/- NlriKeeps: the walk -/
import Derived.Test.YtmicpiaflgfojaaNk
namespace Go.Proofs.Ytmicpiaflgfojaa
open Go.RowKit

theorem row_capR {w : World} {base : Nat} {e : TypeId} {size n c : Nat} {A : Option Addr} {xs : List Value} (h : w.ownsRow base e size (.slice A n c) n xs) : n ≤ maxLen := by
  rcases h.2 with ⟨e, e0⟩ | ⟨g, cap, cur, hv, hb, hg, h1, h2, _⟩
  · omega
  · exact Nat.le_trans h1 h2
theorem spq_nk {w2 w3 w4 : World} {e : Ending} {Au : Option Addr} {nu : Nat} (h : SpQ w3 e w4) (hb : Below w2.heap.size w2 w3) (hu : RW w2.heap.size w3 Au nu) :
    ∃ Ax nx cx b, ∃ ps : List RPart, e = .returned (.tuple #[.slice Ax nx cx, .bool b]) ∧ nx = ps.length ∧ nx ≤ maxLen ∧ (∀ p ∈ ps, p.n ≤ maxLen) ∧ NkP w2.heap.size w2 Au nu Ax nx cx ps w4 := by
  rcases h with ⟨A, c, ps, rfl, hl, hp, hb4⟩ | ⟨rfl, hb4⟩
  · exact ⟨A, ps.length, c, true, ps, rfl, rfl, row_capR hl, fun p hpm => row_capR (A := p.a) (c := p.c) (hp p hpm).1, bl_trans hb hb4, hu.below hb4, fun p hpm => rw_row (c := p.c) (own_leG (hp p hpm).1 hb.size) (hp p hpm).2.2 (hp p hpm).2.1, own_leG hl hb.size⟩
  · exact ⟨none, 0, 0, false, [], rfl, rfl, Nat.zero_le _, (fun p hp => by cases hp), bl_trans hb hb4, hu.below hb4, (fun p hp => by cases hp), World.ownsRow_nil _ _ _ _⟩
set_option maxRecDepth 100000 in
set_option maxHeartbeats 6400000 in
theorem nkeeps_main (A : Option Addr) (n c : Nat) (rs : List Rt) (w : World) (h : Routes w w.heap.size A n rs) (hK : ∀ r ∈ rs, KR r) (hm : n ≤ maxLen) :
    Calls Try.prog 4 #[.slice A n c] w fun e w' => e = .returned (.bool true) ∧ Below w.heap.size w w' := by
  unfold maxLen at hm
  by_cases h100 : 100 < n
  · have q : decide ((100 : Int) < (n : Int)) = true := by simp; omega
    clear h h100 hK
    go_enter Try.func4, Try.ntmps4
    go_wp2_with fail
    refine (alive3_any _).mono ?_
    rintro e w1 ⟨rfl, hb⟩
    go_wp2
    go_ret
    exact ⟨rfl, hb⟩
  · have q : decide ((100 : Int) < (n : Int)) = false := by simp; omega
    have hn100 : n ≤ 100 := by omega
    have HX := Lib.hid h
    have HN := Lib.hid h.1
    have HO2 := Lib.hid h.2.1
    have HOk := Lib.hid (uniqR_ok h.2.1)
    have hlu : (uniqR rs).length ≤ 100 := by have h1 := uniqR_len rs; have h2 := h.1; omega
    have HCl := Lib.hid (cloneR_any A n c rs w h (by omega))
    have HU := Lib.hid (fun (Ac : Option Addr) (cc : Nat) W (hx : Routes W W.heap.size Ac n rs) => nunique_any Ac n cc rs W hx hK (by omega))
    have HS := Lib.hid (fun (Ac : Option Addr) (cc : Nat) W (hx : Routes W W.heap.size Ac n rs) => nsplit4_any 1000 (by omega) (by omega) true Ac n cc rs W hx (by omega))
    obtain ⟨nu, hnu⟩ : ∃ nu, (uniqR rs).length = nu := ⟨_, rfl⟩
    have hnu100 : nu ≤ 100 := by omega
    have HNu := Lib.hid hnu
    clear h h100 hm hK hnu hlu
    go_enter Try.func4, Try.ntmps4
    go_wp2_with fail
    refine HCl.out.mono ?_
    rintro e w2 ⟨v2, rfl, row2, hb2⟩
    obtain ⟨Ac, cc, rfl, hcc, hrc⟩ := own_routes row2 HO2.out HN.out
    have HRc := Lib.hid hrc
    clear row2 hrc
    go_wp2_with fail
    refine (HU.out Ac cc w2 HRc.out).mono ?_
    rintro e w3 ⟨v3, rfl, row3, hb3⟩
    rw [HNu.out] at row3
    obtain ⟨Au, cu, rfl, hcu, _⟩ := own_routes row3 HOk.out HNu.out.symm
    have hu3 := Lib.hid (rw_row row3 HOk.out HNu.out.symm)
    clear row3
    go_wp2_with fail
    refine (HS.out Ac cc w3 ((HRc.out.below hb3).more hb3.size)).mono ?_
    intro e w4 hq
    obtain ⟨Ax, nx, cx, b, ps, rfl, hnx, hxm, hpm, hP4⟩ := spq_nk hq hb3 hu3.out
    have HNx := Lib.hid hnx
    have HPm := Lib.hid hpm
    unfold maxLen at hxm
    have hs2 := hb2.size
    have HB2 := Lib.hid hb2
    clear hq hnx hpm hb2 hb3 hu3
    go_wp2
    go_loopw [26] (fun i wr => ∃ k : Nat, k ≤ nu ∧ i = .int .i64 k ∧ NkP w2.heap.size w2 Au nu Ax nx cx ps wr) (fun i _ => nu - (intOf i).toNat)
    case atStart => exact ⟨0, Nat.zero_le _, rfl, hP4⟩
    case round =>
      obtain ⟨k, hk, rfl, hP⟩ := hrel
      clear hP4
      by_cases hlt : k < nu
      · rcases hP.u with h0 | ⟨g, cur, rfl, hg, ho, hj⟩
        · omega
        · obtain ⟨x, hx⟩ := hj k hlt
          have e5 := ho.cell hx
          have f5 := ho.frozen (k * 19)
          have HP := Lib.hid hP
          clear hP hj hx
          go_wp2
          go_roundw
          case rel => exact ⟨k + 1, hlt, by go_num, HP.out.set hg ho _⟩
          case measure => simp [intOf]; omega
      · have hPk := hP
        have hek : k = nu := by omega
        clear hP
        go_wp2
        go_loopw [40] (fun i wr => ∃ j : Nat, j ≤ nx ∧ i = .int .i64 j ∧ NkP w2.heap.size w2 Au nu Ax nx cx ps wr) (fun i _ => nx - (intOf i).toNat)
        case atStart => exact ⟨0, Nat.zero_le _, rfl, hPk⟩
        case round =>
          obtain ⟨j, hj, rfl, hPj⟩ := hrel
          clear hPk
          by_cases hjl : j < nx
          · obtain ⟨b', rfl, e0, hpw⟩ := hPj.at_ HNx.out hjl
            have hmem := Lib.hid (rpth_mem (ps := ps) (k := j) (by have := HNx.out; omega))
            have hpn := HPm.out _ hmem.out
            unfold maxLen at hpn
            generalize rpth ps j = p at *
            obtain ⟨pa, pn, pc, px⟩ := p
            dsimp only at *
            clear hpw
            have HPj := Lib.hid hPj
            clear hPj
            go_wp2
            go_loopw [46] (fun i wr => ∃ y : Nat, y ≤ pn ∧ i = .int .i64 y ∧ NkP w2.heap.size w2 Au nu (some ⟨b', 0, none⟩) nx cx ps wr) (fun i _ => pn - (intOf i).toNat)
            case atStart => exact ⟨0, Nat.zero_le _, rfl, HPj.out⟩
            case round =>
              obtain ⟨y, hy, rfl, hPy⟩ := hrel
              clear e0
              by_cases hyl : y < pn
              · rcases hPy.parts _ hmem.out with h0 | ⟨g, cur, he, hg, ho, hjj⟩
                · dsimp only at h0
                  omega
                · dsimp only at he
                  subst he
                  obtain ⟨x, hx⟩ := hjj y hyl
                  have e5 := ho.cell hx
                  have f5 := ho.frozen (y * 19)
                  have HPy := Lib.hid hPy
                  clear hPy hjj hx
                  go_wp2
                  go_roundw
                  case rel => exact ⟨y + 1, hyl, by go_num, HPy.out.set hg ho _⟩
                  case measure => simp [intOf]; omega
              · have HPy := Lib.hid hPy
                have hey : y = pn := by omega
                clear hPy
                go_wp2
                go_roundw
                case rel => exact ⟨j + 1, hjl, by go_num, HPy.out⟩
                case measure => simp [intOf]; omega
          · have hB5 := bl_trans HB2.out (hPj.bel)
            have hrl := HRc.out.below hPj.bel
            have hej : j = nx := by omega
            have hs6 := hPj.bel.size
            clear hPj
            go_wp2_with fail
            refine (alive3_any _).mono ?_
            rintro e w6 ⟨rfl, hb6⟩
            have hB6 := bl_trans hB5 hb6
            go_wp2_with fail
            refine (routesEq_same Ac A n cc c rs w6 _ _ (hrl.below (hb6.mono hs6)) ((HX.out.below hB6)) (by omega)).mono ?_
            rintro e w7 ⟨rfl, m7, rfl⟩
            go_wp2
            go_ret
            exact ⟨rfl, bl_drewN hB6 m7⟩
end Go.Proofs.Ytmicpiaflgfojaa
