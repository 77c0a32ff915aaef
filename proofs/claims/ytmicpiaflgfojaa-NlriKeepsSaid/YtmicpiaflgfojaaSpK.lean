/- nlri.Split at IPv4: what it hands back lies in rows of its own -/
import Derived.Test.YtmicpiaflgfojaaSpA
namespace Go.Proofs.Ytmicpiaflgfojaa
open Go.RowKit

theorem SW.rows {w0 w : World} {lv cv : Value} {ps : List RPart} {cur : List Rt} {Bc : Nat} (h : SW w0 w lv cv ps cur Bc) : ∀ p ∈ ps, w.ownsRow w0.heap.size 31 19 p.v p.n (flatR p.xs) ∧ p.n = p.xs.length ∧ ∀ r ∈ p.xs, r.Ok := by
  obtain ⟨h1, h2, h3, h4, h5, h6, h7⟩ := h
  exact fun p hp => ⟨(h2 p hp).1, (h2 p hp).2.1, (h2 p hp).2.2.2⟩
/-- What Split hands back. -/
def SpQ (w : World) (e : Ending) (w' : World) : Prop :=
  (∃ A c, ∃ ps : List RPart, e = .returned (.tuple #[.slice A ps.length c, .bool true]) ∧ w'.ownsRow w.heap.size 22 1 (.slice A ps.length c) ps.length (ps.map RPart.v) ∧
    (∀ p ∈ ps, w'.ownsRow w.heap.size 31 19 p.v p.n (flatR p.xs) ∧ p.n = p.xs.length ∧ ∀ r ∈ p.xs, r.Ok) ∧ Below w.heap.size w w') ∨
  (e = .returned (.tuple #[.slice none 0 0, .bool false]) ∧ Below w.heap.size w w')
theorem one_routes {W : World} {g : Nat} {r : Rt} (h : Own W g 31 (rt r)) (hr : r.Ok) : Routes W W.heap.size (some ⟨g, 0, none⟩) 1 [r] :=
  ⟨rfl, (fun q hq => by rw [List.mem_singleton] at hq; rw [hq]; exact hr), .inr ⟨g, 0, rfl, h.lt, fun i q hi j v hv => by
    rcases i with _ | i
    · cases hi
      simp only [Nat.zero_mul, Nat.zero_add]
      exact h.cell (by simpa using hv)
    · simp at hi⟩⟩
theorem szL_one (add : Bool) (r : Rt) : (formAll add [r]).length = szR add r := by simp [formAll, szR]
theorem szL_le {add : Bool} {rs : List Rt} (h : rs.all (rtOk 1 add) = true) : ∀ {k : Nat}, k ≤ rs.length → szL add (rs.take k) ≤ 21 * k
  | 0, _ => Nat.zero_le _
  | k + 1, hk => by
    have ih := szL_le h (k := k) (by omega)
    have hro : rtOk 1 add (nthR rs k) = true := List.all_eq_true.1 h _ (nthR_mem (by omega))
    have hpk : pfxOk (nthR rs k).f (nthR rs k).l (nthR rs k).a = true := by simp only [rtOk, Bool.and_eq_true] at hro; exact hro.1.2
    have h2 := rtForm_len (add := add) hpk
    rw [take_nthR (by omega), szL_snoc]
    have : szR add (nthR rs k) ≤ 21 := h2
    omega
theorem cur_le {most : Int} {add : Bool} {rs : List Rt} {k : Nat} {s : SpS} (h : SpOk most add rs k s) : szL add s.2 ≤ szL add (rs.take k) := by
  rw [← h.fl]
  unfold szL formAll
  rw [List.flatMap_append, List.length_append]
  omega
theorem fits_step {most : Int} {add : Bool} {rs : List Rt} {k : Nat} (hk : k < rs.length) (h : (rs.take k).all (fitsR most add) = true) (e : (szR add (nthR rs k) : Int) ≤ most) : (rs.take (k + 1)).all (fitsR most add) = true := all_step hk h (by unfold fitsR; exact decide_eq_true e)
theorem fits_ok {most : Int} {add : Bool} {l : List Rt} (h : l.all (fitsR most add) = true) : ∀ r ∈ l, (szR add r : Int) ≤ most := fun r hr => by
  have := List.all_eq_true.1 h r hr
  unfold fitsR at this
  exact of_decide_eq_true this
theorem done_len : ∀ {d : List (List Rt)}, (∀ l ∈ d, l ≠ []) → d.length ≤ d.flatten.length
  | [], _ => Nat.le_refl _
  | l :: d, h => by
    have ih := done_len (d := d) (fun x hx => h x (List.mem_cons_of_mem _ hx))
    have h1 := List.length_pos_iff.2 (h l List.mem_cons_self)
    rw [List.flatten_cons, List.length_append, List.length_cons]
    omega
theorem one_list (A : Option Addr) (n c : Nat) : ∀ u ∈ [(Value.slice A n c)], u.oneCell' = true := fun u hu => by
  rw [List.mem_singleton] at hu
  subst hu
  rfl
set_option maxHeartbeats 12800000 in
set_option maxRecDepth 100000 in
theorem nsplit4_any (most : Int) (hm0 : -9223372036854775808 ≤ most) (hm1 : most ≤ 9223372036854775807) (add : Bool) (A : Option Addr) (n c : Nat) (rs : List Rt) (w : World) (h : Routes w w.heap.size A n rs) (hn : n ≤ 1000) :
    Calls Try.prog 11 #[.int .i64 most, .int .i64 1, .bool add, .slice A n c] w fun e w' => SpQ w e w' := by
  have hz19 : #[.int .u32 0, .int .i64 0, .int .i64 0, .int .u8 0, .int .u8 0, .int .u8 0, .int .u8 0, .int .u8 0, .int .u8 0, .int .u8 0, .int .u8 0, .int .u8 0, .int .u8 0, .int .u8 0, .int .u8 0, .int .u8 0, .int .u8 0, .int .u8 0, .int .u8 0] = rt rt0 := rt_zero.symm
  have HN := Lib.hid h.1
  have HX := Lib.hid h
  have HV := Lib.hid (nvalid_any 1 add A n c rs w h (by omega))
  clear h
  cases hk : rs.all (rtOk 1 add) with
  | false =>
    rw [hk] at HV
    have HK := Lib.hid hk
    clear hk
    go_enter Try.func11, Try.ntmps11
    go_wp2_with fail
    refine HV.out.mono ?_
    rintro e w1 ⟨rfl, hb1⟩
    go_wp2
    go_ret2
    exact .inr ⟨rfl, hb1⟩
  | true =>
    rw [hk] at HV
    have HK := Lib.hid hk
    clear hk
    go_enter Try.func11, Try.ntmps11
    go_wp2_with fail
    refine HV.out.mono ?_
    rintro e w1 ⟨rfl, hb1⟩
    have HST := Lib.hid (SW.start hb1)
    clear hb1 HV
    go_wp2_with fail
    go_loopw [10, 11, 12, 24] (fun lv cv rm i wr => ∃ (k : Nat) (ps : List RPart) (Bc sz : Nat) (s : SpS), k ≤ n ∧ i = .int .i64 k ∧ rm = .int .i64 (most - sz) ∧ SW w wr lv cv ps s.2 Bc ∧ Hid (sz = szL add s.2 ∧ s = spAt most add rs k ∧ ps.map RPart.xs = s.1 ∧ (rs.take k).all (fitsR most add) = true)) (fun _ _ _ i _ => n - (intOf i).toNat)
    case atStart => exact ⟨0, [], _, 0, ([], []), Nat.zero_le _, rfl, by simp, HST.out, Lib.hid ⟨rfl, rfl, rfl, by simp⟩⟩
    case round =>
      obtain ⟨k, ps, Bc, sz, ⟨d, cur⟩, hkn, rfl, rfl, hsw, hI⟩ := hrel
      clear HST
      obtain ⟨⟨A0, c0, rfl⟩, ⟨A1, c1, rfl⟩⟩ := hsw.form
      have hSO := Lib.hid (spAt_ok (k := k) (by have := HN.out; omega) (fits_ok hI.out.2.2.2))
      have hps : ps.length ≤ k := by
        have h1 := hSO.out.fl
        have h3 := done_len (fun l hl => (hSO.out.done l hl).1)
        rw [← hI.out.2.1] at h1 h3
        have h2 := congrArg List.length h1
        have h4 := congrArg List.length hI.out.2.2.1
        rw [List.length_append, List.length_take] at h2
        rw [List.length_map] at h4
        dsimp only at h2 h3 h4
        omega
      have hszc : sz ≤ 21000 := by
        have h1 := cur_le hSO.out
        have h2 := szL_le HK.out (k := k) (by have := HN.out; omega)
        have h3 := hI.out.1
        rw [← hI.out.2.1] at h1
        dsimp only at h1 h3
        omega
      have hcl : cur.length ≤ k := by
        have h1 := hSO.out.fl
        rw [← hI.out.2.1] at h1
        have h2 := congrArg List.length h1
        rw [List.length_append, List.length_take] at h2
        dsimp only at h2
        omega
      by_cases hlt : k < n
      · obtain ⟨b, o, rfl, hbB, hok, hrg⟩ := (HX.out.below hsw.low).at_ hlt
        have hkl := Lib.hid (show k < rs.length by have := HN.out; omega)
        have hro : rtOk 1 add (nthR rs k) = true := List.all_eq_true.1 HK.out _ (nthR_mem hkl.out)
        have hpk : pfxOk (nthR rs k).f (nthR rs k).l (nthR rs k).a = true := by simp only [rtOk, Bool.and_eq_true] at hro; exact hro.1.2
        have hsr : szR add (nthR rs k) ≤ 21 := rtForm_len (add := add) hpk
        have hStp := Lib.hid (spAt_succ (most := most) (add := add) hkl.out)
        have hFs := Lib.hid (fun e => fits_step (most := most) (add := add) hkl.out hI.out.2.2.2 e)
        have hFn := Lib.hid (fun (e : ¬ (szR add (nthR rs k) : Int) ≤ most) => all_no (P := fitsR most add) hkl.out (by unfold fitsR; exact decide_eq_false e))
        have hNs := Lib.hid (fun (g : Nat) W (h : Own W g 31 (rt (nthR rs k))) => nsize_any 1 add (some ⟨g, 0, none⟩) 1 1 [nthR rs k] W (one_routes h hok) (by omega) (by rw [List.all_cons, hro]; rfl))
        simp only [szL_one] at hNs
        generalize nthR rs k = r at *
        have hrl := hok.1.1
        have hOk := Lib.hid hok
        have hi19 := Lib.hid (rt_infol hrl)
        have hi20 := Lib.hid (rt_info hrl)
        have hl19 := Lib.hid (show (rt r).toList.length = 1 * 19 by rw [Array.length_toList, rt_size hrl])
        have ho' := (Own.new wr 31 (rt rt0))
        have ho := ho'.setRow (cs' := rt r)
        have hbs := hsw.low.size
        have hb1 : Below wr.heap.size wr ((wr.alloc (.cells (rt rt0) 31)).setRow wr.heap.size (rt r)) := bl_setRow (cs := rt r) (bl_alloc (bl_refl wr) (.cells (rt rt0) 31)) (Nat.le_refl _)
        have hsw1 := hsw.below hb1
        have hb2 := bl_alloc (bl_refl ((wr.alloc (.cells (rt rt0) 31)).setRow wr.heap.size (rt r))) (.cells (rt r) 31)
        have hsw2 := Lib.hid (hsw1.below hb2)
        have ob := Lib.hid (ho.step hb2)
        have hsz := Lib.hid (show ((wr.alloc (.cells (rt rt0) 31)).setRow wr.heap.size (rt r)).heap.size = wr.heap.size + 1 by simp)
        have hN1 := hNs.out _ _ (Own.new ((wr.alloc (.cells (rt rt0) 31)).setRow wr.heap.size (rt r)) 31 (rt r))
        rw [hsz.out] at hN1
        have hN1 := Lib.hid hN1
        clear hsw hsw1 hb1 hb2 hok hro hpk
        go_wp2_with (first | (refine wpList_load_mid rfl 31 _ rfl b (o + k * 19) rfl (rt r).toList (.struct (Try.prog.fieldsOf 31)) hrg rt_desc rfl hi19.out ?_) | (refine wpList_store_row rfl 31 _ _ rfl wr.heap.size (rt r) rfl rfl 31 (rt rt0) ho' hi20.out (by rw [rt_size hrl]; rfl) (rt_one _) ?_) | (refine wpList_load_row rfl 31 _ rfl wr.heap.size rfl 31 (rt r) (0, 0) (.struct (Try.prog.fieldsOf 31)) ho rt_desc rfl hi20.out ?_) | (refine wpList_build_route rfl _ rfl r hrl (by simp only [List.map_toArray, List.map_cons, List.map_nil]; rfl) ?_))
        refine hN1.out.mono ?_
        rintro e w2 ⟨rfl, hb3⟩
        have hsw3 := hsw2.out.below hb3
        have ob3 := ob.out.step hb3
        have hbl3 := ob3.lt
        clear hb3 hN1 ho ho' hrg
        by_cases hfit : (szR add r : Int) ≤ most
        · have hF2 := Lib.hid (hFs.out hfit)
          have g1 : ¬ (most < (szR add r : Int)) := by omega
          have k1 : IntKind.i64.wrap (most - (szR add r : Int)) = most - (szR add r : Int) := by rw [IntKind.wrap_i64]; omega
          by_cases hpush : most < (sz : Int) + szR add r
          · have hE := Lib.hid (show spAt most add rs (k + 1) = (d ++ [cur], [r]) by
              rw [hStp.out, ← hI.out.2.1]
              unfold spStep
              rw [if_pos (by rw [← hI.out.1]; exact hpush)])
            have g2 : most - (sz : Int) < (szR add r : Int) := by omega
            have HSW := Lib.hid hsw3
            have hb4 := bl_alloc (bl_refl w2) (.cells #[.slice A1 cur.length c1] 22)
            have HL4 := Lib.hid (HSW.out.below hb4)
            have ob4 := Lib.hid (ob3.step hb4)
            have hs2 := HSW.out.low.size
            clear hsw3 hb4 ob3 hpush hFs hFn hStp
            go_wp2_with (first | (refine wpList_load_row rfl 31 _ rfl wr.heap.size rfl 31 (rt r) (0, 0) (.struct (Try.prog.fieldsOf 31)) ob6 rt_desc rfl hi20.out ?_) | (refine wpList_build_route rfl _ rfl r hrl (by simp only [List.map_toArray, List.map_cons, List.map_nil]; rfl) ?_) | (at_builtin; refine wpList_append_grow _ rfl _ _ rfl sl_lists w.heap.size _ ps.length (ps.map RPart.v) rfl HL4.out.lists (w2.heap.size + 1) (some ⟨w2.heap.size, 0, none⟩) 1 1 [.slice A1 cur.length c1] rfl rfl (Shows.of_owned (xs := [.slice A1 cur.length c1]) (Own.new w2 22 #[.slice A1 cur.length c1]) (Nat.lt_succ_self _)) (one_list _ _ _) (by unfold maxLen; omega) (by omega) (by simp; omega) ?_; intro v6 w6 hown6 hg6; have hsw6 := HL4.out.push hown6 hg6; have ob6 := (Rest.of_grown hg6 (P := fun j => (Value.slice A0 ps.length c0).ownBlock = some j) (fun j hj => hj)).own ob4.out (fun e => (row_typed HL4.out.lists e).1.ne ob4.out.typed sp_types rfl); obtain ⟨A6, c6, rfl⟩ := own_form hown6; have hsw7 := Lib.hid (hsw6.below (bl_alloc (bl_refl w6) (.cells (rt r) 31))); have o7 := Own.new w6 31 (rt r); have hbl6 := ob6.lt; clear hsw6 hown6 hg6) | (at_builtin; refine wpList_append_grow _ rfl _ _ rfl sl_routes w6.heap.size _ 0 [] rfl hsw7.out.2.2.1 (w6.heap.size + 1) (some ⟨w6.heap.size, 0, none⟩) 1 1 (rt r).toList rfl hl19.out (Shows.of_owned (xs := (rt r).toList) o7 (Nat.lt_succ_self _)) rt_one_mem (by unfold maxLen; omega) (by omega) (by simp) ?_; intro v8 w8 hown8 hg8))
            have hsw8 := hsw7.out.add hOk.out hown8 hg8
            go_roundw
            case rel => exact ⟨k + 1, ps ++ [⟨A1, cur.length, c1, cur⟩], _, szR add r, (d ++ [cur], [r]), by omega, by go_num, rfl, hsw8, Lib.hid ⟨by rw [← szL_one]; rfl, hE.out.symm, by rw [List.map_append, hI.out.2.2.1]; rfl, hF2.out⟩⟩
            case measure => simp [intOf]; omega
          · have hE := Lib.hid (show spAt most add rs (k + 1) = (d, cur ++ [r]) by
              rw [hStp.out, ← hI.out.2.1]
              unfold spStep
              rw [if_neg (by rw [← hI.out.1]; exact hpush)])
            have g2 : ¬ most - (sz : Int) < (szR add r : Int) := by omega
            have k2 : IntKind.i64.wrap (most - (sz : Int) - (szR add r : Int)) = most - (sz : Int) - (szR add r : Int) := by rw [IntKind.wrap_i64]; omega
            have hsw4 := Lib.hid (hsw3.below (bl_alloc (bl_refl w2) (.cells (rt r) 31)))
            have o4 := Own.new w2 31 (rt r)
            have hs4 := hsw4.out.2.2.2.2.2.1
            clear hsw3 hpush hFs hFn hStp
            go_wp2_with (first | (refine wpList_load_row rfl 31 _ rfl wr.heap.size rfl 31 (rt r) (0, 0) (.struct (Try.prog.fieldsOf 31)) ob3 rt_desc rfl hi20.out ?_) | (refine wpList_build_route rfl _ rfl r hrl (by simp only [List.map_toArray, List.map_cons, List.map_nil]; rfl) ?_) | (at_builtin; refine wpList_append_grow _ rfl _ _ rfl sl_routes Bc _ cur.length (flatR cur) rfl hsw4.out.2.2.1 (w2.heap.size + 1) (some ⟨w2.heap.size, 0, none⟩) 1 1 (rt r).toList rfl hl19.out (Shows.of_owned (xs := (rt r).toList) o4 (Nat.lt_succ_self _)) rt_one_mem (by unfold maxLen; omega) (by omega) hs4 ?_; intro v8 w8 hown8 hg8))
            have hsw8 := hsw4.out.add hOk.out hown8 hg8
            go_roundw
            case rel => exact ⟨k + 1, ps, Bc, sz + szR add r, (d, cur ++ [r]), by omega, by go_num, by congr 1; omega, hsw8, Lib.hid ⟨by rw [szL_snoc, ← hI.out.1], hE.out.symm, hI.out.2.2.1, hF2.out⟩⟩
            case measure => simp [intOf]; omega
        · have hR := Lib.hid (show (rs.all (rtOk 1 add) && rs.all (fitsR most add)) = false by rw [HK.out, hFn.out (by omega)]; rfl)
          have g1 : most < (szR add r : Int) := by omega
          have hlow := hsw3.low
          clear hsw3 hfit hFs hFn hStp
          go_wp2
          go_ret2
          exact .inr ⟨rfl, hlow⟩
      · obtain rfl : n = k := by omega
        have hnl := HN.out
        have hfa := Lib.hid (show rs.all (fitsR most add) = true by have := hI.out.2.2.2; rwa [List.take_of_length_le (by omega)] at this)
        have hEnd := Lib.hid (show (d, cur) = spAt most add rs rs.length by rw [← hnl]; exact hI.out.2.1)
        clear hnl hlt hkn
        by_cases hc : cur = []
        · subst hc
          have hR := Lib.hid (show ps.map RPart.xs = spEnd (spAt most add rs rs.length) by rw [hI.out.2.2.1, ← hEnd.out]; rfl)
          have hP := Lib.hid (And.intro hsw.lists (And.intro hsw.rows hsw.low))
          clear hsw
          go_wp2
          go_ret2
          exact .inl ⟨A0, c0, ps, rfl, hP.out.1, hP.out.2.1, hP.out.2.2⟩
        · have hR := Lib.hid (show (ps ++ [(⟨A1, cur.length, c1, cur⟩ : RPart)]).map RPart.xs = spEnd (spAt most add rs rs.length) by
            rw [List.map_append, hI.out.2.2.1, ← hEnd.out]
            unfold spEnd
            rw [if_neg hc]
            rfl)
          have hpos : 0 < cur.length := List.length_pos_iff.2 hc
          have hb4 := bl_alloc (bl_refl wr) (.cells #[.slice A1 cur.length c1] 22)
          have HL4 := Lib.hid (hsw.below hb4)
          have hs2 := hsw.low.size
          clear hsw hb4 hc
          go_wp2_with (at_builtin; refine wpList_append_grow _ rfl _ _ rfl sl_lists w.heap.size _ ps.length (ps.map RPart.v) rfl HL4.out.lists (wr.heap.size + 1) (some ⟨wr.heap.size, 0, none⟩) 1 1 [.slice A1 cur.length c1] rfl rfl (Shows.of_owned (xs := [.slice A1 cur.length c1]) (Own.new wr 22 #[.slice A1 cur.length c1]) (Nat.lt_succ_self _)) (one_list _ _ _) (by unfold maxLen; omega) (by omega) (by simp; omega) ?_; intro v6 w6 hown6 hg6)
          have hsw6 := HL4.out.push hown6 hg6
          obtain ⟨A6, c6, rfl⟩ := own_form hown6
          have hP := hsw6.lists
          rw [List.length_append] at hP
          go_ret2
          exact .inl ⟨A6, c6, ps ++ [⟨A1, cur.length, c1, cur⟩], by rw [List.length_append]; rfl, by rw [List.length_append]; exact hP, hsw6.rows, hsw6.low⟩
end Go.Proofs.Ytmicpiaflgfojaa
