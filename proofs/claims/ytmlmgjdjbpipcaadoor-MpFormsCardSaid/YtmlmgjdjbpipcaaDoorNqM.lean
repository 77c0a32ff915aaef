/- XNqM: XNs, XNo, XNd, XNe, XForm, XReq, XRs3 in one text -/
import Derived.Test.YtmlmgjdjbpipcaaDoorNr
import Derived.Great.BuildSlice
import Derived.Laws.StructEq
import Derived.Deep.MidRow
/- nlri.Size -/
namespace Go.Proofs.YtmlmgjdjbpipcaaDoor
open Go.RowKit

theorem pfxForm_len {f l : Int} {a : List Int} (ha : IsAddr a) (h : pfxOk f l a = true) : ((pfxForm l a).length : Int) = 1 + (l + 7) / 8 := by
  have := pfxOk_range h
  have h5 : 0 ≤ sizeOfBits l ∧ sizeOfBits l ≤ 16 := by unfold sizeOfBits; omega
  have h6 := ha.1
  unfold pfxForm
  rw [List.length_cons, List.length_take, h6]
  unfold sizeOfBits at *
  omega

end Go.Proofs.YtmlmgjdjbpipcaaDoor

/- the closure of nlri.Read -/
namespace Go.Proofs.YtmlmgjdjbpipcaaDoor
open Go.RowKit

def pOk (f : Int) (xs : List Int) : Bool := match xs with
  | [] => false
  | x :: ys => lenOk f x && decide ((sizeOfBits x).toNat ≤ ys.length)
def pN (xs : List Int) : Nat := 1 + (sizeOfBits (xs.headD 0)).toNat
def pF (f : Int) (xs : List Int) : Int := if pOk f xs then f else 0
def pL (f : Int) (xs : List Int) : Int := if pOk f xs then xs.headD 0 else 0
def pA (f : Int) (xs : List Int) : List Int := if pOk f xs then maskL (xs.headD 0) (padTo ((xs.drop 1).take (sizeOfBits (xs.headD 0)).toNat)) else zero16
theorem pA_addr {f : Int} {xs : List Int} (h : ∀ x ∈ xs, 0 ≤ x ∧ x ≤ 255) : IsAddr (pA f xs) := by
  unfold pA
  by_cases hk : pOk f xs = true
  · rw [if_pos hk]
    match xs, hk, h with
    | x :: ys, hk, h =>
      simp only [pOk, Bool.and_eq_true, decide_eq_true_eq] at hk
      have hr := lenOk_range hk.1
      have h5 : sizeOfBits x ≤ 16 := by unfold sizeOfBits; omega
      exact maskL_addr x (padTo_addr (by simp only [List.drop_one, List.tail_cons, List.headD_cons, List.length_take]; omega) (fun y hy => h y (List.mem_cons_of_mem _ (List.mem_of_mem_take hy))))
  · rw [if_neg hk]; exact zero16_addr

set_option maxRecDepth 100000 in
theorem pread_any (B : Nat) (f : Int) (xs : List Int) (g p : Nat) (w : World) (h : RdrB B w g xs p) (hl : xs.length ≤ 1000000000) (hp : p ≤ 999999999) :
    Calls Tryd.prog 75 #[.int .i64 f, .pointer (some ⟨g, 0, none⟩)] w fun e w' => e = .returned (.tuple #[.agg (pfx (pF f xs) (pL f xs) (pA f xs)), .bool (pOk f xs)]) ∧ (pOk f xs = true → RdrB B w' g (xs.drop (pN xs)) (p + pN xs)) ∧ w.grownBy w' (some g) := by
  match xs, h, hl with
  | [], h, hl =>
    refine (pread_nil f g p w h.rdr).mono ?_
    rintro e w' ⟨rfl, hb⟩
    exact ⟨rfl, (by intro hh; simp [pOk] at hh), only_of_below hb _⟩
  | x :: ys, h, hl =>
    by_cases h1 : lenOk f x = true
    · by_cases h2 : (sizeOfBits x).toNat ≤ ys.length
      · have hk : pOk f (x :: ys) = true := by simp [pOk, h1, h2]
        refine (pread_yes B f x ys g p w h hl hp h1 h2).mono ?_
        rintro e w' ⟨rfl, hr, hg⟩
        refine ⟨by simp [pF, pL, pA, hk], fun _ => ?_, hg⟩
        have e1 : (x :: ys).drop (pN (x :: ys)) = ys.drop (sizeOfBits x).toNat := by unfold pN; rw [Nat.add_comm, List.headD_cons, List.drop_succ_cons]
        have e2 : p + pN (x :: ys) = p + 1 + (sizeOfBits x).toNat := by unfold pN; rw [List.headD_cons]; omega
        rw [e1, e2]; exact hr
      · have hk : pOk f (x :: ys) = false := by simp [pOk, h2]
        refine (pread_short B f x ys g p w h hl hp h1 (by omega)).mono ?_
        rintro e w' ⟨rfl, hr, hg⟩
        exact ⟨by simp [pF, pL, pA, hk], (by rw [hk]; intro hh; cases hh), hg⟩
    · have h1' : lenOk f x = false := by simpa using h1
      have hk : pOk f (x :: ys) = false := by simp [pOk, h1']
      refine (pread_bad B f x ys g p w h hl (by omega) h1').mono ?_
      rintro e w' ⟨rfl, hr, hg⟩
      exact ⟨by simp [pF, pL, pA, hk], (by rw [hk]; intro hh; cases hh), hg⟩

/-- One route before the bytes xs. -/
def oneOk (f : Int) (add : Bool) (xs : List Int) : Bool := if add then decide (4 ≤ xs.length) && pOk f (xs.drop 4) else pOk f xs
def oneN (add : Bool) (xs : List Int) : Nat := if add then 4 + pN (xs.drop 4) else pN xs
def oneR (f : Int) (add : Bool) (xs : List Int) : Rt := if add then (if 4 ≤ xs.length then ⟨big (xs.take 4), pF f (xs.drop 4), pL f (xs.drop 4), pA f (xs.drop 4)⟩ else rt0) else ⟨0, pF f xs, pL f xs, pA f xs⟩

set_option maxRecDepth 100000 in
theorem built_rt (p f l : Int) {m : List Int} (h : m.length = 16) : Tryd.prog.built 87 [(0, .int .u32 p), (1, .agg (pfx f l m))] = some (rt ⟨p, f, l, m⟩) := by
  obtain ⟨x0, x1, x2, x3, x4, x5, x6, x7, x8, x9, x10, x11, x12, x13, x14, x15, rfl⟩ := list16 h
  kernel_rfl

set_option maxHeartbeats 800000 in
set_option maxRecDepth 100000 in
theorem one_false (B : Nat) (f : Int) (xs : List Int) (g p ca cr cf : Nat) (w : World) (h : RdrB B w g xs p) (hl : xs.length ≤ 1000000000) (hp : p ≤ 999999999)
    (ha : Own w ca 4 #[.bool false]) (hr : Own w cr 41 #[.pointer (some ⟨g, 0, none⟩)]) (hf : Own w cf 3 #[.int .i64 f]) :
    Calls Tryd.prog 74 #[.pointer (some ⟨ca, 0, none⟩), .pointer (some ⟨cr, 0, none⟩), .pointer (some ⟨cf, 0, none⟩)] w fun e w' => e = .returned (.tuple #[.agg (rt (oneR f false xs)), .bool (oneOk f false xs)]) ∧ (oneOk f false xs = true → RdrB B w' g (xs.drop (oneN false xs)) (p + oneN false xs)) ∧ w.grownBy w' (some g) := by
  have hz19 : #[.int .u32 0, .int .i64 0, .int .i64 0, .int .u8 0, .int .u8 0, .int .u8 0, .int .u8 0, .int .u8 0, .int .u8 0, .int .u8 0, .int .u8 0, .int .u8 0, .int .u8 0, .int .u8 0, .int .u8 0, .int .u8 0, .int .u8 0, .int .u8 0, .int .u8 0] = rt rt0 := rt_zero.symm
  have hz18 : #[.int .i64 0, .int .i64 0, .int .u8 0, .int .u8 0, .int .u8 0, .int .u8 0, .int .u8 0, .int .u8 0, .int .u8 0, .int .u8 0, .int .u8 0, .int .u8 0, .int .u8 0, .int .u8 0, .int .u8 0, .int .u8 0, .int .u8 0, .int .u8 0] = pfx 0 0 zero16 := pfx_zero.symm
  have hgl := h.lt
  have hBs := h.size
  have hb0 := bl_alloc (bl_refl w) (.cells (rt rt0) 87)
  have ho := Own.new w 87 (rt rt0)
  have h1 := h.below hb0
  have ha1 := (ha.step hb0).cell (i := 0) rfl
  have hr1 := (hr.step hb0)
  have hf1 := (hf.step hb0)
  have hr2 := hr1.cell (i := 0) rfl
  have hf2 := hf1.cell (i := 0) rfl
  clear ha hr hf
  go_enter Tryd.func74, Tryd.ntmps74
  go_wp2_with fail
  refine (pread_any B f xs g p _ h1 hl hp).mono ?_
  rintro e w1 ⟨rfl, hrd, hg⟩
  have hpa := pA_addr (f := f) h.range
  have ho1 := ho.grown hg (fun e => by cases e; omega)
  have hg1 := only_trans (only_of_below hb0 (some g)) hg
  have hi18 := Lib.hid (pfx_info (f := pF f xs) (l := pL f xs) hpa.1)
  have hi19 := Lib.hid (rt_info (r := ⟨0, pF f xs, pL f xs, pA f xs⟩) hpa.1)
  have hs19 := Lib.hid (show (rt rt0).size = (rt ⟨0, pF f xs, pL f xs, pA f xs⟩).size by rw [rt_size (r := ⟨0, pF f xs, pL f xs, pA f xs⟩) hpa.1]; rfl)
  have hbn := Lib.hid (built_rt 0 (pF f xs) (pL f xs) hpa.1)
  have o1 := Own.new w1 85 (pfx 0 0 zero16)
  have o2 := o1.setRow (cs' := pfx (pF f xs) (pL f xs) (pA f xs))
  have o3 : Own ((w1.alloc (.cells (pfx 0 0 zero16) 85)).setRow w1.heap.size (pfx (pF f xs) (pL f xs) (pA f xs))) w.heap.size 87 (rt rt0) := by
    refine (ho1.alloc _).keep (setRow_other _ _ _ _ ?_)
    have := ho1.lt
    omega
  have hs1 := ho1.lt
  have hfin := o3.setRow (cs' := rt ⟨0, pF f xs, pL f xs, pA f xs⟩)
  go_wp2_with (first | (refine wpList_load_row rfl 85 _ rfl w1.heap.size rfl 85 (pfx (pF f xs) (pL f xs) (pA f xs)) (0, 0) (.struct (Tryd.prog.fieldsOf 85)) o2 pfx_desc rfl hi18.out ?_) | (refine wpList_build_to rfl 87 _ rfl (rt ⟨0, pF f xs, pL f xs, pA f xs⟩) (by simp only [List.map_toArray, List.map_cons, List.map_nil]; exact hbn.out) ?_) | (refine wpList_store_row rfl 85 _ _ rfl w1.heap.size (pfx (pF f xs) (pL f xs) (pA f xs)) rfl rfl 85 (pfx 0 0 zero16) o1 hi18.out (by rw [pfx_size hpa.1]; rfl) (pfx_one _ _ _) ?_) | (refine wpList_store_row rfl 87 _ _ rfl w.heap.size (rt ⟨0, pF f xs, pL f xs, pA f xs⟩) rfl rfl 87 (rt rt0) o3 hi19.out hs19.out (rt_one _) ?_))
  refine bodyPost_ret (v := .tuple #[.agg (rt ⟨0, pF f xs, pL f xs, pA f xs⟩), .bool (pOk f xs)]) (results_cell_tmp (p := 3) (t := 4) (fn := Tryd.f74) rfl _ _ w.heap.size 87 (rt ⟨0, pF f xs, pL f xs, pA f xs⟩) _ rfl hfin rt_desc rfl hi19.out) rfl ?_
  refine ⟨rfl, fun hk => ?_, ?_⟩
  · exact (((hrd hk).below (bl_alloc (bl_refl w1) _)).setRow (by have := hg1.size; omega) (by have := hg1.size; omega)).setRow hBs (by omega)
  · exact only_setRow (only_setRow (only_below hg1 (bl_alloc (bl_refl w1) _)) hg1.size) (Nat.le_refl _)

set_option maxHeartbeats 800000 in
set_option maxRecDepth 100000 in
theorem one_short (B : Nat) (f : Int) (xs : List Int) (g p ca cr cf : Nat) (w : World) (h : RdrB B w g xs p) (hl : xs.length ≤ 1000000000) (hlen : xs.length < 4)
    (ha : Own w ca 4 #[.bool true]) (hr : Own w cr 41 #[.pointer (some ⟨g, 0, none⟩)]) (hf : Own w cf 3 #[.int .i64 f]) :
    Calls Tryd.prog 74 #[.pointer (some ⟨ca, 0, none⟩), .pointer (some ⟨cr, 0, none⟩), .pointer (some ⟨cf, 0, none⟩)] w fun e w' => e = .returned (.tuple #[.agg (rt (oneR f true xs)), .bool (oneOk f true xs)]) ∧ (oneOk f true xs = true → RdrB B w' g (xs.drop (oneN true xs)) (p + oneN true xs)) ∧ w.grownBy w' (some g) := by
  have hz19 : #[.int .u32 0, .int .i64 0, .int .i64 0, .int .u8 0, .int .u8 0, .int .u8 0, .int .u8 0, .int .u8 0, .int .u8 0, .int .u8 0, .int .u8 0, .int .u8 0, .int .u8 0, .int .u8 0, .int .u8 0, .int .u8 0, .int .u8 0, .int .u8 0, .int .u8 0] = rt rt0 := rt_zero.symm
  have hz18 : #[.int .i64 0, .int .i64 0, .int .u8 0, .int .u8 0, .int .u8 0, .int .u8 0, .int .u8 0, .int .u8 0, .int .u8 0, .int .u8 0, .int .u8 0, .int .u8 0, .int .u8 0, .int .u8 0, .int .u8 0, .int .u8 0, .int .u8 0, .int .u8 0] = pfx 0 0 zero16 := pfx_zero.symm
  have hgl := h.lt
  have hBs := h.size
  have hb0 := bl_alloc (bl_refl w) (.cells (rt rt0) 87)
  have ho := Own.new w 87 (rt rt0)
  have h1 := h.below hb0
  have ha1 := (ha.step hb0).cell (i := 0) rfl
  have hr1 := (hr.step hb0)
  have hf1 := (hf.step hb0)
  have hr2 := hr1.cell (i := 0) rfl
  have hf2 := hf1.cell (i := 0) rfl
  clear ha hr hf
  have HO := Lib.hid (show oneOk f true xs = false ∧ oneR f true xs = rt0 by constructor <;> simp [oneOk, oneR] <;> omega)
  go_enter Tryd.func74, Tryd.ntmps74
  go_wp2_with fail
  refine (number_no g xs p 4 _ h1.rdr hl (by omega) (by omega) (by omega)).mono ?_
  rintro e w1 ⟨rfl, rfl⟩
  have hfin := ho.setRow (cs' := rt rt0)
  go_wp2_with (refine wpList_store_row rfl 87 _ _ rfl w.heap.size (rt rt0) rfl rfl 87 (rt rt0) ho (rt_info rfl) rfl (rt_one _) ?_)
  refine bodyPost_ret (v := .tuple #[.agg (rt rt0), .bool false]) (results_cell_tmp (p := 3) (t := 4) (fn := Tryd.f74) rfl _ _ w.heap.size 87 (rt rt0) _ rfl hfin rt_desc rfl (rt_info rfl)) rfl ?_
  rw [HO.out.1, HO.out.2]
  exact ⟨rfl, (by intro hh; cases hh), only_setRow (only_of_below hb0 _) (Nat.le_refl _)⟩

set_option maxHeartbeats 800000 in
set_option maxRecDepth 100000 in
theorem one_true (B : Nat) (f : Int) (xs : List Int) (g p ca cr cf : Nat) (w : World) (h : RdrB B w g xs p) (hl : xs.length ≤ 1000000000) (hp : p ≤ 999999990) (hlen : 4 ≤ xs.length)
    (ha : Own w ca 4 #[.bool true]) (hr : Own w cr 41 #[.pointer (some ⟨g, 0, none⟩)]) (hf : Own w cf 3 #[.int .i64 f]) (hr' : cr ≠ g) (hf' : cf ≠ g) :
    Calls Tryd.prog 74 #[.pointer (some ⟨ca, 0, none⟩), .pointer (some ⟨cr, 0, none⟩), .pointer (some ⟨cf, 0, none⟩)] w fun e w' => e = .returned (.tuple #[.agg (rt (oneR f true xs)), .bool (oneOk f true xs)]) ∧ (oneOk f true xs = true → RdrB B w' g (xs.drop (oneN true xs)) (p + oneN true xs)) ∧ w.grownBy w' (some g) := by
  have hz19 : #[.int .u32 0, .int .i64 0, .int .i64 0, .int .u8 0, .int .u8 0, .int .u8 0, .int .u8 0, .int .u8 0, .int .u8 0, .int .u8 0, .int .u8 0, .int .u8 0, .int .u8 0, .int .u8 0, .int .u8 0, .int .u8 0, .int .u8 0, .int .u8 0, .int .u8 0] = rt rt0 := rt_zero.symm
  have hz18 : #[.int .i64 0, .int .i64 0, .int .u8 0, .int .u8 0, .int .u8 0, .int .u8 0, .int .u8 0, .int .u8 0, .int .u8 0, .int .u8 0, .int .u8 0, .int .u8 0, .int .u8 0, .int .u8 0, .int .u8 0, .int .u8 0, .int .u8 0, .int .u8 0] = pfx 0 0 zero16 := pfx_zero.symm
  have hgl := h.lt
  have hBs := h.size
  have hb0 := bl_alloc (bl_refl w) (.cells (rt rt0) 87)
  have ho := Own.new w 87 (rt rt0)
  have h1 := h.below hb0
  have ha1 := (ha.step hb0).cell (i := 0) rfl
  have hr1 := (hr.step hb0)
  have hf1 := (hf.step hb0)
  have hr2 := hr1.cell (i := 0) rfl
  have hf2 := hf1.cell (i := 0) rfl
  clear ha hr hf
  have HO := Lib.hid (show oneOk f true xs = pOk f (xs.drop 4) ∧ oneR f true xs = ⟨big (xs.take 4), pF f (xs.drop 4), pL f (xs.drop 4), pA f (xs.drop 4)⟩ by constructor <;> simp [oneOk, oneR, hlen])
  have HE := Lib.hid (show oneN true xs = 4 + pN (xs.drop 4) from rfl)
  go_enter Tryd.func74, Tryd.ntmps74
  go_wp2_with fail
  refine (number_yesB B g xs p 4 _ h1 hl (by omega) (by omega) (by omega) (by omega)).mono ?_
  rintro e w0 ⟨rfl, hrd0, hg0⟩
  have hr3 := (hr1.grown hg0 (fun e => hr' (Option.some.inj e))).cell (i := 0) rfl
  have hf3 := (hf1.grown hg0 (fun e => hf' (Option.some.inj e))).cell (i := 0) rfl
  have ho0 := ho.grown hg0 (fun e => by cases e; omega)
  have hg00 := only_trans (only_of_below hb0 (some g)) hg0
  clear ha1 hr2 hf2 hr1 hf1 ho hb0
  go_wp2_with fail
  refine (pread_any B f (xs.drop 4) g (p + 4) _ hrd0 (by rw [List.length_drop]; omega) (by omega)).mono ?_
  rintro e w1 ⟨rfl, hrd, hg⟩
  have hpa : IsAddr (pA f (xs.drop 4)) := pA_addr (f := f) hrd0.range
  have ho1 := ho0.grown hg (fun e => by cases e; omega)
  have hg1 := only_trans hg00 hg
  have hi18 := Lib.hid (pfx_info (f := pF f (xs.drop 4)) (l := pL f (xs.drop 4)) hpa.1)
  have hi19 := Lib.hid (rt_info (r := ⟨(big (xs.take 4)), pF f (xs.drop 4), pL f (xs.drop 4), pA f (xs.drop 4)⟩) hpa.1)
  have hs19 := Lib.hid (show (rt rt0).size = (rt ⟨(big (xs.take 4)), pF f (xs.drop 4), pL f (xs.drop 4), pA f (xs.drop 4)⟩).size by rw [rt_size (r := ⟨(big (xs.take 4)), pF f (xs.drop 4), pL f (xs.drop 4), pA f (xs.drop 4)⟩) hpa.1]; rfl)
  have hbn := Lib.hid (built_rt (big (xs.take 4)) (pF f (xs.drop 4)) (pL f (xs.drop 4)) hpa.1)
  have o1 := Own.new w1 85 (pfx 0 0 zero16)
  have o2 := o1.setRow (cs' := pfx (pF f (xs.drop 4)) (pL f (xs.drop 4)) (pA f (xs.drop 4)))
  have o3 : Own ((w1.alloc (.cells (pfx 0 0 zero16) 85)).setRow w1.heap.size (pfx (pF f (xs.drop 4)) (pL f (xs.drop 4)) (pA f (xs.drop 4)))) w.heap.size 87 (rt rt0) := by
    refine (ho1.alloc _).keep (setRow_other _ _ _ _ ?_)
    have := ho1.lt
    omega
  have hs1 := ho1.lt
  have hfin := o3.setRow (cs' := rt ⟨(big (xs.take 4)), pF f (xs.drop 4), pL f (xs.drop 4), pA f (xs.drop 4)⟩)
  go_wp2_with (first | (refine wpList_load_row rfl 85 _ rfl w1.heap.size rfl 85 (pfx (pF f (xs.drop 4)) (pL f (xs.drop 4)) (pA f (xs.drop 4))) (0, 0) (.struct (Tryd.prog.fieldsOf 85)) o2 pfx_desc rfl hi18.out ?_) | (refine wpList_build_to rfl 87 _ rfl (rt ⟨(big (xs.take 4)), pF f (xs.drop 4), pL f (xs.drop 4), pA f (xs.drop 4)⟩) (by simp only [List.map_toArray, List.map_cons, List.map_nil]; exact hbn.out) ?_) | (refine wpList_store_row rfl 85 _ _ rfl w1.heap.size (pfx (pF f (xs.drop 4)) (pL f (xs.drop 4)) (pA f (xs.drop 4))) rfl rfl 85 (pfx 0 0 zero16) o1 hi18.out (by rw [pfx_size hpa.1]; rfl) (pfx_one _ _ _) ?_) | (refine wpList_store_row rfl 87 _ _ rfl w.heap.size (rt ⟨(big (xs.take 4)), pF f (xs.drop 4), pL f (xs.drop 4), pA f (xs.drop 4)⟩) rfl rfl 87 (rt rt0) o3 hi19.out hs19.out (rt_one _) ?_))
  refine bodyPost_ret (v := .tuple #[.agg (rt ⟨(big (xs.take 4)), pF f (xs.drop 4), pL f (xs.drop 4), pA f (xs.drop 4)⟩), .bool (pOk f (xs.drop 4))]) (results_cell_tmp (p := 3) (t := 4) (fn := Tryd.f74) rfl _ _ w.heap.size 87 (rt ⟨(big (xs.take 4)), pF f (xs.drop 4), pL f (xs.drop 4), pA f (xs.drop 4)⟩) _ rfl hfin rt_desc rfl hi19.out) rfl ?_
  rw [HO.out.1, HO.out.2]
  refine ⟨rfl, fun hk => ?_, ?_⟩
  · rw [HE.out, ← List.drop_drop, ← Nat.add_assoc]
    exact (((hrd hk).below (bl_alloc (bl_refl w1) _)).setRow (by have := hg1.size; omega) (by have := hg1.size; omega)).setRow hBs (by omega)
  · exact only_setRow (only_setRow (only_below hg1 (bl_alloc (bl_refl w1) _)) hg1.size) (Nat.le_refl _)

set_option maxRecDepth 100000 in
theorem one_any (B : Nat) (f : Int) (add : Bool) (xs : List Int) (g p ca cr cf : Nat) (w : World) (h : RdrB B w g xs p) (hl : xs.length ≤ 1000000000) (hp : p ≤ 999999990)
    (ha : Own w ca 4 #[.bool add]) (hr : Own w cr 41 #[.pointer (some ⟨g, 0, none⟩)]) (hf : Own w cf 3 #[.int .i64 f]) (hr' : cr ≠ g) (hf' : cf ≠ g) :
    Calls Tryd.prog 74 #[.pointer (some ⟨ca, 0, none⟩), .pointer (some ⟨cr, 0, none⟩), .pointer (some ⟨cf, 0, none⟩)] w fun e w' => e = .returned (.tuple #[.agg (rt (oneR f add xs)), .bool (oneOk f add xs)]) ∧ (oneOk f add xs = true → RdrB B w' g (xs.drop (oneN add xs)) (p + oneN add xs)) ∧ w.grownBy w' (some g) := by
  cases add
  · exact one_false B f xs g p ca cr cf w h hl (by omega) ha hr hf
  · by_cases hlen : 4 ≤ xs.length
    · exact one_true B f xs g p ca cr cf w h hl hp hlen ha hr hf hr' hf'
    · exact one_short B f xs g p ca cr cf w h hl (by omega) ha hr hf
end Go.Proofs.YtmlmgjdjbpipcaaDoor

/- nlri.Read -/
namespace Go.Proofs.YtmlmgjdjbpipcaaDoor
open Go.RowKit

/-- The first p of the bytes xs are the routes rs. -/
inductive Parsed (f : Int) (add : Bool) (xs : List Int) : Nat → List Rt → Prop where
  | nil : Parsed f add xs 0 []
  | cons {p : Nat} {rs : List Rt} : Parsed f add xs p rs → p < xs.length → oneOk f add (xs.drop p) = true → Parsed f add xs (p + oneN add (xs.drop p)) (rs ++ [oneR f add (xs.drop p)])
theorem pOk_len {f : Int} {xs : List Int} (h : pOk f xs = true) : pN xs ≤ xs.length := by
  match xs, h with
  | x :: ys, h =>
    simp only [pOk, Bool.and_eq_true, decide_eq_true_eq] at h
    unfold pN
    rw [List.headD_cons, List.length_cons]
    omega
theorem oneOk_len {f : Int} {add : Bool} {xs : List Int} (h : oneOk f add xs = true) : oneN add xs ≤ xs.length := by
  cases add
  · exact pOk_len h
  · simp only [oneOk, if_true, Bool.and_eq_true, decide_eq_true_eq] at h
    have := pOk_len h.2
    rw [List.length_drop] at this
    show 4 + pN (xs.drop 4) ≤ _
    omega
theorem oneN_pos (add : Bool) (xs : List Int) : 1 ≤ oneN add xs := by
  cases add
  · show 1 ≤ 1 + _; omega
  · show 1 ≤ 4 + _; omega
theorem Parsed.le {f : Int} {add : Bool} {xs : List Int} {p : Nat} {rs : List Rt} (h : Parsed f add xs p rs) : p ≤ xs.length ∧ rs.length ≤ p := by
  induction h with
  | nil => exact ⟨Nat.zero_le _, Nat.le_refl _⟩
  | @cons p rs h hp hk ih =>
    have h1 := oneOk_len hk
    have h2 := oneN_pos add (xs.drop p)
    rw [List.length_drop] at h1
    rw [List.length_append, List.length_singleton]
    omega
theorem oneR_ok {f : Int} {add : Bool} {xs : List Int} (h : ∀ x ∈ xs, 0 ≤ x ∧ x ≤ 255) : (oneR f add xs).Ok := by
  cases add
  · exact ⟨pA_addr h, by show (0 : Int) ≤ 0; omega, by show (0 : Int) ≤ _; omega⟩
  · by_cases h4 : 4 ≤ xs.length
    · have e : oneR f true xs = ⟨big (xs.take 4), pF f (xs.drop 4), pL f (xs.drop 4), pA f (xs.drop 4)⟩ := by simp [oneR, h4]
      rw [e]
      have hb := big_range 4 (xs.take 4) (by rw [List.length_take]; omega) (fun x hx => h x (List.mem_of_mem_take hx))
      exact ⟨pA_addr (fun x hx => h x (List.mem_of_mem_drop hx)), hb.1, by have := hb.2; show big _ ≤ _; omega⟩
    · have e : oneR f true xs = rt0 := by simp [oneR, h4]
      rw [e]
      exact ⟨zero16_addr, by show (0 : Int) ≤ 0; omega, by show (0 : Int) ≤ _; omega⟩
theorem Parsed.ok {f : Int} {add : Bool} {xs : List Int} {p : Nat} {rs : List Rt} (h : Parsed f add xs p rs) (hr : ∀ x ∈ xs, 0 ≤ x ∧ x ≤ 255) : ∀ r ∈ rs, r.Ok := by
  induction h with
  | nil => intro r h; cases h
  | cons h hp hk ih =>
    intro r hm
    rcases List.mem_append.1 hm with hm | hm
    · exact ih r hm
    · rw [List.mem_singleton] at hm; subst hm
      exact oneR_ok (fun x hx => hr x (List.mem_of_mem_drop hx))

def flatR (rs : List Rt) : List Value := rs.flatMap fun r => (rt r).toList
theorem flatR_get : ∀ {rs : List Rt}, (∀ r ∈ rs, r.Ok) → ∀ (i : Nat) (r : Rt), rs[i]? = some r → ∀ (j : Nat) (v : Value), (rt r).toList[j]? = some v → (flatR rs)[i * 19 + j]? = some v
  | [], _, i, r, hi, _, _, _ => by simp at hi
  | q :: rs, h, i, r, hi, j, v, hj => by
    have hq : (rt q).toList.length = 19 := by rw [Array.length_toList, rt_size (h q (List.mem_cons_self ..)).1.1]
    show ((rt q).toList ++ flatR rs)[_]? = _
    match i, hi with
    | 0, hi =>
      have e : q = r := by simpa using hi
      subst e
      rw [List.getElem?_append_left (by rw [Nat.zero_mul, Nat.zero_add]; exact (List.getElem?_eq_some_iff.1 hj).1), Nat.zero_mul, Nat.zero_add]
      exact hj
    | i + 1, hi =>
      rw [List.getElem?_append_right (by omega), hq, show (i + 1) * 19 + j - 19 = i * 19 + j by omega]
      exact flatR_get (fun r hr => h r (List.mem_cons_of_mem _ hr)) i r (by simpa using hi) j v hj
theorem own_routes {w : World} {base n : Nat} {v : Value} {rs : List Rt} (h : w.ownsRow base 87 19 v n (flatR rs)) (hr : ∀ r ∈ rs, r.Ok) (hn : n = rs.length) : ∃ A c, v = .slice A n c ∧ n ≤ c ∧ Routes w w.heap.size A n rs := by
  obtain ⟨A, c, rfl, hc, hs⟩ := own_val h
  refine ⟨A, c, rfl, hc, hn, hr, ?_⟩
  match rs, hr, hs with
  | [], _, _ => exact .inl rfl
  | q :: rs, hr, hs =>
    right
    have hq : (rt q).toList.length = 19 := by rw [Array.length_toList, rt_size (hr q (List.mem_cons_self ..)).1.1]
    rcases hs with h0 | ⟨b, o, hA, hb, hcc⟩
    · have : (flatR (q :: rs)).length = 0 := by rw [h0]; rfl
      have e : flatR (q :: rs) = (rt q).toList ++ flatR rs := rfl
      rw [e, List.length_append] at this
      omega
    · refine ⟨b, o, hA, hb, fun i r hi j u hu => ?_⟩
      have := hcc _ _ (flatR_get hr i r hi j u hu)
      rw [← Nat.add_assoc] at this
      exact this

def lit19 : Array Value := #[.int .u32 0, .int .i64 0, .int .i64 0, .int .u8 0, .int .u8 0, .int .u8 0, .int .u8 0, .int .u8 0, .int .u8 0, .int .u8 0, .int .u8 0, .int .u8 0, .int .u8 0, .int .u8 0, .int .u8 0, .int .u8 0, .int .u8 0, .int .u8 0, .int .u8 0]
set_option maxRecDepth 100000 in
theorem sl_routes : SliceOf Tryd.prog 28 87 19 40 := SliceOf.mk Tryd.underlying28 (z := .agg lit19) (by kernel_rfl) rfl (by decide)
theorem fill_route {r : Rt} (h : r.a.length = 16) : Instr.fill (fun i => some (i * 19, 19)) ((Array.range (1 * 19)).map ((Value.agg lit19).cells[· % (Value.agg lit19).cells.size]!)) [(0, .agg (rt r))] = some (rt r) := by
  obtain ⟨p, f, l, a⟩ := r
  obtain ⟨x0, x1, x2, x3, x4, x5, x6, x7, x8, x9, x10, x11, x12, x13, x14, x15, rfl⟩ := list16 h
  kernel_rfl
set_option maxRecDepth 100000 in
theorem wpList_build_route {ops : Array Oper} {rest : List Oper} {o : Oper} {a : Act} {w : World} {Q : Exit → Act → World → Prop} (hg : o.guard = none) (parts : Array (Nat × Operand)) (ho : o.op = .buildSlice 28 1 parts)
    (r : Rt) (hr : r.a.length = 16) (hp : (parts.map fun (i, x) => (i, a.eval x)).toList = [(0, .agg (rt r))])
    (h : wpList Tryd.prog ops Q rest (a.put o.dst (.slice (some ⟨w.heap.size, 0, none⟩) 1 1)) (w.alloc (.cells (rt r) 87))) : wpList Tryd.prog ops Q (o :: rest) a w := by
  have h1 : (Tryd.prog.info? 87).map (·.size) = some 19 := by kernel_rfl
  have h2 : (Tryd.prog.info? 87).bind (·.zero) = some (.agg lit19) := by kernel_rfl
  cases hie : Tryd.prog.info? 87 with
  | none => rw [hie] at h1; cases h1
  | some ie =>
    rw [hie] at h1 h2
    simp only [Option.map_some, Option.some.injEq, Option.bind_some] at h1 h2
    refine wpList_buildSlice hg 28 87 1 parts ho (rt r) ie (.agg lit19) Tryd.underlying28 hie h2 (by rw [h1]; decide) (by rw [h1]; decide) ?_ h
    rw [hp, h1]
    exact fill_route hr
theorem rt_one_mem {r : Rt} : ∀ u ∈ (rt r).toList, u.oneCell' = true := fun u hu => Array.all_eq_true_iff_forall_mem.1 (rt_one r) u (by simpa using hu)
def lenOf : Value → Nat
  | .slice _ n _ => n
  | _ => 0
end Go.Proofs.YtmlmgjdjbpipcaaDoor

/- nlri.Read: the walk -/
namespace Go.Proofs.YtmlmgjdjbpipcaaDoor
open Go.RowKit

theorem gr_row {a b c : World} {g : Nat} {row : Option Nat} (h : a.grownBy b (some g)) (k : b.grownBy c row) (hr : ∀ j, row = some j → a.heap.size ≤ j) : a.grownBy c (some g) :=
  ⟨k.os.trans h.os, k.tape.trans h.tape, k.output.trans h.output, Nat.le_trans h.size k.size, fun i hi hne => (k.block i (Nat.lt_of_lt_of_le hi h.size) (fun e => by have := hr i e.symm; omega)).trans (h.block i hi hne)⟩
theorem RdrB.row {B : Nat} {w w' : World} {g : Nat} {xs : List Int} {p : Nat} {row : Option Nat} (h : RdrB B w g xs p) (k : w.grownBy w' row) (hr : ∀ j, row = some j → B ≤ j ∧ g < j) : RdrB B w' g xs p :=
  h.keep k.size (fun b hb => k.block b (by have := h.size; have := h.lt; omega) (fun e => by have := hr b e.symm; omega))

/-- What nlri.Read returns. -/
def ReadsTo (f : Int) (add : Bool) (xs : List Int) (w : World) (v : Value) (at_ : Int) : Prop :=
  (∃ rs A c, at_ = -1 ∧ Parsed f add xs xs.length rs ∧ v = .slice A rs.length c ∧ rs.length ≤ c ∧ Routes w w.heap.size A rs.length rs) ∨
  (∃ p rs, at_ = ((p : Nat) : Int) ∧ p < xs.length ∧ Parsed f add xs p rs ∧ oneOk f add (xs.drop p) = false ∧ v = .slice none 0 0)

set_option maxHeartbeats 1600000 in
set_option maxRecDepth 100000 in
theorem nread_any (f : Int) (add : Bool) (A : Option Addr) (n c : Nat) (xs : List Int) (w : World) (hx : Bytes w w.heap.size A n xs) (hn : n ≤ 100000000) :
    Calls Tryd.prog 48 #[.int .i64 f, .bool add, .slice A n c] w fun e w' => ∃ v at_, e = .returned (.tuple #[v, .int .i64 at_]) ∧ ReadsTo f add xs w' v at_ ∧ Below w.heap.size w w' := by
  have hz19 : #[.int .u32 0, .int .i64 0, .int .i64 0, .int .u8 0, .int .u8 0, .int .u8 0, .int .u8 0, .int .u8 0, .int .u8 0, .int .u8 0, .int .u8 0, .int .u8 0, .int .u8 0, .int .u8 0, .int .u8 0, .int .u8 0, .int .u8 0, .int .u8 0, .int .u8 0] = rt rt0 := rt_zero.symm
  have HN := Lib.hid hx.1
  have HR := Lib.hid hx.2.1
  have hb0 := bl_alloc (bl_alloc (bl_refl w) (.cells #[.int .i64 f] 3)) (.cells #[.bool add] 4)
  have of := (Own.new w 3 #[.int .i64 f]).alloc (.cells #[.bool add] 4)
  have oa := Own.new (w.alloc (.cells #[.int .i64 f] 3)) 4 #[.bool add]
  have hsz : (w.alloc (.cells #[.int .i64 f] 3)).heap.size = w.heap.size + 1 := by simp
  rw [hsz] at oa
  have hx1 := (hx.below hb0).more hb0.size
  clear hsz
  go_enter Tryd.func48, Tryd.ntmps48
  go_wp2_with fail
  refine (new_any _ _ _ xs _ hx1 (by omega)).mono ?_
  rintro e w1 ⟨g, rfl, hg, hrd, hb1⟩
  have of1 := of.step hb1
  have oa1 := oa.step hb1
  have hb2 := bl_trans hb0 hb1
  clear of oa hb0 hb1 hx1
  go_wp2_with fail
  have HW : ∃ wS : World, wS = w1.alloc (.cells #[.pointer (some ⟨g, 0, none⟩)] 41) := ⟨_, rfl⟩
  obtain ⟨wS, hwS⟩ := HW
  have hb3 := bl_alloc (bl_refl w1) (.cells #[.pointer (some ⟨g, 0, none⟩)] 41)
  have or1 := Own.new w1 41 #[.pointer (some ⟨g, 0, none⟩)]
  have of2 := of1.step hb3
  have oa2 := oa1.step hb3
  have hrB := hrd.toB.below hb3
  have hbS := bl_trans hb2 hb3
  rw [← hwS] at or1 of2 oa2 hrB hbS ⊢
  have hgl := hrd.lt
  have hgw : w.heap.size + 1 < g := by simp at hg; omega
  have hlS : w1.heap.size + 1 = wS.heap.size := by rw [hwS]; simp
  clear hb3 of1 oa1 hrd hb2 hwS hg hx
  go_loopw [10] (fun v wr => ∃ (p : Nat) (rs : List Rt), Parsed f add xs p rs ∧ wr.ownsRow wS.heap.size 87 19 v rs.length (flatR rs) ∧ RdrB w1.heap.size wr g (xs.drop p) p ∧ wS.grownBy wr (some g)) (fun v _ => xs.length - lenOf v)
  case atStart => exact ⟨0, [], .nil, World.ownsRow_nil _ _ _ _, hrB, World.grownBy.refl _ _⟩
  case round =>
    obtain ⟨p, rs, hps, hown, hrd, hgr⟩ := hrel
    have hple := hps.le
    have hp0 := hple.1
    have hrl := hple.2
    have hcr := (or1.grown hgr (fun e => by cases e; omega))
    have hcf := (of2.grown hgr (fun e => by cases e; omega))
    have hca := (oa2.grown hgr (fun e => by cases e; omega))
    have hcr0 := hcr.cell (i := 0) rfl
    have HL := Lib.hid (show (xs.drop p).length = xs.length - p by rw [List.length_drop])
    have HV := own_val hown
    obtain ⟨A1, c1, rfl, hc1, _⟩ := HV
    clear hple
    by_cases hlt : p < xs.length
    · have HLT := Lib.hid hlt
      have h0 : (0 : Int) < ((xs.drop p).length : Int) := by rw [HL.out]; omega
      have HOK := Lib.hid (oneR_ok (f := f) (add := add) hrd.range)
      go_wp2_with fail
      refine (left_any g _ p _ hrd.rdr).mono ?_
      rintro e w' ⟨rfl, rfl⟩
      go_wp2_with fail
      refine (at_any g _ p _ hrd.rdr).mono ?_
      rintro e w' ⟨rfl, rfl⟩
      go_wp2_with fail
      refine (one_any w1.heap.size f add (xs.drop p) g p (w.heap.size + 1) w1.heap.size w.heap.size _ hrd (by rw [HL.out]; have := HN.out; omega) (by have := HN.out; omega) hca hcr hcf (by omega) (by omega)).mono ?_
      have hi19 := Lib.hid (rt_info HOK.out.1.1)
      have hs19 := Lib.hid (show (rt rt0).size = (rt (oneR f add (xs.drop p))).size by rw [rt_size HOK.out.1.1]; rfl)
      by_cases hk : oneOk f add (xs.drop p) = true
      · rw [hk]
        rintro e w2 ⟨rfl, hrd2, hg2⟩
        have hrd3 := hrd2 rfl
        rw [List.drop_drop] at hrd3
        have hps2 := Lib.hid (Parsed.cons hps hlt hk)
        have hgr2 := only_trans hgr hg2
        have hwr := hgr.size
        have hbase := own_base hown
        have hown2 := hown.kept hg2 (.inr (fun e => by have := hbase g e; omega))
        have o1 := Own.new w2 87 (rt rt0)
        have o2 := o1.setRow (cs' := rt (oneR f add (xs.drop p)))
        have hb3 : Below w2.heap.size w2 _ := bl_setRow (cs := rt (oneR f add (xs.drop p))) (bl_alloc (bl_refl w2) (.cells (rt rt0) 87)) (Nat.le_refl _)
        have hb4 := bl_alloc hb3 (.cells (rt (oneR f add (xs.drop p))) 87)
        have hown3 := own_below hown2 hb4
        have hrd4 := hrd3.below hb4
        have hgr4 := only_below hgr2 hb4
        have hs2 := hgr2.size
        have o4 := Own.new ((w2.alloc (.cells (rt rt0) 87)).setRow w2.heap.size (rt (oneR f add (xs.drop p)))) 87 (rt (oneR f add (xs.drop p)))
        have hsh := Shows.of_owned (xs := (rt (oneR f add (xs.drop p))).toList) o4 (Nat.lt_succ_self _)
        have hl19 := Lib.hid (show (rt (oneR f add (xs.drop p))).toList.length = 1 * 19 by rw [Array.length_toList, rt_size HOK.out.1.1])
        have HP := Lib.hid (Parsed.le hps2.out)
        clear hrd2 hk hown hg2 hrd3 hown2 hgr2 hb4
        go_wp2_with (first | (refine wpList_load_row rfl 87 _ rfl w2.heap.size rfl 87 (rt (oneR f add (xs.drop p))) (0, 0) (.struct (Tryd.prog.fieldsOf 87)) o2 rt_desc rfl hi19.out ?_) | (refine wpList_store_row rfl 87 _ _ rfl w2.heap.size (rt (oneR f add (xs.drop p))) rfl rfl 87 (rt rt0) o1 hi19.out hs19.out (rt_one _) ?_) | (refine wpList_build_route rfl _ rfl (oneR f add (xs.drop p)) HOK.out.1.1 (by simp only [List.map_toArray, List.map_cons, List.map_nil]; rfl) ?_) | (at_builtin; refine wpList_append_grow _ rfl _ _ rfl sl_routes wS.heap.size _ _ _ rfl hown3 _ _ 1 1 (rt (oneR f add (xs.drop p))).toList rfl hl19.out hsh rt_one_mem (by unfold maxLen; have := HN.out; omega) (by have := HN.out; omega) (by simp; omega) ?_; intro v5 w5 hown5 hgrow5))
        have hfr : flatR rs ++ (rt (oneR f add (xs.drop p))).toList = flatR (rs ++ [oneR f add (xs.drop p)]) := by simp [flatR]
        have hlr : rs.length + 1 = (rs ++ [oneR f add (xs.drop p)]).length := by simp
        rw [hfr, hlr] at hown5
        refine ⟨⟨_, _, hps2.out, hown5, hrd4.row hgrow5 (fun j hj => by have := hbase j hj; omega), gr_row hgr4 hgrow5 hbase⟩, ?_⟩
        obtain ⟨A5, c5, rfl, _⟩ := own_val hown5
        show xs.length - (rs ++ [oneR f add (xs.drop p)]).length < xs.length - rs.length
        rw [← hlr]
        omega
      · have hk' : oneOk f add (xs.drop p) = false := by simpa using hk
        rw [hk']
        rintro e w2 ⟨rfl, _, hg2⟩
        have hgr2 := only_trans hgr hg2
        have o1 := Own.new w2 87 (rt rt0)
        go_wp2_with (refine wpList_store_row rfl 87 _ _ rfl w2.heap.size (rt (oneR f add (xs.drop p))) rfl rfl 87 (rt rt0) o1 hi19.out hs19.out (rt_one _) ?_)
        go_ret2
        have hgr3 := only_setRow (k := w2.heap.size) (cs := rt (oneR f add (xs.drop p))) (only_below hgr2 (bl_alloc (bl_refl w2) (.cells (rt rt0) 87))) hgr2.size
        have hbw := hbS.trans (below_of_only (Below.refl _ _) hgr3 hbS.size (by omega))
        exact ⟨_, _, rfl, .inr ⟨p, rs, rfl, HLT.out, hps, hk', rfl⟩, hbw⟩
    · have hpe := Lib.hid (show p = xs.length by omega)
      have h0 : ¬ (0 : Int) < ((xs.drop p).length : Int) := by rw [HL.out]; omega
      go_wp2_with fail
      refine (left_any g _ p _ hrd.rdr).mono ?_
      rintro e w' ⟨rfl, rfl⟩
      go_wp2_with fail
      go_ret2
      rw [hpe.out] at hps
      have hbw : Below w.heap.size w wr := hbS.trans (below_of_only (Below.refl _ _) hgr hbS.size (by omega))
      obtain ⟨A2, c2, hv, hc2, hro⟩ := own_routes hown (hps.ok HR.out) rfl
      exact ⟨_, _, rfl, .inl ⟨rs, A2, c2, rfl, hps, hv, hc2, hro⟩, hbw⟩
end Go.Proofs.YtmlmgjdjbpipcaaDoor

/- what nlri.Read reads of the form of some routes -/
namespace Go.Proofs.YtmlmgjdjbpipcaaDoor
open Go.RowKit

theorem top_zero {x : Int} (h0 : 0 ≤ x) (h1 : x ≤ 255) : top x 0 = 0 := by
  unfold top
  rw [show (2 : Int) ^ (8 - 0) = 256 from rfl, Int.ediv_eq_zero_of_lt h0 (by omega)]; rfl
theorem mask_pad {l : Int} {a : List Int} (ha : IsAddr a) (h0 : 0 ≤ l) (h1 : l ≤ 128) : maskL l (padTo (a.take (sizeOfBits l).toNat)) = maskL l a := by
  have hs : (sizeOfBits l).toNat ≤ 16 := by unfold sizeOfBits; omega
  have hl : (a.take (sizeOfBits l).toNat).length = (sizeOfBits l).toNat := by rw [List.length_take, ha.1]; omega
  have hp : IsAddr (padTo (a.take (sizeOfBits l).toNat)) := padTo_addr (by omega) (fun x hx => ha.2 x (List.mem_of_mem_take hx))
  apply List.ext_getElem
  · rw [maskL_len, maskL_len, hp.1, ha.1]
  intro i q1 q2
  rw [maskL_len] at q1 q2
  have e1 := hp.2 _ (List.getElem_mem q1)
  have e2 := ha.2 _ (List.getElem_mem q2)
  simp only [maskL, List.getElem_mapIdx]
  by_cases hi : i < (sizeOfBits l).toNat
  · congr 1
    simp only [padTo]
    rw [List.getElem_append_left (by rw [hl]; exact hi), List.getElem_take]
  · have hk : (keep l i).toNat = 0 := by unfold keep; unfold sizeOfBits at hi; omega
    rw [hk, top_zero e1.1 e1.2, top_zero e2.1 e2.2]
theorem big_four (x : Int) (h0 : 0 ≤ x) (h1 : x ≤ 4294967295) : big (digitsOf 4 x) = x := by
  rw [digitsOf_4]; simp [big]; omega
theorem p_form {f l : Int} {a : List Int} (ha : IsAddr a) (hk : pfxOk f l a = true) (rest : List Int) :
    pOk f (pfxForm l a ++ rest) = true ∧ pN (pfxForm l a ++ rest) = (pfxForm l a).length ∧ pF f (pfxForm l a ++ rest) = f ∧ pL f (pfxForm l a ++ rest) = l ∧ pA f (pfxForm l a ++ rest) = a := by
  have hr := pfxOk_range hk
  have hs : (sizeOfBits l).toNat ≤ 16 := by unfold sizeOfBits; omega
  have hl : (a.take (sizeOfBits l).toNat).length = (sizeOfBits l).toNat := by rw [List.length_take, ha.1]; omega
  have hk2 := hk
  simp only [pfxOk, Bool.and_eq_true, decide_eq_true_eq] at hk2
  have e : pfxForm l a ++ rest = l :: (a.take (sizeOfBits l).toNat ++ rest) := rfl
  have hok : pOk f (pfxForm l a ++ rest) = true := by
    rw [e]
    simp only [pOk, hk2.1, Bool.true_and, decide_eq_true_eq, List.length_append, hl]
    omega
  have htk : ((pfxForm l a ++ rest).drop 1).take (sizeOfBits l).toNat = a.take (sizeOfBits l).toNat := by
    rw [e]
    show (a.take (sizeOfBits l).toNat ++ rest).take (sizeOfBits l).toNat = _
    rw [List.take_append_of_le_length (by omega), List.take_of_length_le (by omega)]
  have hh : (pfxForm l a ++ rest).headD 0 = l := rfl
  refine ⟨hok, ?_, ?_, ?_, ?_⟩
  · unfold pN; rw [hh]; unfold pfxForm; rw [List.length_cons, hl]; omega
  · unfold pF; rw [if_pos hok]
  · unfold pL; rw [if_pos hok, hh]
  · unfold pA; rw [if_pos hok, hh, htk, mask_pad ha hr.1 hr.2, hk2.2]
theorem one_form {f : Int} {add : Bool} {r : Rt} (ho : r.Ok) (hk : rtOk f add r = true) (rest : List Int) :
    oneOk f add (rtForm add r ++ rest) = true ∧ oneN add (rtForm add r ++ rest) = (rtForm add r).length ∧ oneR f add (rtForm add r ++ rest) = r := by
  obtain ⟨p, rf, l, a⟩ := r
  simp only [rtOk, Bool.and_eq_true, decide_eq_true_eq] at hk
  obtain ⟨⟨rfl, hp⟩, ha⟩ := hk
  cases add
  · simp only [Bool.false_or, decide_eq_true_eq] at ha
    subst ha
    obtain ⟨h1, h2, h3, h4, h5⟩ := p_form ho.1 hp rest
    have e : rtForm false ⟨0, rf, l, a⟩ = pfxForm l a := rfl
    rw [e]
    refine ⟨h1, h2, ?_⟩
    show Rt.mk 0 _ _ _ = _
    rw [h3, h4, h5]
  · obtain ⟨h1, h2, h3, h4, h5⟩ := p_form ho.1 hp rest
    have h4l := digitsOf_len 4 p
    have e : rtForm true ⟨p, rf, l, a⟩ = digitsOf 4 p ++ pfxForm l a := rfl
    have ed : (digitsOf 4 p ++ pfxForm l a ++ rest).drop 4 = pfxForm l a ++ rest := by
      rw [List.append_assoc, List.drop_append_of_le_length (by omega), List.drop_of_length_le (by omega)]; rfl
    have et : (digitsOf 4 p ++ pfxForm l a ++ rest).take 4 = digitsOf 4 p := by
      rw [List.append_assoc, List.take_append_of_le_length (by omega), List.take_of_length_le (by omega)]
    have hl : 4 ≤ (digitsOf 4 p ++ pfxForm l a ++ rest).length := by rw [List.append_assoc, List.length_append, h4l]; omega
    rw [e]
    refine ⟨?_, ?_, ?_⟩
    · simp only [oneOk, if_true, ed, h1, Bool.and_true, decide_eq_true_eq]; exact hl
    · show 4 + pN _ = _
      rw [ed, h2, List.length_append, h4l]
    · simp only [oneR, if_true, if_pos hl, ed, et, h3, h4, h5]
      rw [big_four p ho.2.1 ho.2.2]
theorem formAll_split {add : Bool} {rs : List Rt} {j : Nat} (h : j < rs.length) : formAll add rs = formAll add (rs.take j) ++ (rtForm add (nthR rs j) ++ formAll add (rs.drop (j + 1))) := by
  have e : rs = rs.take j ++ (nthR rs j :: rs.drop (j + 1)) := by
    have h1 := List.take_append_drop j rs
    have h2 : rs.drop j = nthR rs j :: rs.drop (j + 1) := by
      rw [List.drop_eq_getElem_cons h]
      congr 1
      have := nthR_some h
      rw [List.getElem?_eq_getElem h] at this
      exact Option.some.inj this
    rw [h2] at h1
    exact h1.symm
  have e2 : formAll add rs = formAll add (rs.take j ++ (nthR rs j :: rs.drop (j + 1))) := by rw [← e]
  rw [e2]
  simp [formAll]
theorem step_form {f : Int} {add : Bool} {rs : List Rt} (ho : ∀ r ∈ rs, r.Ok) (hk : rs.all (rtOk f add) = true) {j : Nat} (hj : j < rs.length) :
    oneOk f add ((formAll add rs).drop (formAll add (rs.take j)).length) = true ∧ oneN add ((formAll add rs).drop (formAll add (rs.take j)).length) = (rtForm add (nthR rs j)).length ∧ oneR f add ((formAll add rs).drop (formAll add (rs.take j)).length) = nthR rs j := by
  rw [formAll_split hj, List.drop_append_of_le_length (Nat.le_refl _), List.drop_of_length_le (Nat.le_refl _), List.nil_append]
  exact one_form (ho _ (nthR_mem hj)) (List.all_eq_true.1 hk _ (nthR_mem hj)) _
theorem rtForm_pos (add : Bool) (r : Rt) : 0 < (rtForm add r).length := by
  unfold rtForm pfxForm
  rw [List.length_append, List.length_cons]; omega
theorem parsed_form {f : Int} {add : Bool} {rs : List Rt} (ho : ∀ r ∈ rs, r.Ok) (hk : rs.all (rtOk f add) = true) {p : Nat} {rs' : List Rt} (h : Parsed f add (formAll add rs) p rs') :
    ∃ j, j ≤ rs.length ∧ rs' = rs.take j ∧ p = (formAll add (rs.take j)).length := by
  induction h with
  | nil => exact ⟨0, Nat.zero_le _, rfl, rfl⟩
  | @cons p rs' h hp hk' ih =>
    obtain ⟨j, hj, rfl, rfl⟩ := ih
    have hj' : j < rs.length := by
      rcases Nat.lt_or_ge j rs.length with h1 | h1
      · exact h1
      · rw [List.take_of_length_le h1] at hp; omega
    obtain ⟨_, h2, h3⟩ := step_form ho hk hj'
    refine ⟨j + 1, hj', ?_, ?_⟩
    · rw [h3, take_nthR hj']
    · rw [h2, formAll_take hj', List.length_append]
theorem parsed_all {f : Int} {add : Bool} {rs : List Rt} (ho : ∀ r ∈ rs, r.Ok) (hk : rs.all (rtOk f add) = true) {rs' : List Rt} (h : Parsed f add (formAll add rs) (formAll add rs).length rs') : rs' = rs := by
  obtain ⟨j, hj, rfl, hp⟩ := parsed_form ho hk h
  rcases Nat.lt_or_ge j rs.length with h1 | h1
  · rw [formAll_split h1, List.length_append, List.length_append] at hp
    have := rtForm_pos add (nthR rs j)
    omega
  · exact List.take_of_length_le h1
theorem parsed_go {f : Int} {add : Bool} {rs : List Rt} (ho : ∀ r ∈ rs, r.Ok) (hk : rs.all (rtOk f add) = true) {p : Nat} {rs' : List Rt} (h : Parsed f add (formAll add rs) p rs') (hp : p < (formAll add rs).length) : oneOk f add ((formAll add rs).drop p) = true := by
  obtain ⟨j, hj, rfl, rfl⟩ := parsed_form ho hk h
  rcases Nat.lt_or_ge j rs.length with h1 | h1
  · exact (step_form ho hk h1).1
  · rw [List.take_of_length_le h1] at hp; omega
end Go.Proofs.YtmlmgjdjbpipcaaDoor

/- routes that are equal: '!=' says no -/
namespace Go.Proofs.YtmlmgjdjbpipcaaDoor
open Go.RowKit
open Go.RowKit Extern.Stop

set_option maxRecDepth 100000 in
theorem part_pfx {r : Rt} (h : r.a.length = 16) (W : World) : (Go.part 85 (rt r) 1).run Tryd.prog W = Result.ok (.agg (pfx r.f r.l r.a)) W := by
  obtain ⟨p, f, l, a⟩ := r
  obtain ⟨x0, x1, x2, x3, x4, x5, x6, x7, x8, x9, x10, x11, x12, x13, x14, x15, rfl⟩ := list16 h
  kernel_rfl
set_option maxRecDepth 100000 in
theorem part_path {r : Rt} (h : r.a.length = 16) (W : World) : (Go.part 24 (rt r) 0).run Tryd.prog W = Result.ok (.int .u32 r.p) W := by
  obtain ⟨p, f, l, a⟩ := r
  obtain ⟨x0, x1, x2, x3, x4, x5, x6, x7, x8, x9, x10, x11, x12, x13, x14, x15, rfl⟩ := list16 h
  kernel_rfl
set_option maxRecDepth 100000 in
theorem part_fam {f l : Int} {a : List Int} (h : a.length = 16) (W : World) : (Go.part 3 (pfx f l a) 0).run Tryd.prog W = Result.ok (.int .i64 f) W := by
  obtain ⟨x0, x1, x2, x3, x4, x5, x6, x7, x8, x9, x10, x11, x12, x13, x14, x15, rfl⟩ := list16 h
  kernel_rfl
set_option maxRecDepth 100000 in
theorem part_len {f l : Int} {a : List Int} (h : a.length = 16) (W : World) : (Go.part 3 (pfx f l a) 1).run Tryd.prog W = Result.ok (.int .i64 l) W := by
  obtain ⟨x0, x1, x2, x3, x4, x5, x6, x7, x8, x9, x10, x11, x12, x13, x14, x15, rfl⟩ := list16 h
  kernel_rfl
set_option maxRecDepth 100000 in
theorem part_addr {f l : Int} {a : List Int} (h : a.length = 16) (W : World) : (Go.part 83 (pfx f l a) 2).run Tryd.prog W = Result.ok (.agg (arr a)) W := by
  obtain ⟨x0, x1, x2, x3, x4, x5, x6, x7, x8, x9, x10, x11, x12, x13, x14, x15, rfl⟩ := list16 h
  kernel_rfl
set_option maxRecDepth 100000 in
theorem eqIn_arr (d : Nat) {a : List Int} (ha : IsAddr a) (W : World) : (Op.equalIn (d + 2) 83 (.agg (arr a)) (.agg (arr a))).run Tryd.prog W = Result.ok true W := by
  obtain ⟨us, rfl⟩ := bytes_lift a ha.2
  have e : arr (us.map (fun u => (u.toNat : Int))) = (us.map cell).toArray := by
    unfold arr; rw [List.map_map]; rfl
  have hl : us.length = 16 := by have := ha.1; simpa using this
  rw [e, run_equalIn_bytes W d 83 5 16 Tryd.underlying83 Tryd.underlying5 (fun _ => by kernel_rfl) us us hl hl]
  simp
theorem fields3 {fs : List Field} {n1 n2 n3 : String} {t1 t2 t3 : TypeId} {o1 o2 o3 : Nat} (hf : fs.map (fun x => (x.name, x.type, x.offset)) = [(n1, t1, o1), (n2, t2, o2), (n3, t3, o3)]) :
    ∃ f1 f2 f3 : Field, fs = [f1, f2, f3] ∧ (f1.name = n1 ∧ f1.type = t1 ∧ f1.offset = o1) ∧ (f2.name = n2 ∧ f2.type = t2 ∧ f2.offset = o2) ∧ f3.name = n3 ∧ f3.type = t3 ∧ f3.offset = o3 := by
  obtain ⟨f1, g1, rfl, h1, hf⟩ := List.map_eq_cons_iff.1 hf
  obtain ⟨f2, g2, rfl, h2, hf⟩ := List.map_eq_cons_iff.1 hf
  obtain ⟨f3, g3, rfl, h3, hf⟩ := List.map_eq_cons_iff.1 hf
  rw [List.map_eq_nil_iff] at hf
  subst hf
  simp only [Prod.mk.injEq] at h1 h2 h3
  exact ⟨f1, f2, f3, rfl, h1, h2, h3⟩
theorem fields2 {fs : List Field} {n1 n2 : String} {t1 t2 : TypeId} {o1 o2 : Nat} (hf : fs.map (fun x => (x.name, x.type, x.offset)) = [(n1, t1, o1), (n2, t2, o2)]) :
    ∃ f1 f2 : Field, fs = [f1, f2] ∧ (f1.name = n1 ∧ f1.type = t1 ∧ f1.offset = o1) ∧ f2.name = n2 ∧ f2.type = t2 ∧ f2.offset = o2 := by
  obtain ⟨f1, g1, rfl, h1, hf⟩ := List.map_eq_cons_iff.1 hf
  obtain ⟨f2, g2, rfl, h2, hf⟩ := List.map_eq_cons_iff.1 hf
  rw [List.map_eq_nil_iff] at hf
  subst hf
  simp only [Prod.mk.injEq] at h1 h2
  exact ⟨f1, f2, rfl, h1, h2⟩
set_option maxRecDepth 100000 in
theorem eqIn_pfx (d : Nat) {f l : Int} {a : List Int} (ha : IsAddr a) (W : World) : (Op.equalIn (d + 3) 85 (.agg (pfx f l a)) (.agg (pfx f l a))).run Tryd.prog W = Result.ok true W := by
  have hz := Tryd.underlying3
  rw [run_equalIn_agg W (d + 2) 85 _ _ pfx_desc (by kernel_rfl)]
  have hf : (Tryd.prog.fieldsOf 85).toList.map (fun x => (x.name, x.type, x.offset)) = [("Fam", 3, 0), ("Len", 3, 1), ("Addr", 83, 2)] := by kernel_rfl
  obtain ⟨f1, f2, f3, e, ⟨n1, t1, o1⟩, ⟨n2, t2, o2⟩, n3, t3, o3⟩ := fields3 hf
  have q1 : ∀ W, (Op.equalIn (d + 2) 3 (.int .i64 f) (.int .i64 f)).run Tryd.prog W = Result.ok true W := fun W => by rw [run_equalIn_int W (d + 1) 3 .i64 .i64 _ _ hz]; simp
  have q2 : ∀ W, (Op.equalIn (d + 2) 3 (.int .i64 l) (.int .i64 l)).run Tryd.prog W = Result.ok true W := fun W => by rw [run_equalIn_int W (d + 1) 3 .i64 .i64 _ _ hz]; simp
  rw [e]
  simp only [Op.eqFields, n1, t1, o1, n2, t2, o2, n3, t3, o3]
  simp only [show ("Fam" ≠ "_") = True by decide, show ("Len" ≠ "_") = True by decide, show ("Addr" ≠ "_") = True by decide, if_true, Sem.run_bind, part_fam ha.1, part_len ha.1, part_addr ha.1, Result.andThen_ok, q1, q2, eqIn_arr d ha, Bool.not_true, Bool.false_eq_true, if_false, Sem.run_pure]
set_option maxRecDepth 100000 in
theorem eqIn_rt (d : Nat) {r : Rt} (ho : r.Ok) (W : World) : (Op.equalIn (d + 4) 87 (.agg (rt r)) (.agg (rt r))).run Tryd.prog W = Result.ok true W := by
  have hz := Tryd.underlying24
  rw [run_equalIn_agg W (d + 3) 87 _ _ rt_desc (by kernel_rfl)]
  have hf : (Tryd.prog.fieldsOf 87).toList.map (fun x => (x.name, x.type, x.offset)) = [("Path", 24, 0), ("Prefix", 85, 1)] := by kernel_rfl
  obtain ⟨f1, f2, e, ⟨n1, t1, o1⟩, n2, t2, o2⟩ := fields2 hf
  have q1 : ∀ W, (Op.equalIn (d + 3) 24 (.int .u32 r.p) (.int .u32 r.p)).run Tryd.prog W = Result.ok true W := fun W => by rw [run_equalIn_int W (d + 2) 24 .u32 .u32 _ _ hz]; simp
  rw [e]
  simp only [Op.eqFields, n1, t1, o1, n2, t2, o2]
  simp only [show ("Path" ≠ "_") = True by decide, show ("Prefix" ≠ "_") = True by decide, if_true, Sem.run_bind, part_path ho.1.1, part_pfx ho.1.1, Result.andThen_ok, q1, eqIn_pfx d ho.1, Bool.not_true, Bool.false_eq_true, if_false, Sem.run_pure]
set_option maxRecDepth 100000 in
theorem neq_rt {r : Rt} (ho : r.Ok) (W : World) : (binOp .neq 87 (.agg (rt r)) (.agg (rt r))).run Tryd.prog W = Result.ok (.bool false) W := by
  rw [run_neq_struct W, eqIn_rt 9996 ho]
  rfl
end Go.Proofs.YtmlmgjdjbpipcaaDoor

/- peerageref03.Same at equal lists (as in XSpD, with few imports) -/
namespace Go.Proofs.YtmlmgjdjbpipcaaDoor
open Go.RowKit

set_option maxHeartbeats 3200000 in
set_option maxRecDepth 100000 in
theorem rsame3_same (A A' : Option Addr) (n c c' : Nat) (rs : List Rt) (w : World) (B B' : Nat) (hx : Routes w B A n rs) (hy : Routes w B' A' n rs) (hn : n ≤ 1000000000) :
    Calls Tryd.prog 50 #[.slice A n c, .slice A' n c'] w fun e w' => e = .returned (.bool true) ∧ Below w.heap.size w w' := by
  have HN := Lib.hid hx.1
  have q0 : ((n : Int) != (n : Int)) = false := by simp
  go_enter Tryd.func50, Tryd.ntmps50
  go_wp2
  go_loopw [5] (fun i wr => ∃ (k m : Nat), k ≤ n ∧ i = .int .i64 k ∧ wr = w.drewN m) (fun i _ => n - (intOf i).toNat)
  case atStart => exact ⟨0, 0, Nat.zero_le _, rfl, rfl⟩
  case round =>
    obtain ⟨k, m, hk, rfl, rfl⟩ := hrel
    by_cases hlt : k < n
    · obtain ⟨b, o, rfl, hb, hok, hr⟩ := hx.at_ hlt
      obtain ⟨b', o', rfl, hb', _, hr'⟩ := hy.at_ hlt
      have hneq := neq_rt hok
      have hi19 := Lib.hid (rt_infol hok.1.1)
      go_wp2_with fail
      refine wp_region_held_drew (S := (fun W => W.rangeAt b (o + k * 19) (rt (nthR rs k)).toList ∧ W.rangeAt b' (o' + k * 19) (rt (nthR rs k)).toList)) (by kernel_rfl) ⟨hr, hr'⟩ (fun hHeld => ?_)
      refine wpAnyH_take (i := 0) (v := ?_) rfl (by kernel_rfl) (by kernel_rfl) (by kernel_rfl) (fun _ _ _ h => h) (Or.inl ⟨by rfl, ?_⟩) (by assumption) ?_
      rotate_left
      · (intro W hSw; obtain ⟨s0, s1⟩ := hSw; go_simp; try with_reducible rfl)
      simp only [Act.put, List.getElem_toArray, List.getElem_cons_zero, List.setIfInBounds_toArray, List.set_cons_zero, List.set_cons_succ]
      refine wpAnyH_take (i := 1) (v := ?_) rfl (by kernel_rfl) (by kernel_rfl) (by kernel_rfl) (fun _ _ _ h => h) (Or.inl ⟨by rfl, ?_⟩) (by assumption) ?_
      rotate_left
      · (intro W hSw; obtain ⟨s0, s1⟩ := hSw; go_simp; try with_reducible rfl)
      simp only [Act.put, List.getElem_toArray, List.getElem_cons_zero, List.getElem_cons_succ, List.setIfInBounds_toArray, List.set_cons_zero, List.set_cons_succ]
      refine wpAnyH_take (i := 2) (v := ?_) rfl (by kernel_rfl) (by kernel_rfl) (by kernel_rfl) (fun _ _ _ h => h) (Or.inl ⟨by rfl, ?_⟩) (by assumption) ?_
      rotate_left
      · (intro W hSw; obtain ⟨s0, s1⟩ := hSw; go_simp; try with_reducible rfl)
      simp only [Act.put, List.getElem_toArray, List.getElem_cons_zero, List.getElem_cons_succ, List.setIfInBounds_toArray, List.set_cons_zero, List.set_cons_succ]
      refine wpAnyH_take (i := 3) (v := _) rfl (by kernel_rfl) (by kernel_rfl) (by kernel_rfl) (fun _ _ _ h => h) (yieldsIf_load_mid (by rfl) 87 _ rfl b (o + k * 19) rfl (rt (nthR rs k)).toList _ (fun W hW => hW.1) rt_desc rfl hi19.out) (by assumption) ?_
      simp only [Act.put, List.getElem_toArray, List.getElem_cons_zero, List.getElem_cons_succ, List.setIfInBounds_toArray, List.set_cons_zero, List.set_cons_succ]
      refine wpAnyH_take (i := 4) (v := ?_) rfl (by kernel_rfl) (by kernel_rfl) (by kernel_rfl) (fun _ _ _ h => h) (Or.inl ⟨by rfl, ?_⟩) (by assumption) ?_
      rotate_left
      · (intro W hSw; obtain ⟨s0, s1⟩ := hSw; go_simp; try with_reducible rfl)
      simp only [Act.put, List.getElem_toArray, List.getElem_cons_zero, List.getElem_cons_succ, List.setIfInBounds_toArray, List.set_cons_zero, List.set_cons_succ]
      refine wpAnyH_take (i := 5) (v := ?_) rfl (by kernel_rfl) (by kernel_rfl) (by kernel_rfl) (fun _ _ _ h => h) (Or.inl ⟨by rfl, ?_⟩) (by assumption) ?_
      rotate_left
      · (intro W hSw; obtain ⟨s0, s1⟩ := hSw; go_simp; try with_reducible rfl)
      simp only [Act.put, List.getElem_toArray, List.getElem_cons_zero, List.getElem_cons_succ, List.setIfInBounds_toArray, List.set_cons_zero, List.set_cons_succ]
      refine wpAnyH_take (i := 6) (v := ?_) rfl (by kernel_rfl) (by kernel_rfl) (by kernel_rfl) (fun _ _ _ h => h) (Or.inl ⟨by rfl, ?_⟩) (by assumption) ?_
      rotate_left
      · (intro W hSw; obtain ⟨s0, s1⟩ := hSw; go_simp; try with_reducible rfl)
      simp only [Act.put, List.getElem_toArray, List.getElem_cons_zero, List.getElem_cons_succ, List.setIfInBounds_toArray, List.set_cons_zero, List.set_cons_succ]
      refine wpAnyH_take (i := 7) (v := _) rfl (by kernel_rfl) (by kernel_rfl) (by kernel_rfl) (fun _ _ _ h => h) (yieldsIf_load_mid (by rfl) 87 _ rfl b' (o' + k * 19) rfl (rt (nthR rs k)).toList _ (fun W hW => hW.2) rt_desc rfl hi19.out) (by assumption) ?_
      simp only [Act.put, List.getElem_toArray, List.getElem_cons_zero, List.getElem_cons_succ, List.setIfInBounds_toArray, List.set_cons_zero, List.set_cons_succ]
      refine wpAnyH_take (i := 8) (v := ?_) rfl (by kernel_rfl) (by kernel_rfl) (by kernel_rfl) (fun _ _ _ h => h) (Or.inl ⟨by rfl, ?_⟩) (by assumption) ?_
      rotate_left
      · (intro W hSw; obtain ⟨s0, s1⟩ := hSw; go_simp; try with_reducible rfl)
      simp only [Act.put, List.getElem_toArray, List.getElem_cons_zero, List.getElem_cons_succ, List.setIfInBounds_toArray, List.set_cons_zero, List.set_cons_succ]
      refine wpAnyH_done (by kernel_rfl) ?_ _
      go_wp2
      go_roundw
      case rel => exact ⟨k + 1, m + 1, by omega, by go_num, rfl⟩
      case measure => simp [intOf]; omega
    · go_wp2
      go_ret
      exact ⟨rfl, bl_drewN (bl_refl w) m⟩
end Go.Proofs.YtmlmgjdjbpipcaaDoor
