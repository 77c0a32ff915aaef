/- the closure of nlri.Read -/
import Derived.Test.YteoegejbaahlpaaNs
namespace Go.Proofs.Yteoegejbaahlpaa
open Go.RowKit

def pOk (f : Int) (xs : List Int) : Bool := match xs with
  | [] => false
  | x :: ys => lenOk f x && decide ((sizeOfBits x).toNat ≤ ys.length)
def pN (xs : List Int) : Nat := 1 + (sizeOfBits (xs.headD 0)).toNat
def pF (f : Int) (xs : List Int) : Int := if pOk f xs then f else 0
def pL (f : Int) (xs : List Int) : Int := if pOk f xs then xs.headD 0 else 0
def pA (f : Int) (xs : List Int) : List Int := if pOk f xs then maskL (xs.headD 0) (padTo ((xs.drop 1).take (sizeOfBits (xs.headD 0)).toNat)) else zero16
theorem pA_addr {f : Int} {xs : List Int} (h : ∀ x ∈ xs, 0 ≤ x ∧ x ≤ 255) : IsAddr (pA f xs) := by
  unfold pA
  by_cases hk : pOk f xs = true
  · rw [if_pos hk]
    match xs, hk, h with
    | x :: ys, hk, h =>
      simp only [pOk, Bool.and_eq_true, decide_eq_true_eq] at hk
      have hr := lenOk_range hk.1
      have h5 : sizeOfBits x ≤ 16 := by unfold sizeOfBits; omega
      exact maskL_addr x (padTo_addr (by simp only [List.drop_one, List.tail_cons, List.headD_cons, List.length_take]; omega) (fun y hy => h y (List.mem_cons_of_mem _ (List.mem_of_mem_take hy))))
  · rw [if_neg hk]; exact zero16_addr

set_option maxRecDepth 100000 in
theorem pread_any (B : Nat) (f : Int) (xs : List Int) (g p : Nat) (w : World) (h : RdrB B w g xs p) (hl : xs.length ≤ 1000000000) (hp : p ≤ 999999999) :
    Calls Try.prog 62 #[.int .i64 f, .pointer (some ⟨g, 0, none⟩)] w fun e w' => e = .returned (.tuple #[.agg (pfx (pF f xs) (pL f xs) (pA f xs)), .bool (pOk f xs)]) ∧ (pOk f xs = true → RdrB B w' g (xs.drop (pN xs)) (p + pN xs)) ∧ w.grownBy w' (some g) := by
  match xs, h, hl with
  | [], h, hl =>
    refine (pread_nil f g p w h.rdr).mono ?_
    rintro e w' ⟨rfl, hb⟩
    exact ⟨rfl, (by intro hh; simp [pOk] at hh), only_of_below hb _⟩
  | x :: ys, h, hl =>
    by_cases h1 : lenOk f x = true
    · by_cases h2 : (sizeOfBits x).toNat ≤ ys.length
      · have hk : pOk f (x :: ys) = true := by simp [pOk, h1, h2]
        refine (pread_yes B f x ys g p w h hl hp h1 h2).mono ?_
        rintro e w' ⟨rfl, hr, hg⟩
        refine ⟨by simp [pF, pL, pA, hk], fun _ => ?_, hg⟩
        have e1 : (x :: ys).drop (pN (x :: ys)) = ys.drop (sizeOfBits x).toNat := by unfold pN; rw [Nat.add_comm, List.headD_cons, List.drop_succ_cons]
        have e2 : p + pN (x :: ys) = p + 1 + (sizeOfBits x).toNat := by unfold pN; rw [List.headD_cons]; omega
        rw [e1, e2]; exact hr
      · have hk : pOk f (x :: ys) = false := by simp [pOk, h2]
        refine (pread_short B f x ys g p w h hl hp h1 (by omega)).mono ?_
        rintro e w' ⟨rfl, hr, hg⟩
        exact ⟨by simp [pF, pL, pA, hk], (by rw [hk]; intro hh; cases hh), hg⟩
    · have h1' : lenOk f x = false := by simpa using h1
      have hk : pOk f (x :: ys) = false := by simp [pOk, h1']
      refine (pread_bad B f x ys g p w h hl (by omega) h1').mono ?_
      rintro e w' ⟨rfl, hr, hg⟩
      exact ⟨by simp [pF, pL, pA, hk], (by rw [hk]; intro hh; cases hh), hg⟩

/-- One route before the bytes xs. -/
def oneOk (f : Int) (add : Bool) (xs : List Int) : Bool := if add then decide (4 ≤ xs.length) && pOk f (xs.drop 4) else pOk f xs
def oneN (add : Bool) (xs : List Int) : Nat := if add then 4 + pN (xs.drop 4) else pN xs
def oneR (f : Int) (add : Bool) (xs : List Int) : Rt := if add then (if 4 ≤ xs.length then ⟨big (xs.take 4), pF f (xs.drop 4), pL f (xs.drop 4), pA f (xs.drop 4)⟩ else rt0) else ⟨0, pF f xs, pL f xs, pA f xs⟩

set_option maxRecDepth 100000 in
theorem built_rt (p f l : Int) {m : List Int} (h : m.length = 16) : Try.prog.built 33 [(0, .int .u32 p), (1, .agg (pfx f l m))] = some (rt ⟨p, f, l, m⟩) := by
  obtain ⟨x0, x1, x2, x3, x4, x5, x6, x7, x8, x9, x10, x11, x12, x13, x14, x15, rfl⟩ := list16 h
  kernel_rfl

set_option maxHeartbeats 800000 in
set_option maxRecDepth 100000 in
theorem one_false (B : Nat) (f : Int) (xs : List Int) (g p ca cr cf : Nat) (w : World) (h : RdrB B w g xs p) (hl : xs.length ≤ 1000000000) (hp : p ≤ 999999999)
    (ha : Own w ca 4 #[.bool false]) (hr : Own w cr 57 #[.pointer (some ⟨g, 0, none⟩)]) (hf : Own w cf 3 #[.int .i64 f]) :
    Calls Try.prog 60 #[.pointer (some ⟨ca, 0, none⟩), .pointer (some ⟨cr, 0, none⟩), .pointer (some ⟨cf, 0, none⟩)] w fun e w' => e = .returned (.tuple #[.agg (rt (oneR f false xs)), .bool (oneOk f false xs)]) ∧ (oneOk f false xs = true → RdrB B w' g (xs.drop (oneN false xs)) (p + oneN false xs)) ∧ w.grownBy w' (some g) := by
  have hz19 : #[.int .u32 0, .int .i64 0, .int .i64 0, .int .u8 0, .int .u8 0, .int .u8 0, .int .u8 0, .int .u8 0, .int .u8 0, .int .u8 0, .int .u8 0, .int .u8 0, .int .u8 0, .int .u8 0, .int .u8 0, .int .u8 0, .int .u8 0, .int .u8 0, .int .u8 0] = rt rt0 := rt_zero.symm
  have hz18 : #[.int .i64 0, .int .i64 0, .int .u8 0, .int .u8 0, .int .u8 0, .int .u8 0, .int .u8 0, .int .u8 0, .int .u8 0, .int .u8 0, .int .u8 0, .int .u8 0, .int .u8 0, .int .u8 0, .int .u8 0, .int .u8 0, .int .u8 0, .int .u8 0] = pfx 0 0 zero16 := pfx_zero.symm
  have hgl := h.lt
  have hBs := h.size
  have hb0 := bl_alloc (bl_refl w) (.cells (rt rt0) 33)
  have ho := Own.new w 33 (rt rt0)
  have h1 := h.below hb0
  have ha1 := (ha.step hb0).cell (i := 0) rfl
  have hr1 := (hr.step hb0)
  have hf1 := (hf.step hb0)
  have hr2 := hr1.cell (i := 0) rfl
  have hf2 := hf1.cell (i := 0) rfl
  clear ha hr hf
  go_enter Try.func60, Try.ntmps60
  go_wp2_with fail
  refine (pread_any B f xs g p _ h1 hl hp).mono ?_
  rintro e w1 ⟨rfl, hrd, hg⟩
  have hpa := pA_addr (f := f) h.range
  have ho1 := ho.grown hg (fun e => by cases e; omega)
  have hg1 := only_trans (only_of_below hb0 (some g)) hg
  have hi18 := Lib.hid (pfx_info (f := pF f xs) (l := pL f xs) hpa.1)
  have hi19 := Lib.hid (rt_info (r := ⟨0, pF f xs, pL f xs, pA f xs⟩) hpa.1)
  have hs19 := Lib.hid (show (rt rt0).size = (rt ⟨0, pF f xs, pL f xs, pA f xs⟩).size by rw [rt_size (r := ⟨0, pF f xs, pL f xs, pA f xs⟩) hpa.1]; rfl)
  have hbn := Lib.hid (built_rt 0 (pF f xs) (pL f xs) hpa.1)
  have o1 := Own.new w1 31 (pfx 0 0 zero16)
  have o2 := o1.setRow (cs' := pfx (pF f xs) (pL f xs) (pA f xs))
  have o3 : Own ((w1.alloc (.cells (pfx 0 0 zero16) 31)).setRow w1.heap.size (pfx (pF f xs) (pL f xs) (pA f xs))) w.heap.size 33 (rt rt0) := by
    refine (ho1.alloc _).keep (setRow_other _ _ _ _ ?_)
    have := ho1.lt
    omega
  have hs1 := ho1.lt
  have hfin := o3.setRow (cs' := rt ⟨0, pF f xs, pL f xs, pA f xs⟩)
  go_wp2_with (first | (refine wpList_load_row rfl 31 _ rfl w1.heap.size rfl 31 (pfx (pF f xs) (pL f xs) (pA f xs)) (0, 0) (.struct (Try.prog.fieldsOf 31)) o2 pfx_desc rfl hi18.out ?_) | (refine wpList_build_to rfl 33 _ rfl (rt ⟨0, pF f xs, pL f xs, pA f xs⟩) (by simp only [List.map_toArray, List.map_cons, List.map_nil]; exact hbn.out) ?_) | (refine wpList_store_row rfl 31 _ _ rfl w1.heap.size (pfx (pF f xs) (pL f xs) (pA f xs)) rfl rfl 31 (pfx 0 0 zero16) o1 hi18.out (by rw [pfx_size hpa.1]; rfl) (pfx_one _ _ _) ?_) | (refine wpList_store_row rfl 33 _ _ rfl w.heap.size (rt ⟨0, pF f xs, pL f xs, pA f xs⟩) rfl rfl 33 (rt rt0) o3 hi19.out hs19.out (rt_one _) ?_))
  refine bodyPost_ret (v := .tuple #[.agg (rt ⟨0, pF f xs, pL f xs, pA f xs⟩), .bool (pOk f xs)]) (results_cell_tmp (p := 3) (t := 4) (fn := Try.f60) rfl _ _ w.heap.size 33 (rt ⟨0, pF f xs, pL f xs, pA f xs⟩) _ rfl hfin rt_desc rfl hi19.out) rfl ?_
  refine ⟨rfl, fun hk => ?_, ?_⟩
  · exact (((hrd hk).below (bl_alloc (bl_refl w1) _)).setRow (by have := hg1.size; omega) (by have := hg1.size; omega)).setRow hBs (by omega)
  · exact only_setRow (only_setRow (only_below hg1 (bl_alloc (bl_refl w1) _)) hg1.size) (Nat.le_refl _)

set_option maxHeartbeats 800000 in
set_option maxRecDepth 100000 in
theorem one_short (B : Nat) (f : Int) (xs : List Int) (g p ca cr cf : Nat) (w : World) (h : RdrB B w g xs p) (hl : xs.length ≤ 1000000000) (hlen : xs.length < 4)
    (ha : Own w ca 4 #[.bool true]) (hr : Own w cr 57 #[.pointer (some ⟨g, 0, none⟩)]) (hf : Own w cf 3 #[.int .i64 f]) :
    Calls Try.prog 60 #[.pointer (some ⟨ca, 0, none⟩), .pointer (some ⟨cr, 0, none⟩), .pointer (some ⟨cf, 0, none⟩)] w fun e w' => e = .returned (.tuple #[.agg (rt (oneR f true xs)), .bool (oneOk f true xs)]) ∧ (oneOk f true xs = true → RdrB B w' g (xs.drop (oneN true xs)) (p + oneN true xs)) ∧ w.grownBy w' (some g) := by
  have hz19 : #[.int .u32 0, .int .i64 0, .int .i64 0, .int .u8 0, .int .u8 0, .int .u8 0, .int .u8 0, .int .u8 0, .int .u8 0, .int .u8 0, .int .u8 0, .int .u8 0, .int .u8 0, .int .u8 0, .int .u8 0, .int .u8 0, .int .u8 0, .int .u8 0, .int .u8 0] = rt rt0 := rt_zero.symm
  have hz18 : #[.int .i64 0, .int .i64 0, .int .u8 0, .int .u8 0, .int .u8 0, .int .u8 0, .int .u8 0, .int .u8 0, .int .u8 0, .int .u8 0, .int .u8 0, .int .u8 0, .int .u8 0, .int .u8 0, .int .u8 0, .int .u8 0, .int .u8 0, .int .u8 0] = pfx 0 0 zero16 := pfx_zero.symm
  have hgl := h.lt
  have hBs := h.size
  have hb0 := bl_alloc (bl_refl w) (.cells (rt rt0) 33)
  have ho := Own.new w 33 (rt rt0)
  have h1 := h.below hb0
  have ha1 := (ha.step hb0).cell (i := 0) rfl
  have hr1 := (hr.step hb0)
  have hf1 := (hf.step hb0)
  have hr2 := hr1.cell (i := 0) rfl
  have hf2 := hf1.cell (i := 0) rfl
  clear ha hr hf
  have HO := Lib.hid (show oneOk f true xs = false ∧ oneR f true xs = rt0 by constructor <;> simp [oneOk, oneR] <;> omega)
  go_enter Try.func60, Try.ntmps60
  go_wp2_with fail
  refine (number_no g xs p 4 _ h1.rdr hl (by omega) (by omega) (by omega)).mono ?_
  rintro e w1 ⟨rfl, rfl⟩
  have hfin := ho.setRow (cs' := rt rt0)
  go_wp2_with (refine wpList_store_row rfl 33 _ _ rfl w.heap.size (rt rt0) rfl rfl 33 (rt rt0) ho (rt_info rfl) rfl (rt_one _) ?_)
  refine bodyPost_ret (v := .tuple #[.agg (rt rt0), .bool false]) (results_cell_tmp (p := 3) (t := 4) (fn := Try.f60) rfl _ _ w.heap.size 33 (rt rt0) _ rfl hfin rt_desc rfl (rt_info rfl)) rfl ?_
  rw [HO.out.1, HO.out.2]
  exact ⟨rfl, (by intro hh; cases hh), only_setRow (only_of_below hb0 _) (Nat.le_refl _)⟩

set_option maxHeartbeats 800000 in
set_option maxRecDepth 100000 in
theorem one_true (B : Nat) (f : Int) (xs : List Int) (g p ca cr cf : Nat) (w : World) (h : RdrB B w g xs p) (hl : xs.length ≤ 1000000000) (hp : p ≤ 999999990) (hlen : 4 ≤ xs.length)
    (ha : Own w ca 4 #[.bool true]) (hr : Own w cr 57 #[.pointer (some ⟨g, 0, none⟩)]) (hf : Own w cf 3 #[.int .i64 f]) (hr' : cr ≠ g) (hf' : cf ≠ g) :
    Calls Try.prog 60 #[.pointer (some ⟨ca, 0, none⟩), .pointer (some ⟨cr, 0, none⟩), .pointer (some ⟨cf, 0, none⟩)] w fun e w' => e = .returned (.tuple #[.agg (rt (oneR f true xs)), .bool (oneOk f true xs)]) ∧ (oneOk f true xs = true → RdrB B w' g (xs.drop (oneN true xs)) (p + oneN true xs)) ∧ w.grownBy w' (some g) := by
  have hz19 : #[.int .u32 0, .int .i64 0, .int .i64 0, .int .u8 0, .int .u8 0, .int .u8 0, .int .u8 0, .int .u8 0, .int .u8 0, .int .u8 0, .int .u8 0, .int .u8 0, .int .u8 0, .int .u8 0, .int .u8 0, .int .u8 0, .int .u8 0, .int .u8 0, .int .u8 0] = rt rt0 := rt_zero.symm
  have hz18 : #[.int .i64 0, .int .i64 0, .int .u8 0, .int .u8 0, .int .u8 0, .int .u8 0, .int .u8 0, .int .u8 0, .int .u8 0, .int .u8 0, .int .u8 0, .int .u8 0, .int .u8 0, .int .u8 0, .int .u8 0, .int .u8 0, .int .u8 0, .int .u8 0] = pfx 0 0 zero16 := pfx_zero.symm
  have hgl := h.lt
  have hBs := h.size
  have hb0 := bl_alloc (bl_refl w) (.cells (rt rt0) 33)
  have ho := Own.new w 33 (rt rt0)
  have h1 := h.below hb0
  have ha1 := (ha.step hb0).cell (i := 0) rfl
  have hr1 := (hr.step hb0)
  have hf1 := (hf.step hb0)
  have hr2 := hr1.cell (i := 0) rfl
  have hf2 := hf1.cell (i := 0) rfl
  clear ha hr hf
  have HO := Lib.hid (show oneOk f true xs = pOk f (xs.drop 4) ∧ oneR f true xs = ⟨big (xs.take 4), pF f (xs.drop 4), pL f (xs.drop 4), pA f (xs.drop 4)⟩ by constructor <;> simp [oneOk, oneR, hlen])
  have HE := Lib.hid (show oneN true xs = 4 + pN (xs.drop 4) from rfl)
  go_enter Try.func60, Try.ntmps60
  go_wp2_with fail
  refine (number_yesB B g xs p 4 _ h1 hl (by omega) (by omega) (by omega) (by omega)).mono ?_
  rintro e w0 ⟨rfl, hrd0, hg0⟩
  have hr3 := (hr1.grown hg0 (fun e => hr' (Option.some.inj e))).cell (i := 0) rfl
  have hf3 := (hf1.grown hg0 (fun e => hf' (Option.some.inj e))).cell (i := 0) rfl
  have ho0 := ho.grown hg0 (fun e => by cases e; omega)
  have hg00 := only_trans (only_of_below hb0 (some g)) hg0
  clear ha1 hr2 hf2 hr1 hf1 ho hb0
  go_wp2_with fail
  refine (pread_any B f (xs.drop 4) g (p + 4) _ hrd0 (by rw [List.length_drop]; omega) (by omega)).mono ?_
  rintro e w1 ⟨rfl, hrd, hg⟩
  have hpa : IsAddr (pA f (xs.drop 4)) := pA_addr (f := f) hrd0.range
  have ho1 := ho0.grown hg (fun e => by cases e; omega)
  have hg1 := only_trans hg00 hg
  have hi18 := Lib.hid (pfx_info (f := pF f (xs.drop 4)) (l := pL f (xs.drop 4)) hpa.1)
  have hi19 := Lib.hid (rt_info (r := ⟨(big (xs.take 4)), pF f (xs.drop 4), pL f (xs.drop 4), pA f (xs.drop 4)⟩) hpa.1)
  have hs19 := Lib.hid (show (rt rt0).size = (rt ⟨(big (xs.take 4)), pF f (xs.drop 4), pL f (xs.drop 4), pA f (xs.drop 4)⟩).size by rw [rt_size (r := ⟨(big (xs.take 4)), pF f (xs.drop 4), pL f (xs.drop 4), pA f (xs.drop 4)⟩) hpa.1]; rfl)
  have hbn := Lib.hid (built_rt (big (xs.take 4)) (pF f (xs.drop 4)) (pL f (xs.drop 4)) hpa.1)
  have o1 := Own.new w1 31 (pfx 0 0 zero16)
  have o2 := o1.setRow (cs' := pfx (pF f (xs.drop 4)) (pL f (xs.drop 4)) (pA f (xs.drop 4)))
  have o3 : Own ((w1.alloc (.cells (pfx 0 0 zero16) 31)).setRow w1.heap.size (pfx (pF f (xs.drop 4)) (pL f (xs.drop 4)) (pA f (xs.drop 4)))) w.heap.size 33 (rt rt0) := by
    refine (ho1.alloc _).keep (setRow_other _ _ _ _ ?_)
    have := ho1.lt
    omega
  have hs1 := ho1.lt
  have hfin := o3.setRow (cs' := rt ⟨(big (xs.take 4)), pF f (xs.drop 4), pL f (xs.drop 4), pA f (xs.drop 4)⟩)
  go_wp2_with (first | (refine wpList_load_row rfl 31 _ rfl w1.heap.size rfl 31 (pfx (pF f (xs.drop 4)) (pL f (xs.drop 4)) (pA f (xs.drop 4))) (0, 0) (.struct (Try.prog.fieldsOf 31)) o2 pfx_desc rfl hi18.out ?_) | (refine wpList_build_to rfl 33 _ rfl (rt ⟨(big (xs.take 4)), pF f (xs.drop 4), pL f (xs.drop 4), pA f (xs.drop 4)⟩) (by simp only [List.map_toArray, List.map_cons, List.map_nil]; exact hbn.out) ?_) | (refine wpList_store_row rfl 31 _ _ rfl w1.heap.size (pfx (pF f (xs.drop 4)) (pL f (xs.drop 4)) (pA f (xs.drop 4))) rfl rfl 31 (pfx 0 0 zero16) o1 hi18.out (by rw [pfx_size hpa.1]; rfl) (pfx_one _ _ _) ?_) | (refine wpList_store_row rfl 33 _ _ rfl w.heap.size (rt ⟨(big (xs.take 4)), pF f (xs.drop 4), pL f (xs.drop 4), pA f (xs.drop 4)⟩) rfl rfl 33 (rt rt0) o3 hi19.out hs19.out (rt_one _) ?_))
  refine bodyPost_ret (v := .tuple #[.agg (rt ⟨(big (xs.take 4)), pF f (xs.drop 4), pL f (xs.drop 4), pA f (xs.drop 4)⟩), .bool (pOk f (xs.drop 4))]) (results_cell_tmp (p := 3) (t := 4) (fn := Try.f60) rfl _ _ w.heap.size 33 (rt ⟨(big (xs.take 4)), pF f (xs.drop 4), pL f (xs.drop 4), pA f (xs.drop 4)⟩) _ rfl hfin rt_desc rfl hi19.out) rfl ?_
  rw [HO.out.1, HO.out.2]
  refine ⟨rfl, fun hk => ?_, ?_⟩
  · rw [HE.out, ← List.drop_drop, ← Nat.add_assoc]
    exact (((hrd hk).below (bl_alloc (bl_refl w1) _)).setRow (by have := hg1.size; omega) (by have := hg1.size; omega)).setRow hBs (by omega)
  · exact only_setRow (only_setRow (only_below hg1 (bl_alloc (bl_refl w1) _)) hg1.size) (Nat.le_refl _)

set_option maxRecDepth 100000 in
theorem one_any (B : Nat) (f : Int) (add : Bool) (xs : List Int) (g p ca cr cf : Nat) (w : World) (h : RdrB B w g xs p) (hl : xs.length ≤ 1000000000) (hp : p ≤ 999999990)
    (ha : Own w ca 4 #[.bool add]) (hr : Own w cr 57 #[.pointer (some ⟨g, 0, none⟩)]) (hf : Own w cf 3 #[.int .i64 f]) (hr' : cr ≠ g) (hf' : cf ≠ g) :
    Calls Try.prog 60 #[.pointer (some ⟨ca, 0, none⟩), .pointer (some ⟨cr, 0, none⟩), .pointer (some ⟨cf, 0, none⟩)] w fun e w' => e = .returned (.tuple #[.agg (rt (oneR f add xs)), .bool (oneOk f add xs)]) ∧ (oneOk f add xs = true → RdrB B w' g (xs.drop (oneN add xs)) (p + oneN add xs)) ∧ w.grownBy w' (some g) := by
  cases add
  · exact one_false B f xs g p ca cr cf w h hl (by omega) ha hr hf
  · by_cases hlen : 4 ≤ xs.length
    · exact one_true B f xs g p ca cr cf w h hl hp hlen ha hr hf hr' hf'
    · exact one_short B f xs g p ca cr cf w h hl (by omega) ha hr hf
end Go.Proofs.Yteoegejbaahlpaa
