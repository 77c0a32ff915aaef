/- XNqR: XNs, XNo, XNd, XNe, XForm, XNm, XQmake, XQread, XRLa, XRLb, XRLc, XReq, XRteq, XAl3, XRLd, XRs3 in one text -/
import Derived.Test.YtmlmgjdjbpipcaaDoorNr
import Derived.Great.BuildSlice
import Derived.Test.YtmlmgjdjbpipcaaDoorPfxM
import Derived.Deep.DeepFit
import Derived.Test.YtmlmgjdjbpipcaaDoorRef1
import Derived.Deep.RegionHeld3
import Derived.WalkSpells
import Derived.StillTactics
import Derived.Deep.Cut
import Derived.Deep.Upon
import Derived.Lib.LazyBuf
import Derived.Laws.StructEq
import Derived.Deep.RegionWith
import Derived.Deep.QuietTactic
import Derived.BigQuiet
import Derived.Test.YtmlmgjdjbpipcaaDoorEq
import Derived.Deep.MidRow
/- nlri.Size -/
namespace Go.Proofs.YtmlmgjdjbpipcaaDoor
open Go.RowKit

theorem pfxForm_len {f l : Int} {a : List Int} (ha : IsAddr a) (h : pfxOk f l a = true) : ((pfxForm l a).length : Int) = 1 + (l + 7) / 8 := by
  have := pfxOk_range h
  have h5 : 0 ≤ sizeOfBits l ∧ sizeOfBits l ≤ 16 := by unfold sizeOfBits; omega
  have h6 := ha.1
  unfold pfxForm
  rw [List.length_cons, List.length_take, h6]
  unfold sizeOfBits at *
  omega

end Go.Proofs.YtmlmgjdjbpipcaaDoor

/- the closure of nlri.Read -/
namespace Go.Proofs.YtmlmgjdjbpipcaaDoor
open Go.RowKit

def pOk (f : Int) (xs : List Int) : Bool := match xs with
  | [] => false
  | x :: ys => lenOk f x && decide ((sizeOfBits x).toNat ≤ ys.length)
def pN (xs : List Int) : Nat := 1 + (sizeOfBits (xs.headD 0)).toNat
def pF (f : Int) (xs : List Int) : Int := if pOk f xs then f else 0
def pL (f : Int) (xs : List Int) : Int := if pOk f xs then xs.headD 0 else 0
def pA (f : Int) (xs : List Int) : List Int := if pOk f xs then maskL (xs.headD 0) (padTo ((xs.drop 1).take (sizeOfBits (xs.headD 0)).toNat)) else zero16
theorem pA_addr {f : Int} {xs : List Int} (h : ∀ x ∈ xs, 0 ≤ x ∧ x ≤ 255) : IsAddr (pA f xs) := by
  unfold pA
  by_cases hk : pOk f xs = true
  · rw [if_pos hk]
    match xs, hk, h with
    | x :: ys, hk, h =>
      simp only [pOk, Bool.and_eq_true, decide_eq_true_eq] at hk
      have hr := lenOk_range hk.1
      have h5 : sizeOfBits x ≤ 16 := by unfold sizeOfBits; omega
      exact maskL_addr x (padTo_addr (by simp only [List.drop_one, List.tail_cons, List.headD_cons, List.length_take]; omega) (fun y hy => h y (List.mem_cons_of_mem _ (List.mem_of_mem_take hy))))
  · rw [if_neg hk]; exact zero16_addr

set_option maxRecDepth 100000 in
theorem pread_any (B : Nat) (f : Int) (xs : List Int) (g p : Nat) (w : World) (h : RdrB B w g xs p) (hl : xs.length ≤ 1000000000) (hp : p ≤ 999999999) :
    Calls Tryd.prog 75 #[.int .i64 f, .pointer (some ⟨g, 0, none⟩)] w fun e w' => e = .returned (.tuple #[.agg (pfx (pF f xs) (pL f xs) (pA f xs)), .bool (pOk f xs)]) ∧ (pOk f xs = true → RdrB B w' g (xs.drop (pN xs)) (p + pN xs)) ∧ w.grownBy w' (some g) := by
  match xs, h, hl with
  | [], h, hl =>
    refine (pread_nil f g p w h.rdr).mono ?_
    rintro e w' ⟨rfl, hb⟩
    exact ⟨rfl, (by intro hh; simp [pOk] at hh), only_of_below hb _⟩
  | x :: ys, h, hl =>
    by_cases h1 : lenOk f x = true
    · by_cases h2 : (sizeOfBits x).toNat ≤ ys.length
      · have hk : pOk f (x :: ys) = true := by simp [pOk, h1, h2]
        refine (pread_yes B f x ys g p w h hl hp h1 h2).mono ?_
        rintro e w' ⟨rfl, hr, hg⟩
        refine ⟨by simp [pF, pL, pA, hk], fun _ => ?_, hg⟩
        have e1 : (x :: ys).drop (pN (x :: ys)) = ys.drop (sizeOfBits x).toNat := by unfold pN; rw [Nat.add_comm, List.headD_cons, List.drop_succ_cons]
        have e2 : p + pN (x :: ys) = p + 1 + (sizeOfBits x).toNat := by unfold pN; rw [List.headD_cons]; omega
        rw [e1, e2]; exact hr
      · have hk : pOk f (x :: ys) = false := by simp [pOk, h2]
        refine (pread_short B f x ys g p w h hl hp h1 (by omega)).mono ?_
        rintro e w' ⟨rfl, hr, hg⟩
        exact ⟨by simp [pF, pL, pA, hk], (by rw [hk]; intro hh; cases hh), hg⟩
    · have h1' : lenOk f x = false := by simpa using h1
      have hk : pOk f (x :: ys) = false := by simp [pOk, h1']
      refine (pread_bad B f x ys g p w h hl (by omega) h1').mono ?_
      rintro e w' ⟨rfl, hr, hg⟩
      exact ⟨by simp [pF, pL, pA, hk], (by rw [hk]; intro hh; cases hh), hg⟩

/-- One route before the bytes xs. -/
def oneOk (f : Int) (add : Bool) (xs : List Int) : Bool := if add then decide (4 ≤ xs.length) && pOk f (xs.drop 4) else pOk f xs
def oneN (add : Bool) (xs : List Int) : Nat := if add then 4 + pN (xs.drop 4) else pN xs
def oneR (f : Int) (add : Bool) (xs : List Int) : Rt := if add then (if 4 ≤ xs.length then ⟨big (xs.take 4), pF f (xs.drop 4), pL f (xs.drop 4), pA f (xs.drop 4)⟩ else rt0) else ⟨0, pF f xs, pL f xs, pA f xs⟩

set_option maxRecDepth 100000 in
theorem built_rt (p f l : Int) {m : List Int} (h : m.length = 16) : Tryd.prog.built 87 [(0, .int .u32 p), (1, .agg (pfx f l m))] = some (rt ⟨p, f, l, m⟩) := by
  obtain ⟨x0, x1, x2, x3, x4, x5, x6, x7, x8, x9, x10, x11, x12, x13, x14, x15, rfl⟩ := list16 h
  kernel_rfl

set_option maxHeartbeats 800000 in
set_option maxRecDepth 100000 in
theorem one_false (B : Nat) (f : Int) (xs : List Int) (g p ca cr cf : Nat) (w : World) (h : RdrB B w g xs p) (hl : xs.length ≤ 1000000000) (hp : p ≤ 999999999)
    (ha : Own w ca 4 #[.bool false]) (hr : Own w cr 41 #[.pointer (some ⟨g, 0, none⟩)]) (hf : Own w cf 3 #[.int .i64 f]) :
    Calls Tryd.prog 74 #[.pointer (some ⟨ca, 0, none⟩), .pointer (some ⟨cr, 0, none⟩), .pointer (some ⟨cf, 0, none⟩)] w fun e w' => e = .returned (.tuple #[.agg (rt (oneR f false xs)), .bool (oneOk f false xs)]) ∧ (oneOk f false xs = true → RdrB B w' g (xs.drop (oneN false xs)) (p + oneN false xs)) ∧ w.grownBy w' (some g) := by
  have hz19 : #[.int .u32 0, .int .i64 0, .int .i64 0, .int .u8 0, .int .u8 0, .int .u8 0, .int .u8 0, .int .u8 0, .int .u8 0, .int .u8 0, .int .u8 0, .int .u8 0, .int .u8 0, .int .u8 0, .int .u8 0, .int .u8 0, .int .u8 0, .int .u8 0, .int .u8 0] = rt rt0 := rt_zero.symm
  have hz18 : #[.int .i64 0, .int .i64 0, .int .u8 0, .int .u8 0, .int .u8 0, .int .u8 0, .int .u8 0, .int .u8 0, .int .u8 0, .int .u8 0, .int .u8 0, .int .u8 0, .int .u8 0, .int .u8 0, .int .u8 0, .int .u8 0, .int .u8 0, .int .u8 0] = pfx 0 0 zero16 := pfx_zero.symm
  have hgl := h.lt
  have hBs := h.size
  have hb0 := bl_alloc (bl_refl w) (.cells (rt rt0) 87)
  have ho := Own.new w 87 (rt rt0)
  have h1 := h.below hb0
  have ha1 := (ha.step hb0).cell (i := 0) rfl
  have hr1 := (hr.step hb0)
  have hf1 := (hf.step hb0)
  have hr2 := hr1.cell (i := 0) rfl
  have hf2 := hf1.cell (i := 0) rfl
  clear ha hr hf
  go_enter Tryd.func74, Tryd.ntmps74
  go_wp2_with fail
  refine (pread_any B f xs g p _ h1 hl hp).mono ?_
  rintro e w1 ⟨rfl, hrd, hg⟩
  have hpa := pA_addr (f := f) h.range
  have ho1 := ho.grown hg (fun e => by cases e; omega)
  have hg1 := only_trans (only_of_below hb0 (some g)) hg
  have hi18 := Lib.hid (pfx_info (f := pF f xs) (l := pL f xs) hpa.1)
  have hi19 := Lib.hid (rt_info (r := ⟨0, pF f xs, pL f xs, pA f xs⟩) hpa.1)
  have hs19 := Lib.hid (show (rt rt0).size = (rt ⟨0, pF f xs, pL f xs, pA f xs⟩).size by rw [rt_size (r := ⟨0, pF f xs, pL f xs, pA f xs⟩) hpa.1]; rfl)
  have hbn := Lib.hid (built_rt 0 (pF f xs) (pL f xs) hpa.1)
  have o1 := Own.new w1 85 (pfx 0 0 zero16)
  have o2 := o1.setRow (cs' := pfx (pF f xs) (pL f xs) (pA f xs))
  have o3 : Own ((w1.alloc (.cells (pfx 0 0 zero16) 85)).setRow w1.heap.size (pfx (pF f xs) (pL f xs) (pA f xs))) w.heap.size 87 (rt rt0) := by
    refine (ho1.alloc _).keep (setRow_other _ _ _ _ ?_)
    have := ho1.lt
    omega
  have hs1 := ho1.lt
  have hfin := o3.setRow (cs' := rt ⟨0, pF f xs, pL f xs, pA f xs⟩)
  go_wp2_with (first | (refine wpList_load_row rfl 85 _ rfl w1.heap.size rfl 85 (pfx (pF f xs) (pL f xs) (pA f xs)) (0, 0) (.struct (Tryd.prog.fieldsOf 85)) o2 pfx_desc rfl hi18.out ?_) | (refine wpList_build_to rfl 87 _ rfl (rt ⟨0, pF f xs, pL f xs, pA f xs⟩) (by simp only [List.map_toArray, List.map_cons, List.map_nil]; exact hbn.out) ?_) | (refine wpList_store_row rfl 85 _ _ rfl w1.heap.size (pfx (pF f xs) (pL f xs) (pA f xs)) rfl rfl 85 (pfx 0 0 zero16) o1 hi18.out (by rw [pfx_size hpa.1]; rfl) (pfx_one _ _ _) ?_) | (refine wpList_store_row rfl 87 _ _ rfl w.heap.size (rt ⟨0, pF f xs, pL f xs, pA f xs⟩) rfl rfl 87 (rt rt0) o3 hi19.out hs19.out (rt_one _) ?_))
  refine bodyPost_ret (v := .tuple #[.agg (rt ⟨0, pF f xs, pL f xs, pA f xs⟩), .bool (pOk f xs)]) (results_cell_tmp (p := 3) (t := 4) (fn := Tryd.f74) rfl _ _ w.heap.size 87 (rt ⟨0, pF f xs, pL f xs, pA f xs⟩) _ rfl hfin rt_desc rfl hi19.out) rfl ?_
  refine ⟨rfl, fun hk => ?_, ?_⟩
  · exact (((hrd hk).below (bl_alloc (bl_refl w1) _)).setRow (by have := hg1.size; omega) (by have := hg1.size; omega)).setRow hBs (by omega)
  · exact only_setRow (only_setRow (only_below hg1 (bl_alloc (bl_refl w1) _)) hg1.size) (Nat.le_refl _)

set_option maxHeartbeats 800000 in
set_option maxRecDepth 100000 in
theorem one_short (B : Nat) (f : Int) (xs : List Int) (g p ca cr cf : Nat) (w : World) (h : RdrB B w g xs p) (hl : xs.length ≤ 1000000000) (hlen : xs.length < 4)
    (ha : Own w ca 4 #[.bool true]) (hr : Own w cr 41 #[.pointer (some ⟨g, 0, none⟩)]) (hf : Own w cf 3 #[.int .i64 f]) :
    Calls Tryd.prog 74 #[.pointer (some ⟨ca, 0, none⟩), .pointer (some ⟨cr, 0, none⟩), .pointer (some ⟨cf, 0, none⟩)] w fun e w' => e = .returned (.tuple #[.agg (rt (oneR f true xs)), .bool (oneOk f true xs)]) ∧ (oneOk f true xs = true → RdrB B w' g (xs.drop (oneN true xs)) (p + oneN true xs)) ∧ w.grownBy w' (some g) := by
  have hz19 : #[.int .u32 0, .int .i64 0, .int .i64 0, .int .u8 0, .int .u8 0, .int .u8 0, .int .u8 0, .int .u8 0, .int .u8 0, .int .u8 0, .int .u8 0, .int .u8 0, .int .u8 0, .int .u8 0, .int .u8 0, .int .u8 0, .int .u8 0, .int .u8 0, .int .u8 0] = rt rt0 := rt_zero.symm
  have hz18 : #[.int .i64 0, .int .i64 0, .int .u8 0, .int .u8 0, .int .u8 0, .int .u8 0, .int .u8 0, .int .u8 0, .int .u8 0, .int .u8 0, .int .u8 0, .int .u8 0, .int .u8 0, .int .u8 0, .int .u8 0, .int .u8 0, .int .u8 0, .int .u8 0] = pfx 0 0 zero16 := pfx_zero.symm
  have hgl := h.lt
  have hBs := h.size
  have hb0 := bl_alloc (bl_refl w) (.cells (rt rt0) 87)
  have ho := Own.new w 87 (rt rt0)
  have h1 := h.below hb0
  have ha1 := (ha.step hb0).cell (i := 0) rfl
  have hr1 := (hr.step hb0)
  have hf1 := (hf.step hb0)
  have hr2 := hr1.cell (i := 0) rfl
  have hf2 := hf1.cell (i := 0) rfl
  clear ha hr hf
  have HO := Lib.hid (show oneOk f true xs = false ∧ oneR f true xs = rt0 by constructor <;> simp [oneOk, oneR] <;> omega)
  go_enter Tryd.func74, Tryd.ntmps74
  go_wp2_with fail
  refine (number_no g xs p 4 _ h1.rdr hl (by omega) (by omega) (by omega)).mono ?_
  rintro e w1 ⟨rfl, rfl⟩
  have hfin := ho.setRow (cs' := rt rt0)
  go_wp2_with (refine wpList_store_row rfl 87 _ _ rfl w.heap.size (rt rt0) rfl rfl 87 (rt rt0) ho (rt_info rfl) rfl (rt_one _) ?_)
  refine bodyPost_ret (v := .tuple #[.agg (rt rt0), .bool false]) (results_cell_tmp (p := 3) (t := 4) (fn := Tryd.f74) rfl _ _ w.heap.size 87 (rt rt0) _ rfl hfin rt_desc rfl (rt_info rfl)) rfl ?_
  rw [HO.out.1, HO.out.2]
  exact ⟨rfl, (by intro hh; cases hh), only_setRow (only_of_below hb0 _) (Nat.le_refl _)⟩

set_option maxHeartbeats 800000 in
set_option maxRecDepth 100000 in
theorem one_true (B : Nat) (f : Int) (xs : List Int) (g p ca cr cf : Nat) (w : World) (h : RdrB B w g xs p) (hl : xs.length ≤ 1000000000) (hp : p ≤ 999999990) (hlen : 4 ≤ xs.length)
    (ha : Own w ca 4 #[.bool true]) (hr : Own w cr 41 #[.pointer (some ⟨g, 0, none⟩)]) (hf : Own w cf 3 #[.int .i64 f]) (hr' : cr ≠ g) (hf' : cf ≠ g) :
    Calls Tryd.prog 74 #[.pointer (some ⟨ca, 0, none⟩), .pointer (some ⟨cr, 0, none⟩), .pointer (some ⟨cf, 0, none⟩)] w fun e w' => e = .returned (.tuple #[.agg (rt (oneR f true xs)), .bool (oneOk f true xs)]) ∧ (oneOk f true xs = true → RdrB B w' g (xs.drop (oneN true xs)) (p + oneN true xs)) ∧ w.grownBy w' (some g) := by
  have hz19 : #[.int .u32 0, .int .i64 0, .int .i64 0, .int .u8 0, .int .u8 0, .int .u8 0, .int .u8 0, .int .u8 0, .int .u8 0, .int .u8 0, .int .u8 0, .int .u8 0, .int .u8 0, .int .u8 0, .int .u8 0, .int .u8 0, .int .u8 0, .int .u8 0, .int .u8 0] = rt rt0 := rt_zero.symm
  have hz18 : #[.int .i64 0, .int .i64 0, .int .u8 0, .int .u8 0, .int .u8 0, .int .u8 0, .int .u8 0, .int .u8 0, .int .u8 0, .int .u8 0, .int .u8 0, .int .u8 0, .int .u8 0, .int .u8 0, .int .u8 0, .int .u8 0, .int .u8 0, .int .u8 0] = pfx 0 0 zero16 := pfx_zero.symm
  have hgl := h.lt
  have hBs := h.size
  have hb0 := bl_alloc (bl_refl w) (.cells (rt rt0) 87)
  have ho := Own.new w 87 (rt rt0)
  have h1 := h.below hb0
  have ha1 := (ha.step hb0).cell (i := 0) rfl
  have hr1 := (hr.step hb0)
  have hf1 := (hf.step hb0)
  have hr2 := hr1.cell (i := 0) rfl
  have hf2 := hf1.cell (i := 0) rfl
  clear ha hr hf
  have HO := Lib.hid (show oneOk f true xs = pOk f (xs.drop 4) ∧ oneR f true xs = ⟨big (xs.take 4), pF f (xs.drop 4), pL f (xs.drop 4), pA f (xs.drop 4)⟩ by constructor <;> simp [oneOk, oneR, hlen])
  have HE := Lib.hid (show oneN true xs = 4 + pN (xs.drop 4) from rfl)
  go_enter Tryd.func74, Tryd.ntmps74
  go_wp2_with fail
  refine (number_yesB B g xs p 4 _ h1 hl (by omega) (by omega) (by omega) (by omega)).mono ?_
  rintro e w0 ⟨rfl, hrd0, hg0⟩
  have hr3 := (hr1.grown hg0 (fun e => hr' (Option.some.inj e))).cell (i := 0) rfl
  have hf3 := (hf1.grown hg0 (fun e => hf' (Option.some.inj e))).cell (i := 0) rfl
  have ho0 := ho.grown hg0 (fun e => by cases e; omega)
  have hg00 := only_trans (only_of_below hb0 (some g)) hg0
  clear ha1 hr2 hf2 hr1 hf1 ho hb0
  go_wp2_with fail
  refine (pread_any B f (xs.drop 4) g (p + 4) _ hrd0 (by rw [List.length_drop]; omega) (by omega)).mono ?_
  rintro e w1 ⟨rfl, hrd, hg⟩
  have hpa : IsAddr (pA f (xs.drop 4)) := pA_addr (f := f) hrd0.range
  have ho1 := ho0.grown hg (fun e => by cases e; omega)
  have hg1 := only_trans hg00 hg
  have hi18 := Lib.hid (pfx_info (f := pF f (xs.drop 4)) (l := pL f (xs.drop 4)) hpa.1)
  have hi19 := Lib.hid (rt_info (r := ⟨(big (xs.take 4)), pF f (xs.drop 4), pL f (xs.drop 4), pA f (xs.drop 4)⟩) hpa.1)
  have hs19 := Lib.hid (show (rt rt0).size = (rt ⟨(big (xs.take 4)), pF f (xs.drop 4), pL f (xs.drop 4), pA f (xs.drop 4)⟩).size by rw [rt_size (r := ⟨(big (xs.take 4)), pF f (xs.drop 4), pL f (xs.drop 4), pA f (xs.drop 4)⟩) hpa.1]; rfl)
  have hbn := Lib.hid (built_rt (big (xs.take 4)) (pF f (xs.drop 4)) (pL f (xs.drop 4)) hpa.1)
  have o1 := Own.new w1 85 (pfx 0 0 zero16)
  have o2 := o1.setRow (cs' := pfx (pF f (xs.drop 4)) (pL f (xs.drop 4)) (pA f (xs.drop 4)))
  have o3 : Own ((w1.alloc (.cells (pfx 0 0 zero16) 85)).setRow w1.heap.size (pfx (pF f (xs.drop 4)) (pL f (xs.drop 4)) (pA f (xs.drop 4)))) w.heap.size 87 (rt rt0) := by
    refine (ho1.alloc _).keep (setRow_other _ _ _ _ ?_)
    have := ho1.lt
    omega
  have hs1 := ho1.lt
  have hfin := o3.setRow (cs' := rt ⟨(big (xs.take 4)), pF f (xs.drop 4), pL f (xs.drop 4), pA f (xs.drop 4)⟩)
  go_wp2_with (first | (refine wpList_load_row rfl 85 _ rfl w1.heap.size rfl 85 (pfx (pF f (xs.drop 4)) (pL f (xs.drop 4)) (pA f (xs.drop 4))) (0, 0) (.struct (Tryd.prog.fieldsOf 85)) o2 pfx_desc rfl hi18.out ?_) | (refine wpList_build_to rfl 87 _ rfl (rt ⟨(big (xs.take 4)), pF f (xs.drop 4), pL f (xs.drop 4), pA f (xs.drop 4)⟩) (by simp only [List.map_toArray, List.map_cons, List.map_nil]; exact hbn.out) ?_) | (refine wpList_store_row rfl 85 _ _ rfl w1.heap.size (pfx (pF f (xs.drop 4)) (pL f (xs.drop 4)) (pA f (xs.drop 4))) rfl rfl 85 (pfx 0 0 zero16) o1 hi18.out (by rw [pfx_size hpa.1]; rfl) (pfx_one _ _ _) ?_) | (refine wpList_store_row rfl 87 _ _ rfl w.heap.size (rt ⟨(big (xs.take 4)), pF f (xs.drop 4), pL f (xs.drop 4), pA f (xs.drop 4)⟩) rfl rfl 87 (rt rt0) o3 hi19.out hs19.out (rt_one _) ?_))
  refine bodyPost_ret (v := .tuple #[.agg (rt ⟨(big (xs.take 4)), pF f (xs.drop 4), pL f (xs.drop 4), pA f (xs.drop 4)⟩), .bool (pOk f (xs.drop 4))]) (results_cell_tmp (p := 3) (t := 4) (fn := Tryd.f74) rfl _ _ w.heap.size 87 (rt ⟨(big (xs.take 4)), pF f (xs.drop 4), pL f (xs.drop 4), pA f (xs.drop 4)⟩) _ rfl hfin rt_desc rfl hi19.out) rfl ?_
  rw [HO.out.1, HO.out.2]
  refine ⟨rfl, fun hk => ?_, ?_⟩
  · rw [HE.out, ← List.drop_drop, ← Nat.add_assoc]
    exact (((hrd hk).below (bl_alloc (bl_refl w1) _)).setRow (by have := hg1.size; omega) (by have := hg1.size; omega)).setRow hBs (by omega)
  · exact only_setRow (only_setRow (only_below hg1 (bl_alloc (bl_refl w1) _)) hg1.size) (Nat.le_refl _)

set_option maxRecDepth 100000 in
theorem one_any (B : Nat) (f : Int) (add : Bool) (xs : List Int) (g p ca cr cf : Nat) (w : World) (h : RdrB B w g xs p) (hl : xs.length ≤ 1000000000) (hp : p ≤ 999999990)
    (ha : Own w ca 4 #[.bool add]) (hr : Own w cr 41 #[.pointer (some ⟨g, 0, none⟩)]) (hf : Own w cf 3 #[.int .i64 f]) (hr' : cr ≠ g) (hf' : cf ≠ g) :
    Calls Tryd.prog 74 #[.pointer (some ⟨ca, 0, none⟩), .pointer (some ⟨cr, 0, none⟩), .pointer (some ⟨cf, 0, none⟩)] w fun e w' => e = .returned (.tuple #[.agg (rt (oneR f add xs)), .bool (oneOk f add xs)]) ∧ (oneOk f add xs = true → RdrB B w' g (xs.drop (oneN add xs)) (p + oneN add xs)) ∧ w.grownBy w' (some g) := by
  cases add
  · exact one_false B f xs g p ca cr cf w h hl (by omega) ha hr hf
  · by_cases hlen : 4 ≤ xs.length
    · exact one_true B f xs g p ca cr cf w h hl hp hlen ha hr hf hr' hf'
    · exact one_short B f xs g p ca cr cf w h hl (by omega) ha hr hf
end Go.Proofs.YtmlmgjdjbpipcaaDoor

/- nlri.Read -/
namespace Go.Proofs.YtmlmgjdjbpipcaaDoor
open Go.RowKit

/-- The first p of the bytes xs are the routes rs. -/
inductive Parsed (f : Int) (add : Bool) (xs : List Int) : Nat → List Rt → Prop where
  | nil : Parsed f add xs 0 []
  | cons {p : Nat} {rs : List Rt} : Parsed f add xs p rs → p < xs.length → oneOk f add (xs.drop p) = true → Parsed f add xs (p + oneN add (xs.drop p)) (rs ++ [oneR f add (xs.drop p)])
theorem pOk_len {f : Int} {xs : List Int} (h : pOk f xs = true) : pN xs ≤ xs.length := by
  match xs, h with
  | x :: ys, h =>
    simp only [pOk, Bool.and_eq_true, decide_eq_true_eq] at h
    unfold pN
    rw [List.headD_cons, List.length_cons]
    omega
theorem oneOk_len {f : Int} {add : Bool} {xs : List Int} (h : oneOk f add xs = true) : oneN add xs ≤ xs.length := by
  cases add
  · exact pOk_len h
  · simp only [oneOk, if_true, Bool.and_eq_true, decide_eq_true_eq] at h
    have := pOk_len h.2
    rw [List.length_drop] at this
    show 4 + pN (xs.drop 4) ≤ _
    omega
theorem oneN_pos (add : Bool) (xs : List Int) : 1 ≤ oneN add xs := by
  cases add
  · show 1 ≤ 1 + _; omega
  · show 1 ≤ 4 + _; omega
theorem Parsed.le {f : Int} {add : Bool} {xs : List Int} {p : Nat} {rs : List Rt} (h : Parsed f add xs p rs) : p ≤ xs.length ∧ rs.length ≤ p := by
  induction h with
  | nil => exact ⟨Nat.zero_le _, Nat.le_refl _⟩
  | @cons p rs h hp hk ih =>
    have h1 := oneOk_len hk
    have h2 := oneN_pos add (xs.drop p)
    rw [List.length_drop] at h1
    rw [List.length_append, List.length_singleton]
    omega
theorem oneR_ok {f : Int} {add : Bool} {xs : List Int} (h : ∀ x ∈ xs, 0 ≤ x ∧ x ≤ 255) : (oneR f add xs).Ok := by
  cases add
  · exact ⟨pA_addr h, by show (0 : Int) ≤ 0; omega, by show (0 : Int) ≤ _; omega⟩
  · by_cases h4 : 4 ≤ xs.length
    · have e : oneR f true xs = ⟨big (xs.take 4), pF f (xs.drop 4), pL f (xs.drop 4), pA f (xs.drop 4)⟩ := by simp [oneR, h4]
      rw [e]
      have hb := big_range 4 (xs.take 4) (by rw [List.length_take]; omega) (fun x hx => h x (List.mem_of_mem_take hx))
      exact ⟨pA_addr (fun x hx => h x (List.mem_of_mem_drop hx)), hb.1, by have := hb.2; show big _ ≤ _; omega⟩
    · have e : oneR f true xs = rt0 := by simp [oneR, h4]
      rw [e]
      exact ⟨zero16_addr, by show (0 : Int) ≤ 0; omega, by show (0 : Int) ≤ _; omega⟩
theorem Parsed.ok {f : Int} {add : Bool} {xs : List Int} {p : Nat} {rs : List Rt} (h : Parsed f add xs p rs) (hr : ∀ x ∈ xs, 0 ≤ x ∧ x ≤ 255) : ∀ r ∈ rs, r.Ok := by
  induction h with
  | nil => intro r h; cases h
  | cons h hp hk ih =>
    intro r hm
    rcases List.mem_append.1 hm with hm | hm
    · exact ih r hm
    · rw [List.mem_singleton] at hm; subst hm
      exact oneR_ok (fun x hx => hr x (List.mem_of_mem_drop hx))

def flatR (rs : List Rt) : List Value := rs.flatMap fun r => (rt r).toList
theorem flatR_get : ∀ {rs : List Rt}, (∀ r ∈ rs, r.Ok) → ∀ (i : Nat) (r : Rt), rs[i]? = some r → ∀ (j : Nat) (v : Value), (rt r).toList[j]? = some v → (flatR rs)[i * 19 + j]? = some v
  | [], _, i, r, hi, _, _, _ => by simp at hi
  | q :: rs, h, i, r, hi, j, v, hj => by
    have hq : (rt q).toList.length = 19 := by rw [Array.length_toList, rt_size (h q (List.mem_cons_self ..)).1.1]
    show ((rt q).toList ++ flatR rs)[_]? = _
    match i, hi with
    | 0, hi =>
      have e : q = r := by simpa using hi
      subst e
      rw [List.getElem?_append_left (by rw [Nat.zero_mul, Nat.zero_add]; exact (List.getElem?_eq_some_iff.1 hj).1), Nat.zero_mul, Nat.zero_add]
      exact hj
    | i + 1, hi =>
      rw [List.getElem?_append_right (by omega), hq, show (i + 1) * 19 + j - 19 = i * 19 + j by omega]
      exact flatR_get (fun r hr => h r (List.mem_cons_of_mem _ hr)) i r (by simpa using hi) j v hj
theorem own_routes {w : World} {base n : Nat} {v : Value} {rs : List Rt} (h : w.ownsRow base 87 19 v n (flatR rs)) (hr : ∀ r ∈ rs, r.Ok) (hn : n = rs.length) : ∃ A c, v = .slice A n c ∧ n ≤ c ∧ Routes w w.heap.size A n rs := by
  obtain ⟨A, c, rfl, hc, hs⟩ := own_val h
  refine ⟨A, c, rfl, hc, hn, hr, ?_⟩
  match rs, hr, hs with
  | [], _, _ => exact .inl rfl
  | q :: rs, hr, hs =>
    right
    have hq : (rt q).toList.length = 19 := by rw [Array.length_toList, rt_size (hr q (List.mem_cons_self ..)).1.1]
    rcases hs with h0 | ⟨b, o, hA, hb, hcc⟩
    · have : (flatR (q :: rs)).length = 0 := by rw [h0]; rfl
      have e : flatR (q :: rs) = (rt q).toList ++ flatR rs := rfl
      rw [e, List.length_append] at this
      omega
    · refine ⟨b, o, hA, hb, fun i r hi j u hu => ?_⟩
      have := hcc _ _ (flatR_get hr i r hi j u hu)
      rw [← Nat.add_assoc] at this
      exact this

def lit19 : Array Value := #[.int .u32 0, .int .i64 0, .int .i64 0, .int .u8 0, .int .u8 0, .int .u8 0, .int .u8 0, .int .u8 0, .int .u8 0, .int .u8 0, .int .u8 0, .int .u8 0, .int .u8 0, .int .u8 0, .int .u8 0, .int .u8 0, .int .u8 0, .int .u8 0, .int .u8 0]
set_option maxRecDepth 100000 in
theorem sl_routes : SliceOf Tryd.prog 28 87 19 40 := SliceOf.mk Tryd.underlying28 (z := .agg lit19) (by kernel_rfl) rfl (by decide)
theorem fill_route {r : Rt} (h : r.a.length = 16) : Instr.fill (fun i => some (i * 19, 19)) ((Array.range (1 * 19)).map ((Value.agg lit19).cells[· % (Value.agg lit19).cells.size]!)) [(0, .agg (rt r))] = some (rt r) := by
  obtain ⟨p, f, l, a⟩ := r
  obtain ⟨x0, x1, x2, x3, x4, x5, x6, x7, x8, x9, x10, x11, x12, x13, x14, x15, rfl⟩ := list16 h
  kernel_rfl
set_option maxRecDepth 100000 in
theorem wpList_build_route {ops : Array Oper} {rest : List Oper} {o : Oper} {a : Act} {w : World} {Q : Exit → Act → World → Prop} (hg : o.guard = none) (parts : Array (Nat × Operand)) (ho : o.op = .buildSlice 28 1 parts)
    (r : Rt) (hr : r.a.length = 16) (hp : (parts.map fun (i, x) => (i, a.eval x)).toList = [(0, .agg (rt r))])
    (h : wpList Tryd.prog ops Q rest (a.put o.dst (.slice (some ⟨w.heap.size, 0, none⟩) 1 1)) (w.alloc (.cells (rt r) 87))) : wpList Tryd.prog ops Q (o :: rest) a w := by
  have h1 : (Tryd.prog.info? 87).map (·.size) = some 19 := by kernel_rfl
  have h2 : (Tryd.prog.info? 87).bind (·.zero) = some (.agg lit19) := by kernel_rfl
  cases hie : Tryd.prog.info? 87 with
  | none => rw [hie] at h1; cases h1
  | some ie =>
    rw [hie] at h1 h2
    simp only [Option.map_some, Option.some.injEq, Option.bind_some] at h1 h2
    refine wpList_buildSlice hg 28 87 1 parts ho (rt r) ie (.agg lit19) Tryd.underlying28 hie h2 (by rw [h1]; decide) (by rw [h1]; decide) ?_ h
    rw [hp, h1]
    exact fill_route hr
theorem rt_one_mem {r : Rt} : ∀ u ∈ (rt r).toList, u.oneCell' = true := fun u hu => Array.all_eq_true_iff_forall_mem.1 (rt_one r) u (by simpa using hu)
def lenOf : Value → Nat
  | .slice _ n _ => n
  | _ => 0
end Go.Proofs.YtmlmgjdjbpipcaaDoor

/- nlri.Read: the walk -/
namespace Go.Proofs.YtmlmgjdjbpipcaaDoor
open Go.RowKit

theorem gr_row {a b c : World} {g : Nat} {row : Option Nat} (h : a.grownBy b (some g)) (k : b.grownBy c row) (hr : ∀ j, row = some j → a.heap.size ≤ j) : a.grownBy c (some g) :=
  ⟨k.os.trans h.os, k.tape.trans h.tape, k.output.trans h.output, Nat.le_trans h.size k.size, fun i hi hne => (k.block i (Nat.lt_of_lt_of_le hi h.size) (fun e => by have := hr i e.symm; omega)).trans (h.block i hi hne)⟩
theorem RdrB.row {B : Nat} {w w' : World} {g : Nat} {xs : List Int} {p : Nat} {row : Option Nat} (h : RdrB B w g xs p) (k : w.grownBy w' row) (hr : ∀ j, row = some j → B ≤ j ∧ g < j) : RdrB B w' g xs p :=
  h.keep k.size (fun b hb => k.block b (by have := h.size; have := h.lt; omega) (fun e => by have := hr b e.symm; omega))

/-- What nlri.Read returns. -/
def ReadsTo (f : Int) (add : Bool) (xs : List Int) (w : World) (v : Value) (at_ : Int) : Prop :=
  (∃ rs A c, at_ = -1 ∧ Parsed f add xs xs.length rs ∧ v = .slice A rs.length c ∧ rs.length ≤ c ∧ Routes w w.heap.size A rs.length rs) ∨
  (∃ p rs, at_ = ((p : Nat) : Int) ∧ p < xs.length ∧ Parsed f add xs p rs ∧ oneOk f add (xs.drop p) = false ∧ v = .slice none 0 0)

set_option maxHeartbeats 1600000 in
set_option maxRecDepth 100000 in
theorem nread_any (f : Int) (add : Bool) (A : Option Addr) (n c : Nat) (xs : List Int) (w : World) (hx : Bytes w w.heap.size A n xs) (hn : n ≤ 100000000) :
    Calls Tryd.prog 48 #[.int .i64 f, .bool add, .slice A n c] w fun e w' => ∃ v at_, e = .returned (.tuple #[v, .int .i64 at_]) ∧ ReadsTo f add xs w' v at_ ∧ Below w.heap.size w w' := by
  have hz19 : #[.int .u32 0, .int .i64 0, .int .i64 0, .int .u8 0, .int .u8 0, .int .u8 0, .int .u8 0, .int .u8 0, .int .u8 0, .int .u8 0, .int .u8 0, .int .u8 0, .int .u8 0, .int .u8 0, .int .u8 0, .int .u8 0, .int .u8 0, .int .u8 0, .int .u8 0] = rt rt0 := rt_zero.symm
  have HN := Lib.hid hx.1
  have HR := Lib.hid hx.2.1
  have hb0 := bl_alloc (bl_alloc (bl_refl w) (.cells #[.int .i64 f] 3)) (.cells #[.bool add] 4)
  have of := (Own.new w 3 #[.int .i64 f]).alloc (.cells #[.bool add] 4)
  have oa := Own.new (w.alloc (.cells #[.int .i64 f] 3)) 4 #[.bool add]
  have hsz : (w.alloc (.cells #[.int .i64 f] 3)).heap.size = w.heap.size + 1 := by simp
  rw [hsz] at oa
  have hx1 := (hx.below hb0).more hb0.size
  clear hsz
  go_enter Tryd.func48, Tryd.ntmps48
  go_wp2_with fail
  refine (new_any _ _ _ xs _ hx1 (by omega)).mono ?_
  rintro e w1 ⟨g, rfl, hg, hrd, hb1⟩
  have of1 := of.step hb1
  have oa1 := oa.step hb1
  have hb2 := bl_trans hb0 hb1
  clear of oa hb0 hb1 hx1
  go_wp2_with fail
  have HW : ∃ wS : World, wS = w1.alloc (.cells #[.pointer (some ⟨g, 0, none⟩)] 41) := ⟨_, rfl⟩
  obtain ⟨wS, hwS⟩ := HW
  have hb3 := bl_alloc (bl_refl w1) (.cells #[.pointer (some ⟨g, 0, none⟩)] 41)
  have or1 := Own.new w1 41 #[.pointer (some ⟨g, 0, none⟩)]
  have of2 := of1.step hb3
  have oa2 := oa1.step hb3
  have hrB := hrd.toB.below hb3
  have hbS := bl_trans hb2 hb3
  rw [← hwS] at or1 of2 oa2 hrB hbS ⊢
  have hgl := hrd.lt
  have hgw : w.heap.size + 1 < g := by simp at hg; omega
  have hlS : w1.heap.size + 1 = wS.heap.size := by rw [hwS]; simp
  clear hb3 of1 oa1 hrd hb2 hwS hg hx
  go_loopw [10] (fun v wr => ∃ (p : Nat) (rs : List Rt), Parsed f add xs p rs ∧ wr.ownsRow wS.heap.size 87 19 v rs.length (flatR rs) ∧ RdrB w1.heap.size wr g (xs.drop p) p ∧ wS.grownBy wr (some g)) (fun v _ => xs.length - lenOf v)
  case atStart => exact ⟨0, [], .nil, World.ownsRow_nil _ _ _ _, hrB, World.grownBy.refl _ _⟩
  case round =>
    obtain ⟨p, rs, hps, hown, hrd, hgr⟩ := hrel
    have hple := hps.le
    have hp0 := hple.1
    have hrl := hple.2
    have hcr := (or1.grown hgr (fun e => by cases e; omega))
    have hcf := (of2.grown hgr (fun e => by cases e; omega))
    have hca := (oa2.grown hgr (fun e => by cases e; omega))
    have hcr0 := hcr.cell (i := 0) rfl
    have HL := Lib.hid (show (xs.drop p).length = xs.length - p by rw [List.length_drop])
    have HV := own_val hown
    obtain ⟨A1, c1, rfl, hc1, _⟩ := HV
    clear hple
    by_cases hlt : p < xs.length
    · have HLT := Lib.hid hlt
      have h0 : (0 : Int) < ((xs.drop p).length : Int) := by rw [HL.out]; omega
      have HOK := Lib.hid (oneR_ok (f := f) (add := add) hrd.range)
      go_wp2_with fail
      refine (left_any g _ p _ hrd.rdr).mono ?_
      rintro e w' ⟨rfl, rfl⟩
      go_wp2_with fail
      refine (at_any g _ p _ hrd.rdr).mono ?_
      rintro e w' ⟨rfl, rfl⟩
      go_wp2_with fail
      refine (one_any w1.heap.size f add (xs.drop p) g p (w.heap.size + 1) w1.heap.size w.heap.size _ hrd (by rw [HL.out]; have := HN.out; omega) (by have := HN.out; omega) hca hcr hcf (by omega) (by omega)).mono ?_
      have hi19 := Lib.hid (rt_info HOK.out.1.1)
      have hs19 := Lib.hid (show (rt rt0).size = (rt (oneR f add (xs.drop p))).size by rw [rt_size HOK.out.1.1]; rfl)
      by_cases hk : oneOk f add (xs.drop p) = true
      · rw [hk]
        rintro e w2 ⟨rfl, hrd2, hg2⟩
        have hrd3 := hrd2 rfl
        rw [List.drop_drop] at hrd3
        have hps2 := Lib.hid (Parsed.cons hps hlt hk)
        have hgr2 := only_trans hgr hg2
        have hwr := hgr.size
        have hbase := own_base hown
        have hown2 := hown.kept hg2 (.inr (fun e => by have := hbase g e; omega))
        have o1 := Own.new w2 87 (rt rt0)
        have o2 := o1.setRow (cs' := rt (oneR f add (xs.drop p)))
        have hb3 : Below w2.heap.size w2 _ := bl_setRow (cs := rt (oneR f add (xs.drop p))) (bl_alloc (bl_refl w2) (.cells (rt rt0) 87)) (Nat.le_refl _)
        have hb4 := bl_alloc hb3 (.cells (rt (oneR f add (xs.drop p))) 87)
        have hown3 := own_below hown2 hb4
        have hrd4 := hrd3.below hb4
        have hgr4 := only_below hgr2 hb4
        have hs2 := hgr2.size
        have o4 := Own.new ((w2.alloc (.cells (rt rt0) 87)).setRow w2.heap.size (rt (oneR f add (xs.drop p)))) 87 (rt (oneR f add (xs.drop p)))
        have hsh := Shows.of_owned (xs := (rt (oneR f add (xs.drop p))).toList) o4 (Nat.lt_succ_self _)
        have hl19 := Lib.hid (show (rt (oneR f add (xs.drop p))).toList.length = 1 * 19 by rw [Array.length_toList, rt_size HOK.out.1.1])
        have HP := Lib.hid (Parsed.le hps2.out)
        clear hrd2 hk hown hg2 hrd3 hown2 hgr2 hb4
        go_wp2_with (first | (refine wpList_load_row rfl 87 _ rfl w2.heap.size rfl 87 (rt (oneR f add (xs.drop p))) (0, 0) (.struct (Tryd.prog.fieldsOf 87)) o2 rt_desc rfl hi19.out ?_) | (refine wpList_store_row rfl 87 _ _ rfl w2.heap.size (rt (oneR f add (xs.drop p))) rfl rfl 87 (rt rt0) o1 hi19.out hs19.out (rt_one _) ?_) | (refine wpList_build_route rfl _ rfl (oneR f add (xs.drop p)) HOK.out.1.1 (by simp only [List.map_toArray, List.map_cons, List.map_nil]; rfl) ?_) | (at_builtin; refine wpList_append_grow _ rfl _ _ rfl sl_routes wS.heap.size _ _ _ rfl hown3 _ _ 1 1 (rt (oneR f add (xs.drop p))).toList rfl hl19.out hsh rt_one_mem (by unfold maxLen; have := HN.out; omega) (by have := HN.out; omega) (by simp; omega) ?_; intro v5 w5 hown5 hgrow5))
        have hfr : flatR rs ++ (rt (oneR f add (xs.drop p))).toList = flatR (rs ++ [oneR f add (xs.drop p)]) := by simp [flatR]
        have hlr : rs.length + 1 = (rs ++ [oneR f add (xs.drop p)]).length := by simp
        rw [hfr, hlr] at hown5
        refine ⟨⟨_, _, hps2.out, hown5, hrd4.row hgrow5 (fun j hj => by have := hbase j hj; omega), gr_row hgr4 hgrow5 hbase⟩, ?_⟩
        obtain ⟨A5, c5, rfl, _⟩ := own_val hown5
        show xs.length - (rs ++ [oneR f add (xs.drop p)]).length < xs.length - rs.length
        rw [← hlr]
        omega
      · have hk' : oneOk f add (xs.drop p) = false := by simpa using hk
        rw [hk']
        rintro e w2 ⟨rfl, _, hg2⟩
        have hgr2 := only_trans hgr hg2
        have o1 := Own.new w2 87 (rt rt0)
        go_wp2_with (refine wpList_store_row rfl 87 _ _ rfl w2.heap.size (rt (oneR f add (xs.drop p))) rfl rfl 87 (rt rt0) o1 hi19.out hs19.out (rt_one _) ?_)
        go_ret2
        have hgr3 := only_setRow (k := w2.heap.size) (cs := rt (oneR f add (xs.drop p))) (only_below hgr2 (bl_alloc (bl_refl w2) (.cells (rt rt0) 87))) hgr2.size
        have hbw := hbS.trans (below_of_only (Below.refl _ _) hgr3 hbS.size (by omega))
        exact ⟨_, _, rfl, .inr ⟨p, rs, rfl, HLT.out, hps, hk', rfl⟩, hbw⟩
    · have hpe := Lib.hid (show p = xs.length by omega)
      have h0 : ¬ (0 : Int) < ((xs.drop p).length : Int) := by rw [HL.out]; omega
      go_wp2_with fail
      refine (left_any g _ p _ hrd.rdr).mono ?_
      rintro e w' ⟨rfl, rfl⟩
      go_wp2_with fail
      go_ret2
      rw [hpe.out] at hps
      have hbw : Below w.heap.size w wr := hbS.trans (below_of_only (Below.refl _ _) hgr hbS.size (by omega))
      obtain ⟨A2, c2, hv, hc2, hro⟩ := own_routes hown (hps.ok HR.out) rfl
      exact ⟨_, _, rfl, .inl ⟨rs, A2, c2, rfl, hps, hv, hc2, hro⟩, hbw⟩
end Go.Proofs.YtmlmgjdjbpipcaaDoor

/- what nlri.Read reads of the form of some routes -/
namespace Go.Proofs.YtmlmgjdjbpipcaaDoor
open Go.RowKit

theorem top_zero {x : Int} (h0 : 0 ≤ x) (h1 : x ≤ 255) : top x 0 = 0 := by
  unfold top
  rw [show (2 : Int) ^ (8 - 0) = 256 from rfl, Int.ediv_eq_zero_of_lt h0 (by omega)]; rfl
theorem mask_pad {l : Int} {a : List Int} (ha : IsAddr a) (h0 : 0 ≤ l) (h1 : l ≤ 128) : maskL l (padTo (a.take (sizeOfBits l).toNat)) = maskL l a := by
  have hs : (sizeOfBits l).toNat ≤ 16 := by unfold sizeOfBits; omega
  have hl : (a.take (sizeOfBits l).toNat).length = (sizeOfBits l).toNat := by rw [List.length_take, ha.1]; omega
  have hp : IsAddr (padTo (a.take (sizeOfBits l).toNat)) := padTo_addr (by omega) (fun x hx => ha.2 x (List.mem_of_mem_take hx))
  apply List.ext_getElem
  · rw [maskL_len, maskL_len, hp.1, ha.1]
  intro i q1 q2
  rw [maskL_len] at q1 q2
  have e1 := hp.2 _ (List.getElem_mem q1)
  have e2 := ha.2 _ (List.getElem_mem q2)
  simp only [maskL, List.getElem_mapIdx]
  by_cases hi : i < (sizeOfBits l).toNat
  · congr 1
    simp only [padTo]
    rw [List.getElem_append_left (by rw [hl]; exact hi), List.getElem_take]
  · have hk : (keep l i).toNat = 0 := by unfold keep; unfold sizeOfBits at hi; omega
    rw [hk, top_zero e1.1 e1.2, top_zero e2.1 e2.2]
theorem big_four (x : Int) (h0 : 0 ≤ x) (h1 : x ≤ 4294967295) : big (digitsOf 4 x) = x := by
  rw [digitsOf_4]; simp [big]; omega
theorem p_form {f l : Int} {a : List Int} (ha : IsAddr a) (hk : pfxOk f l a = true) (rest : List Int) :
    pOk f (pfxForm l a ++ rest) = true ∧ pN (pfxForm l a ++ rest) = (pfxForm l a).length ∧ pF f (pfxForm l a ++ rest) = f ∧ pL f (pfxForm l a ++ rest) = l ∧ pA f (pfxForm l a ++ rest) = a := by
  have hr := pfxOk_range hk
  have hs : (sizeOfBits l).toNat ≤ 16 := by unfold sizeOfBits; omega
  have hl : (a.take (sizeOfBits l).toNat).length = (sizeOfBits l).toNat := by rw [List.length_take, ha.1]; omega
  have hk2 := hk
  simp only [pfxOk, Bool.and_eq_true, decide_eq_true_eq] at hk2
  have e : pfxForm l a ++ rest = l :: (a.take (sizeOfBits l).toNat ++ rest) := rfl
  have hok : pOk f (pfxForm l a ++ rest) = true := by
    rw [e]
    simp only [pOk, hk2.1, Bool.true_and, decide_eq_true_eq, List.length_append, hl]
    omega
  have htk : ((pfxForm l a ++ rest).drop 1).take (sizeOfBits l).toNat = a.take (sizeOfBits l).toNat := by
    rw [e]
    show (a.take (sizeOfBits l).toNat ++ rest).take (sizeOfBits l).toNat = _
    rw [List.take_append_of_le_length (by omega), List.take_of_length_le (by omega)]
  have hh : (pfxForm l a ++ rest).headD 0 = l := rfl
  refine ⟨hok, ?_, ?_, ?_, ?_⟩
  · unfold pN; rw [hh]; unfold pfxForm; rw [List.length_cons, hl]; omega
  · unfold pF; rw [if_pos hok]
  · unfold pL; rw [if_pos hok, hh]
  · unfold pA; rw [if_pos hok, hh, htk, mask_pad ha hr.1 hr.2, hk2.2]
theorem one_form {f : Int} {add : Bool} {r : Rt} (ho : r.Ok) (hk : rtOk f add r = true) (rest : List Int) :
    oneOk f add (rtForm add r ++ rest) = true ∧ oneN add (rtForm add r ++ rest) = (rtForm add r).length ∧ oneR f add (rtForm add r ++ rest) = r := by
  obtain ⟨p, rf, l, a⟩ := r
  simp only [rtOk, Bool.and_eq_true, decide_eq_true_eq] at hk
  obtain ⟨⟨rfl, hp⟩, ha⟩ := hk
  cases add
  · simp only [Bool.false_or, decide_eq_true_eq] at ha
    subst ha
    obtain ⟨h1, h2, h3, h4, h5⟩ := p_form ho.1 hp rest
    have e : rtForm false ⟨0, rf, l, a⟩ = pfxForm l a := rfl
    rw [e]
    refine ⟨h1, h2, ?_⟩
    show Rt.mk 0 _ _ _ = _
    rw [h3, h4, h5]
  · obtain ⟨h1, h2, h3, h4, h5⟩ := p_form ho.1 hp rest
    have h4l := digitsOf_len 4 p
    have e : rtForm true ⟨p, rf, l, a⟩ = digitsOf 4 p ++ pfxForm l a := rfl
    have ed : (digitsOf 4 p ++ pfxForm l a ++ rest).drop 4 = pfxForm l a ++ rest := by
      rw [List.append_assoc, List.drop_append_of_le_length (by omega), List.drop_of_length_le (by omega)]; rfl
    have et : (digitsOf 4 p ++ pfxForm l a ++ rest).take 4 = digitsOf 4 p := by
      rw [List.append_assoc, List.take_append_of_le_length (by omega), List.take_of_length_le (by omega)]
    have hl : 4 ≤ (digitsOf 4 p ++ pfxForm l a ++ rest).length := by rw [List.append_assoc, List.length_append, h4l]; omega
    rw [e]
    refine ⟨?_, ?_, ?_⟩
    · simp only [oneOk, if_true, ed, h1, Bool.and_true, decide_eq_true_eq]; exact hl
    · show 4 + pN _ = _
      rw [ed, h2, List.length_append, h4l]
    · simp only [oneR, if_true, if_pos hl, ed, et, h3, h4, h5]
      rw [big_four p ho.2.1 ho.2.2]
theorem formAll_split {add : Bool} {rs : List Rt} {j : Nat} (h : j < rs.length) : formAll add rs = formAll add (rs.take j) ++ (rtForm add (nthR rs j) ++ formAll add (rs.drop (j + 1))) := by
  have e : rs = rs.take j ++ (nthR rs j :: rs.drop (j + 1)) := by
    have h1 := List.take_append_drop j rs
    have h2 : rs.drop j = nthR rs j :: rs.drop (j + 1) := by
      rw [List.drop_eq_getElem_cons h]
      congr 1
      have := nthR_some h
      rw [List.getElem?_eq_getElem h] at this
      exact Option.some.inj this
    rw [h2] at h1
    exact h1.symm
  have e2 : formAll add rs = formAll add (rs.take j ++ (nthR rs j :: rs.drop (j + 1))) := by rw [← e]
  rw [e2]
  simp [formAll]
theorem step_form {f : Int} {add : Bool} {rs : List Rt} (ho : ∀ r ∈ rs, r.Ok) (hk : rs.all (rtOk f add) = true) {j : Nat} (hj : j < rs.length) :
    oneOk f add ((formAll add rs).drop (formAll add (rs.take j)).length) = true ∧ oneN add ((formAll add rs).drop (formAll add (rs.take j)).length) = (rtForm add (nthR rs j)).length ∧ oneR f add ((formAll add rs).drop (formAll add (rs.take j)).length) = nthR rs j := by
  rw [formAll_split hj, List.drop_append_of_le_length (Nat.le_refl _), List.drop_of_length_le (Nat.le_refl _), List.nil_append]
  exact one_form (ho _ (nthR_mem hj)) (List.all_eq_true.1 hk _ (nthR_mem hj)) _
theorem rtForm_pos (add : Bool) (r : Rt) : 0 < (rtForm add r).length := by
  unfold rtForm pfxForm
  rw [List.length_append, List.length_cons]; omega
theorem parsed_form {f : Int} {add : Bool} {rs : List Rt} (ho : ∀ r ∈ rs, r.Ok) (hk : rs.all (rtOk f add) = true) {p : Nat} {rs' : List Rt} (h : Parsed f add (formAll add rs) p rs') :
    ∃ j, j ≤ rs.length ∧ rs' = rs.take j ∧ p = (formAll add (rs.take j)).length := by
  induction h with
  | nil => exact ⟨0, Nat.zero_le _, rfl, rfl⟩
  | @cons p rs' h hp hk' ih =>
    obtain ⟨j, hj, rfl, rfl⟩ := ih
    have hj' : j < rs.length := by
      rcases Nat.lt_or_ge j rs.length with h1 | h1
      · exact h1
      · rw [List.take_of_length_le h1] at hp; omega
    obtain ⟨_, h2, h3⟩ := step_form ho hk hj'
    refine ⟨j + 1, hj', ?_, ?_⟩
    · rw [h3, take_nthR hj']
    · rw [h2, formAll_take hj', List.length_append]
theorem parsed_all {f : Int} {add : Bool} {rs : List Rt} (ho : ∀ r ∈ rs, r.Ok) (hk : rs.all (rtOk f add) = true) {rs' : List Rt} (h : Parsed f add (formAll add rs) (formAll add rs).length rs') : rs' = rs := by
  obtain ⟨j, hj, rfl, hp⟩ := parsed_form ho hk h
  rcases Nat.lt_or_ge j rs.length with h1 | h1
  · rw [formAll_split h1, List.length_append, List.length_append] at hp
    have := rtForm_pos add (nthR rs j)
    omega
  · exact List.take_of_length_le h1
theorem parsed_go {f : Int} {add : Bool} {rs : List Rt} (ho : ∀ r ∈ rs, r.Ok) (hk : rs.all (rtOk f add) = true) {p : Nat} {rs' : List Rt} (h : Parsed f add (formAll add rs) p rs') (hp : p < (formAll add rs).length) : oneOk f add ((formAll add rs).drop p) = true := by
  obtain ⟨j, hj, rfl, rfl⟩ := parsed_form ho hk h
  rcases Nat.lt_or_ge j rs.length with h1 | h1
  · exact (step_form ho hk h1).1
  · rw [List.take_of_length_le h1] at hp; omega
end Go.Proofs.YtmlmgjdjbpipcaaDoor

/- What is read of some bytes is determined, and valid -/
namespace Go.Proofs.YtmlmgjdjbpipcaaDoor
open Go.RowKit

theorem Parsed.same {f : Int} {add : Bool} {xs : List Int} {p q : Nat} {rs rs' : List Rt} (h : Parsed f add xs p rs) (h' : Parsed f add xs q rs') (hl : rs.length = rs'.length) : p = q ∧ rs = rs' := by
  induction h generalizing q rs' with
  | nil =>
    cases h' with
    | nil => exact ⟨rfl, rfl⟩
    | cons => simp at hl
  | cons h hp hk ih =>
    cases h' with
    | nil => simp at hl
    | cons h2 hp2 hk2 =>
      simp at hl
      obtain ⟨rfl, rfl⟩ := ih h2 hl
      exact ⟨rfl, rfl⟩
theorem Parsed.upto {f : Int} {add : Bool} {xs : List Int} {q : Nat} {rs : List Rt} (h : Parsed f add xs q rs) : ∀ k, k < rs.length → ∃ p, Parsed f add xs p (rs.take k) ∧ p < q ∧ p < xs.length ∧ oneOk f add (xs.drop p) = true := by
  induction h with
  | nil => intro k hk; simp at hk
  | @cons p rs h hp hk ih =>
    intro k hlt
    have hN := oneN_pos add (xs.drop p)
    rw [List.length_append, List.length_singleton] at hlt
    rcases Nat.lt_or_ge k rs.length with h1 | h1
    · obtain ⟨p', a, b, c, d⟩ := ih k h1
      exact ⟨p', by rw [List.take_append_of_le_length (by omega)]; exact a, by omega, c, d⟩
    · obtain rfl : k = rs.length := by omega
      exact ⟨p, by rw [List.take_append_of_le_length (Nat.le_refl _), List.take_length]; exact h, by omega, hp, hk⟩
theorem Parsed.cmp {f : Int} {add : Bool} {xs : List Int} {p q : Nat} {rs rs' : List Rt} (h : Parsed f add xs p rs) (h' : Parsed f add xs q rs') :
    (p = q ∧ rs = rs') ∨ (p < q ∧ oneOk f add (xs.drop p) = true) ∨ (q < p ∧ oneOk f add (xs.drop q) = true) := by
  rcases Nat.lt_trichotomy rs.length rs'.length with hl | hl | hl
  · obtain ⟨p', a, b, c, d⟩ := h'.upto rs.length hl
    obtain ⟨rfl, _⟩ := h.same a (by rw [List.length_take]; omega)
    exact .inr (.inl ⟨b, d⟩)
  · exact .inl (h.same h' hl)
  · obtain ⟨p', a, b, c, d⟩ := h.upto rs'.length hl
    obtain ⟨rfl, _⟩ := h'.same a (by rw [List.length_take]; omega)
    exact .inr (.inr ⟨b, d⟩)
theorem Parsed.bound {f : Int} {add : Bool} {xs : List Int} {p : Nat} {rs : List Rt} (h : Parsed f add xs p rs) : p ≤ xs.length := h.le.1
/-- Two readings of the same bytes agree. -/
theorem reads_same {f : Int} {add : Bool} {xs : List Int} {w w' : World} {v v' : Value} {a a' : Int} (h : ReadsTo f add xs w v a) (h' : ReadsTo f add xs w' v' a') :
    a = a' ∧ ((∃ rs A c A' c', a = -1 ∧ Parsed f add xs xs.length rs ∧ v = .slice A rs.length c ∧ v' = .slice A' rs.length c' ∧ Routes w w.heap.size A rs.length rs ∧ Routes w' w'.heap.size A' rs.length rs) ∨
      (0 ≤ a ∧ v = .slice none 0 0 ∧ v' = .slice none 0 0)) := by
  rcases h with ⟨rs, A, c, rfl, hp, rfl, hc, hr⟩ | ⟨p, rs, rfl, hlt, hp, hk, rfl⟩ <;> rcases h' with ⟨rs', A', c', rfl, hp', rfl, hc', hr'⟩ | ⟨p', rs', rfl, hlt', hp', hk', rfl⟩
  · rcases hp.cmp hp' with ⟨_, rfl⟩ | ⟨hx, _⟩ | ⟨hx, _⟩
    · exact ⟨rfl, .inl ⟨rs, A, c, A', c', rfl, hp, rfl, rfl, hr, hr'⟩⟩
    · omega
    · omega
  · rcases hp.cmp hp' with ⟨hx, _⟩ | ⟨hx, _⟩ | ⟨_, hx⟩
    · omega
    · omega
    · rw [hx] at hk'; cases hk'
  · rcases hp.cmp hp' with ⟨hx, _⟩ | ⟨_, hx⟩ | ⟨hx, _⟩
    · omega
    · rw [hx] at hk; cases hk
    · omega
  · rcases hp.cmp hp' with ⟨rfl, _⟩ | ⟨_, hx⟩ | ⟨_, hx⟩
    · exact ⟨rfl, .inr ⟨by omega, rfl, rfl⟩⟩
    · rw [hx] at hk; cases hk
    · rw [hx] at hk'; cases hk'

theorem top_top (x : Int) (c : Nat) : top (top x c) c = top x c := by
  unfold top
  have : (0 : Int) < 2 ^ (8 - c) := Int.pow_pos (by omega)
  rw [Int.mul_ediv_cancel _ (by omega)]
theorem mask_mask (l : Int) (a : List Int) : maskL l (maskL l a) = maskL l a := by
  apply List.ext_getElem (by simp [maskL_len])
  intro i h1 h2
  have hi : i < a.length := by rwa [maskL_len] at h2
  simp only [maskL, List.getElem_mapIdx]
  exact top_top _ _
theorem pread_valid {f : Int} {xs : List Int} (hr : ∀ x ∈ xs, 0 ≤ x ∧ x ≤ 255) (hk : pOk f xs = true) : pF f xs = f ∧ pfxOk (pF f xs) (pL f xs) (pA f xs) = true := by
  have hf : pF f xs = f := by unfold pF; rw [if_pos hk]
  refine ⟨hf, ?_⟩
  have hl : pL f xs = xs.headD 0 := by unfold pL; rw [if_pos hk]
  have ha : pA f xs = maskL (xs.headD 0) (padTo ((xs.drop 1).take (sizeOfBits (xs.headD 0)).toNat)) := by unfold pA; rw [if_pos hk]
  rw [hf, hl, ha]
  match xs, hk, hr with
  | x :: ys, hk, hr =>
    simp only [pOk, Bool.and_eq_true, decide_eq_true_eq] at hk
    have hrg := lenOk_range hk.1
    have h5 : sizeOfBits x ≤ 16 := by unfold sizeOfBits; omega
    have hp : IsAddr (padTo (((x :: ys).drop 1).take (sizeOfBits x).toNat)) := padTo_addr (by rw [List.length_take]; omega) (fun y hy => hr y (List.mem_of_mem_drop (List.mem_of_mem_take hy)))
    simp only [List.headD_cons]
    unfold pfxOk
    rw [hk.1, mask_mask x _]
    simp
theorem one_valid {f : Int} {add : Bool} {xs : List Int} (hr : ∀ x ∈ xs, 0 ≤ x ∧ x ≤ 255) (hk : oneOk f add xs = true) : rtOk f add (oneR f add xs) = true := by
  cases add
  · have h := pread_valid hr hk
    have e : oneR f false xs = ⟨0, pF f xs, pL f xs, pA f xs⟩ := rfl
    rw [e]
    unfold rtOk
    rw [h.2, decide_eq_true h.1]
    simp
  · simp only [oneOk, if_true, Bool.and_eq_true, decide_eq_true_eq] at hk
    have h := pread_valid (fun x hx => hr x (List.mem_of_mem_drop hx)) hk.2
    have e : oneR f true xs = ⟨big (xs.take 4), pF f (xs.drop 4), pL f (xs.drop 4), pA f (xs.drop 4)⟩ := by simp [oneR, hk.1]
    rw [e]
    unfold rtOk
    rw [h.2, decide_eq_true h.1]
    simp
theorem Parsed.valid {f : Int} {add : Bool} {xs : List Int} {p : Nat} {rs : List Rt} (h : Parsed f add xs p rs) (hr : ∀ x ∈ xs, 0 ≤ x ∧ x ≤ 255) : rs.all (rtOk f add) = true := by
  induction h with
  | nil => rfl
  | cons h hp hk ih =>
    rw [List.all_append, ih]
    simp [one_valid (fun x hx => hr x (List.mem_of_mem_drop hx)) hk]
theorem reads_valid {f : Int} {add : Bool} {xs : List Int} {p : Nat} {rs : List Rt} (h : Parsed f add xs p rs) (hr : ∀ x ∈ xs, 0 ≤ x ∧ x ≤ 255) : rs.all (rtOk f add) = true := h.valid hr
theorem formAll_append (add : Bool) (a b : List Rt) : formAll add (a ++ b) = formAll add a ++ formAll add b := by simp [formAll]
end Go.Proofs.YtmlmgjdjbpipcaaDoor

/- peerageref02.Make -/
namespace Go.Proofs.YtmlmgjdjbpipcaaDoor
open Go.RowKit

theorem qmask_zero {a : List Int} (ha : IsAddr a) : maskL 0 a = zero16 := by
  apply List.ext_getElem (by rw [maskL_len, ha.1]; rfl)
  intro i h1 h2
  have hi : i < a.length := by rwa [maskL_len] at h1
  have hx := ha.2 _ (List.getElem_mem hi)
  simp only [maskL, List.getElem_mapIdx, zero16, List.getElem_replicate]
  have e : (keep 0 i).toNat = 0 := by unfold keep; omega
  rw [e]
  unfold top
  rw [show (2 : Int) ^ (8 - 0) = 256 from rfl, Int.ediv_eq_zero_of_lt hx.1 (by omega)]; rfl
theorem set_pfx2 (f l : Int) : ((pfx 0 0 zero16).setIfInBounds 0 (.int .i64 f)).setIfInBounds 1 (.int .i64 l) = pfx f l zero16 := by kernel_rfl
theorem byte_next : ∀ x, x < 256 → ∀ c, c < 8 → (x / 2 ^ (7 - c) % 2 = 1 → (x / 2 ^ (8 - c) * 2 ^ (8 - c)) ||| (2 ^ (7 - c)) = x / 2 ^ (8 - (c + 1)) * 2 ^ (8 - (c + 1))) ∧ (x / 2 ^ (7 - c) % 2 = 0 → x / 2 ^ (8 - c) * 2 ^ (8 - c) = x / 2 ^ (8 - (c + 1)) * 2 ^ (8 - (c + 1))) := by decide +kernel

theorem pad_nth {xs : List Int} {q : Nat} (h : q < xs.length) : nth (padTo xs) q = nth xs q := by
  unfold nth padTo
  rw [List.getD_eq_getElem?_getD, List.getD_eq_getElem?_getD, List.getElem?_append_left h]
theorem mask_nth (l : Int) {a : List Int} {q : Nat} (h : q < a.length) : nth (maskL l a) q = top (nth a q) (keep l q).toNat := by simp [nth, maskL, h]
theorem mask_ext {l l' : Int} {a : List Int} (h : ∀ i, i < a.length → top (nth a i) (keep l i).toNat = top (nth a i) (keep l' i).toNat) : maskL l a = maskL l' a := by
  apply List.ext_getElem (by rw [maskL_len, maskL_len])
  intro i h1 h2
  have hi : i < a.length := by rwa [maskL_len] at h1
  have := h i hi
  simpa [nth, maskL, hi] using this
theorem keep_other {j i : Nat} (h : i ≠ j / 8) : keep ((j : Int) + 1) i = keep (j : Int) i := by unfold keep; omega
theorem keep_here (j : Nat) : (keep (j : Int) (j / 8)).toNat = j % 8 ∧ (keep ((j : Int) + 1) (j / 8)).toNat = j % 8 + 1 := by unfold keep; omega
theorem bit_nat (n k : Nat) (h : n < 256) : (bits BinOp.and IntKind.u8 ((n : Int) / 2 ^ k) 1 == 1) = decide (n / 2 ^ k % 2 = 1) := by
  have h1 : n / 2 ^ k < 256 := Nat.lt_of_le_of_lt (Nat.div_le_self _ _) h
  have e : ((n : Int) / 2 ^ k) = ((n / 2 ^ k : Nat) : Int) := by rw [Int.natCast_ediv, Int.natCast_pow]; rfl
  have h2 := u8_and_nat (n / 2 ^ k) 1 h1 (by omega)
  rw [e]
  have h3 : bits BinOp.and IntKind.u8 ((n / 2 ^ k : Nat) : Int) 1 = ((n / 2 ^ k % 2 : Nat) : Int) := by rw [← nat_mask1]; exact h2
  rw [h3]
  by_cases hb : n / 2 ^ k % 2 = 1
  · rw [hb]; rfl
  · have : n / 2 ^ k % 2 = 0 := by omega
    rw [this]; rfl
theorem top_cast (n c : Nat) : top (n : Int) c = ((n / 2 ^ (8 - c) * 2 ^ (8 - c) : Nat) : Int) := by
  unfold top
  rw [Int.natCast_mul, Int.natCast_ediv, Int.natCast_pow]; rfl
theorem byte_nxt (n c : Nat) (h : n < 256) (hc : c < 8) :
    (n / 2 ^ (7 - c) % 2 = 1 → bits BinOp.or IntKind.u8 (top (n : Int) c) ((2 ^ (7 - c) : Nat) : Int) = top (n : Int) (c + 1)) ∧ (n / 2 ^ (7 - c) % 2 = 0 → top (n : Int) c = top (n : Int) (c + 1)) := by
  have hb := byte_next n h c hc
  have hp : 2 ^ (7 - c) < 256 := by
    have : 2 ^ (7 - c) ≤ 2 ^ 7 := Nat.pow_le_pow_right (by omega) (by omega)
    omega
  have ht : n / 2 ^ (8 - c) * 2 ^ (8 - c) < 256 := Nat.lt_of_le_of_lt (Nat.div_mul_le_self _ _) h
  constructor
  · intro h1
    rw [top_cast, top_cast, u8_or_nat _ _ ht hp, hb.1 h1]
  · intro h0
    rw [top_cast, top_cast, hb.2 h0]
theorem mask_step {xs : List Int} {j : Nat} (ha : IsAddr (padTo xs)) (hq : j / 8 < xs.length) :
    ((bits BinOp.and IntKind.u8 (nth xs (j / 8) / 2 ^ (7 - j % 8)) 1 == 1) = true → (maskL j (padTo xs)).set (j / 8) (bits BinOp.or IntKind.u8 (nth (maskL j (padTo xs)) (j / 8)) ((2 : Int) ^ (7 - j % 8) % 256)) = maskL ((j : Int) + 1) (padTo xs)) ∧
    ((bits BinOp.and IntKind.u8 (nth xs (j / 8) / 2 ^ (7 - j % 8)) 1 == 1) = false → maskL j (padTo xs) = maskL ((j : Int) + 1) (padTo xs)) := by
  have hl : (padTo xs).length = 16 := ha.1
  have hq16 : j / 8 < (padTo xs).length := by unfold padTo; rw [List.length_append]; omega
  have hx := ha.2 _ (nth_mem hq16)
  rw [pad_nth hq] at hx
  obtain ⟨n, hn⟩ := Int.eq_ofNat_of_zero_le hx.1
  have hn' : n < 256 := by omega
  obtain ⟨k1, k2⟩ := keep_here j
  have hbt := byte_nxt n (j % 8) hn' (by omega)
  have e1 : nth (maskL j (padTo xs)) (j / 8) = top (n : Int) (j % 8) := by rw [mask_nth _ hq16, pad_nth hq, k1, hn]
  have e2 : (2 : Int) ^ (7 - j % 8) % 256 = ((2 ^ (7 - j % 8) : Nat) : Int) := by
    have : 2 ^ (7 - j % 8) ≤ 2 ^ 7 := Nat.pow_le_pow_right (by omega) (by omega)
    rw [show ((2 : Int) ^ (7 - j % 8)) = ((2 ^ (7 - j % 8) : Nat) : Int) by rw [Int.natCast_pow]; rfl]
    generalize 2 ^ (7 - j % 8) = p at this
    omega
  rw [hn, bit_nat n _ hn', e1, e2]
  constructor
  · intro hb
    rw [hbt.1 (by simpa using hb)]
    apply List.ext_getElem (by rw [List.length_set, maskL_len, maskL_len])
    intro i h1 h2
    have hi : i < (padTo xs).length := by rwa [maskL_len] at h2
    rw [List.getElem_set]
    by_cases he : j / 8 = i
    · subst he
      rw [if_pos rfl]
      have := mask_nth ((j : Int) + 1) hq16
      rw [k2, pad_nth hq, hn] at this
      rw [← this, nth, List.getD_eq_getElem?_getD, List.getElem?_eq_getElem (by rw [maskL_len]; exact hq16)]; rfl
    · rw [if_neg he]
      simp only [maskL, List.getElem_mapIdx]
      rw [keep_other (fun e => he e.symm)]
  · intro hb
    have hb0 : n / 2 ^ (7 - j % 8) % 2 = 0 := by
      have : ¬ n / 2 ^ (7 - j % 8) % 2 = 1 := by simpa using hb
      omega
    refine mask_ext fun i hi => ?_
    by_cases he : i = j / 8
    · subst he
      rw [k1, k2, pad_nth hq, hn]
      exact hbt.2 hb0
    · rw [keep_other he]
theorem mask_full {xs : List Int} {l : Int} {j : Nat} (hl : (j : Int) ≤ l) (hj : (j : Int) = 8 * (xs.length : Int)) : maskL j (padTo xs) = maskL l (padTo xs) := by
  refine mask_ext fun i hi => ?_
  by_cases hx : i < xs.length
  · have e1 : (keep (j : Int) i).toNat = 8 := by unfold keep; omega
    have e2 : (keep l i).toNat = 8 := by unfold keep; omega
    rw [e1, e2]
  · have e : nth (padTo xs) i = 0 := by
      unfold nth padTo
      rw [List.getD_eq_getElem?_getD, List.getElem?_append_right (by omega)]
      unfold padTo at hi
      rw [List.length_append, List.length_replicate] at hi
      rw [List.getElem?_replicate, if_pos (by omega)]; rfl
    rw [e]
    unfold top
    simp

theorem pfx_set (f l : Int) (a : List Int) (q : Nat) (v : Int) : (pfx f l a).setIfInBounds (2 + q) (.int .u8 v) = pfx f l (a.set q v) := by
  unfold pfx
  rw [← arr_set, Array.setIfInBounds_append_right (by simp)]
  simp
def rmakeOk (f l : Int) (n : Nat) : Bool := lenOk f l && decide (8 * (n : Int) ≤ mostOf f)
theorem rmakeOk_eq (f l : Int) (n : Nat) : rmakeOk f l n = makeOk f l n := by
  unfold rmakeOk makeOk
  by_cases h : lenOk f l = true
  · rw [h]
    congr 1
    simp only [lenOk, decide_eq_true_eq] at h
    unfold widthOf mostOf at *
    by_cases h1 : f = 1
    · simp [h1]; omega
    · by_cases h2 : f = 2
      · simp [h2]; omega
      · simp [h1, h2] at h
  · simp [h]

set_option maxRecDepth 100000 in
set_option maxHeartbeats 400000 in
theorem rmake_no (f l : Int) (A : Option Addr) (n c : Nat) (w : World) (hn : n ≤ 1000000000) (hk : makeOk f l n = false) :
    Calls Tryd.prog 96 #[.int .i64 f, .int .i64 l, .slice A n c] w fun e w' => e = .returned (.tuple #[.agg (pfx 0 0 zero16), .bool false]) ∧ Below w.heap.size w w' := by
  rw [← rmakeOk_eq] at hk
  have hm : mostOf f ≤ 128 ∧ -1 ≤ mostOf f := by unfold mostOf; split <;> (try split) <;> omega
  have hm0 := hm.1
  have hm1 := hm.2
  have hz18 : #[.int .i64 0, .int .i64 0, .int .u8 0, .int .u8 0, .int .u8 0, .int .u8 0, .int .u8 0, .int .u8 0, .int .u8 0, .int .u8 0, .int .u8 0, .int .u8 0, .int .u8 0, .int .u8 0, .int .u8 0, .int .u8 0, .int .u8 0, .int .u8 0] = pfx 0 0 zero16 := pfx_zero.symm
  have ho := Own.new w 85 (pfx 0 0 zero16)
  have HK := Lib.hid hk
  clear hk hm
  by_cases h0 : l < 0
  · have d0 : decide (l < 0) = true := by simpa using h0
    go_enter Tryd.func96, Tryd.ntmps96
    go_wp2_with (first | (go_at_call 86; refine (most_any _ _).mono ?_; rintro e w' ⟨rfl, rfl⟩) | (refine wpList_store_row rfl 85 _ _ rfl w.heap.size (pfx 0 0 zero16) rfl rfl 85 (pfx 0 0 zero16) ho (pfx_info rfl) rfl (pfx_one 0 0 zero16) ?_))
    have hfin := ho.setRow (cs' := pfx 0 0 zero16)
    exact bodyPost_ret (results_cell_tmp rfl _ _ w.heap.size 85 (pfx 0 0 zero16) _ rfl hfin pfx_desc rfl (pfx_info rfl)) rfl ⟨rfl, bl_setRow (bl_alloc (bl_refl w) _) (Nat.le_refl _)⟩
  · have d0 : decide (l < 0) = false := by simpa using h0
    by_cases h1 : mostOf f < l
    · have d1 : decide (mostOf f < l) = true := by simpa using h1
      go_enter Tryd.func96, Tryd.ntmps96
      go_wp2_with (first | (go_at_call 86; refine (most_any _ _).mono ?_; rintro e w' ⟨rfl, rfl⟩) | (refine wpList_store_row rfl 85 _ _ rfl w.heap.size (pfx 0 0 zero16) rfl rfl 85 (pfx 0 0 zero16) ho (pfx_info rfl) rfl (pfx_one 0 0 zero16) ?_))
      have hfin := ho.setRow (cs' := pfx 0 0 zero16)
      exact bodyPost_ret (results_cell_tmp rfl _ _ w.heap.size 85 (pfx 0 0 zero16) _ rfl hfin pfx_desc rfl (pfx_info rfl)) rfl ⟨rfl, bl_setRow (bl_alloc (bl_refl w) _) (Nat.le_refl _)⟩
    · have d1 : decide (mostOf f < l) = false := by simpa using h1
      have h2 : mostOf f < 8 * (n : Int) := by
        have := HK.out
        unfold rmakeOk at this
        rw [lenOk_most, decide_eq_true (by omega), Bool.true_and, decide_eq_false_iff_not] at this
        omega
      have d2 : decide (mostOf f < 8 * (n : Int)) = true := by simpa using h2
      go_enter Tryd.func96, Tryd.ntmps96
      go_wp2_with (first | (go_at_call 86; refine (most_any _ _).mono ?_; rintro e w' ⟨rfl, rfl⟩) | (refine wpList_store_row rfl 85 _ _ rfl w.heap.size (pfx 0 0 zero16) rfl rfl 85 (pfx 0 0 zero16) ho (pfx_info rfl) rfl (pfx_one 0 0 zero16) ?_))
      have hfin := ho.setRow (cs' := pfx 0 0 zero16)
      exact bodyPost_ret (results_cell_tmp rfl _ _ w.heap.size 85 (pfx 0 0 zero16) _ rfl hfin pfx_desc rfl (pfx_info rfl)) rfl ⟨rfl, bl_setRow (bl_alloc (bl_refl w) _) (Nat.le_refl _)⟩

set_option maxRecDepth 100000 in
set_option maxHeartbeats 800000 in
theorem rmake_yes (f l : Int) (A : Option Addr) (n c : Nat) (xs : List Int) (w : World) (hx : Bytes w w.heap.size A n xs) (hk : makeOk f l n = true) :
    Calls Tryd.prog 96 #[.int .i64 f, .int .i64 l, .slice A n c] w fun e w' => e = .returned (.tuple #[.agg (pfx f l (maskL l (padTo xs))), .bool true]) ∧ Below w.heap.size w w' := by
  rw [← rmakeOk_eq] at hk
  have hm : mostOf f ≤ 128 ∧ -1 ≤ mostOf f := by unfold mostOf; split <;> (try split) <;> omega
  unfold rmakeOk at hk
  rw [lenOk_most] at hk
  simp only [Bool.and_eq_true, decide_eq_true_eq] at hk
  have hm0 := hm.1
  have hm1 := hm.2
  have hl0 : 0 ≤ l := hk.1.1
  have hl1 : l ≤ mostOf f := hk.1.2
  have hn1 : 8 * (n : Int) ≤ mostOf f := hk.2
  have hn16 : n ≤ 16 := by omega
  have d0 : decide (l < 0) = false := by simp; omega
  have d1 : decide (mostOf f < l) = false := by simp; omega
  have d2 : decide (mostOf f < 8 * (n : Int)) = false := by simp; omega
  have hpa := padTo_addr (xs := xs) (by rw [← hx.1]; exact hn16) hx.2.1
  have hz18 : #[.int .i64 0, .int .i64 0, .int .u8 0, .int .u8 0, .int .u8 0, .int .u8 0, .int .u8 0, .int .u8 0, .int .u8 0, .int .u8 0, .int .u8 0, .int .u8 0, .int .u8 0, .int .u8 0, .int .u8 0, .int .u8 0, .int .u8 0, .int .u8 0] = pfx 0 0 zero16 := pfx_zero.symm
  have ho := Own.new w 85 (pfx 0 0 zero16)
  have hset := set_pfx2 f l
  have HX := Lib.hid hx.1
  have o2 := Own.new (w.alloc (.cells (pfx 0 0 zero16) 85)) 85 (pfx 0 0 zero16)
  have hsz : (w.alloc (.cells (pfx 0 0 zero16) 85)).heap.size = w.heap.size + 1 := by simp
  rw [hsz] at o2
  clear hk hm hsz
  go_enter Tryd.func96, Tryd.ntmps96
  go_wp2_with (first | (go_at_call 86; refine (most_any _ _).mono ?_; rintro e w' ⟨rfl, rfl⟩) | (refine wpList_store_row rfl 85 _ _ rfl (w.heap.size + 1) (pfx f l zero16) rfl rfl 85 (pfx 0 0 zero16) o2 (pfx_info zero16_addr.1) (by rw [pfx_size zero16_addr.1, pfx_size zero16_addr.1]) (pfx_one _ _ _) ?_))
  have o3 := o2.setRow (cs' := pfx f l zero16)
  have o1 := (ho.alloc (.cells (pfx 0 0 zero16) 85)).keep (setRow_other _ (w.heap.size + 1) w.heap.size (pfx f l zero16) (by omega))
  have hbw := bl_setRow (cs := pfx f l zero16) (bl_alloc (bl_alloc (bl_refl w) (.cells (pfx 0 0 zero16) 85)) (.cells (pfx 0 0 zero16) 85)) (Nat.le_succ w.heap.size)
  clear ho o2 hz18 hset
  go_loopw [9] (fun i wr => ∃ j : Nat, j ≤ 128 ∧ (j : Int) ≤ l ∧ (j : Int) ≤ 8 * n ∧ i = .int .i64 j ∧ Own wr (w.heap.size + 1) 85 (pfx f l (maskL j (padTo xs))) ∧ Own wr w.heap.size 85 (pfx 0 0 zero16) ∧ Below w.heap.size w wr) (fun i _ => 128 - (intOf i).toNat)
  case atStart => exact ⟨0, by omega, by omega, by omega, rfl, (by rw [show ((0 : Nat) : Int) = 0 from rfl, qmask_zero hpa]; exact o3), o1, hbw⟩
  case round =>
    obtain ⟨j, hj, hjl, hjn, rfl, hom, hoz, hbr⟩ := hrel
    clear o3 o1 hbw
    by_cases hc1 : (j : Int) < 8 * n
    · by_cases hc2 : (j : Int) < l
      · have hq : j / 8 < n := by omega
        have hq16 : j / 8 < 16 := by omega
        have hqx : j / 8 < xs.length := by have := HX.out; omega
        have hst := mask_step hpa hqx
        have hml : (maskL (j : Int) (padTo xs)).length = 16 := by rw [maskL_len]; exact hpa.1
        obtain ⟨b, o, rfl, hbB, hcell, hx0, hx1⟩ := (hx.below hbr).at_ hq
        by_cases hb : (bits BinOp.and IntKind.u8 (nth xs (j / 8) / 2 ^ (7 - j % 8)) 1 == 1) = true
        · have HS := Lib.hid (hst.1 hb)
          have hc2 := hom.cell ((pfx_at f l (maskL (j : Int) (padTo xs)) (j / 8)).trans (arr_get (by rw [hml]; exact hq16)))
          have hf2 := hom.frozen (2 + j / 8)
          have hlt2 := hom.lt
          clear hst hml
          have hom2 := hom.set_ (2 + j / 8) (.int .u8 (bits BinOp.or IntKind.u8 (nth (maskL (j : Int) (padTo xs)) (j / 8)) ((2 : Int) ^ (7 - j % 8) % 256)))
          rw [pfx_set] at hom2
          go_wp2
          go_roundw
          case rel => exact ⟨j + 1, by omega, by omega, by omega, by go_num, by rw [show ((j + 1 : Nat) : Int) = (j : Int) + 1 by omega, ← HS.out]; exact hom2, hoz.far (by simp) _, hbr.setCell (Nat.le_succ _) _⟩
          case measure => simp [intOf]; omega
        · have hb' : (bits BinOp.and IntKind.u8 (nth xs (j / 8) / 2 ^ (7 - j % 8)) 1 == 1) = false := by simpa using hb
          have HS := Lib.hid (hst.2 hb')
          clear hst hb hml
          go_wp2
          go_roundw
          case rel => exact ⟨j + 1, by omega, by omega, by omega, by go_num, by rw [show ((j + 1 : Nat) : Int) = (j : Int) + 1 by omega, ← HS.out]; exact hom, hoz, hbr⟩
          case measure => simp [intOf]; omega
      · have HE := Lib.hid (show (j : Int) = l by omega)
        have HI := Lib.hid (pfx_info (f := f) (l := l) (maskL_addr (j : Int) hpa).1)
        have HS := Lib.hid (show (pfx 0 0 zero16).size = (pfx f l (maskL (j : Int) (padTo xs))).size by rw [pfx_size zero16_addr.1, pfx_size (maskL_addr (j : Int) hpa).1])
        go_wp2_with (first | (refine wpList_load_row rfl 85 _ rfl (w.heap.size + 1) rfl 85 (pfx f l (maskL (j : Int) (padTo xs))) (0, 0) (.struct (Tryd.prog.fieldsOf 85)) hom pfx_desc rfl HI.out ?_) | (refine wpList_store_row rfl 85 _ _ rfl w.heap.size (pfx f l (maskL (j : Int) (padTo xs))) rfl rfl 85 (pfx 0 0 zero16) hoz HI.out HS.out (pfx_one _ _ _) ?_))
        have hfin := hoz.setRow (cs' := pfx f l (maskL (j : Int) (padTo xs)))
        refine bodyPost_ret (v := .tuple #[.agg (pfx f l (maskL (j : Int) (padTo xs))), .bool true]) (results_cell_tmp (p := 6) (t := 7) (fn := Tryd.f96) rfl _ _ w.heap.size 85 (pfx f l (maskL (j : Int) (padTo xs))) _ rfl hfin pfx_desc rfl HI.out) rfl ⟨?_, bl_setRow hbr (Nat.le_refl _)⟩
        rw [HE.out]
    · have HE := Lib.hid (mask_full (xs := xs) hjl (by have := HX.out; omega))
      have HI := Lib.hid (pfx_info (f := f) (l := l) (maskL_addr (j : Int) hpa).1)
      have HS := Lib.hid (show (pfx 0 0 zero16).size = (pfx f l (maskL (j : Int) (padTo xs))).size by rw [pfx_size zero16_addr.1, pfx_size (maskL_addr (j : Int) hpa).1])
      go_wp2_with (first | (refine wpList_load_row rfl 85 _ rfl (w.heap.size + 1) rfl 85 (pfx f l (maskL (j : Int) (padTo xs))) (0, 0) (.struct (Tryd.prog.fieldsOf 85)) hom pfx_desc rfl HI.out ?_) | (refine wpList_store_row rfl 85 _ _ rfl w.heap.size (pfx f l (maskL (j : Int) (padTo xs))) rfl rfl 85 (pfx 0 0 zero16) hoz HI.out HS.out (pfx_one _ _ _) ?_))
      have hfin := hoz.setRow (cs' := pfx f l (maskL (j : Int) (padTo xs)))
      refine bodyPost_ret (v := .tuple #[.agg (pfx f l (maskL (j : Int) (padTo xs))), .bool true]) (results_cell_tmp (p := 6) (t := 7) (fn := Tryd.f96) rfl _ _ w.heap.size 85 (pfx f l (maskL (j : Int) (padTo xs))) _ rfl hfin pfx_desc rfl HI.out) rfl ⟨?_, bl_setRow hbr (Nat.le_refl _)⟩
      rw [HE.out]
end Go.Proofs.YtmlmgjdjbpipcaaDoor

/- peerageref02.Read -/
namespace Go.Proofs.YtmlmgjdjbpipcaaDoor
open Go.RowKit

theorem own_far {w : World} {g b o : Nat} {t : TypeId} {cs : Array Value} (h : Own w g t cs) (hb : g ≠ b) (u : Value) : Own (w.setCell ⟨b, o, none⟩ u) g t cs := h.far hb u
theorem results_2cells {P : Program} {fn : Func} {p q t : Tmp} {ty ty2 : TypeId} (h : fn.results = #[.cell p ty, .cell q ty2, .tmp t]) (tmps : Array Value) (w : World) (g : Nat) (T : TypeId) (cs : Array Value) (d : TypeDesc) (g2 : Nat) (T2 : TypeId) (cs2 : Array Value) (d2 : TypeDesc)
    (hp : tmps.getD p undef = .pointer (some ⟨g, 0, none⟩)) (hg : Own w g T cs) (hu : P.underlying ty = some d) (hd : (match d with | .struct _ | .array _ _ => true | _ => false) = true) (hi : (P.info? ty).map (·.size) = some cs.size)
    (hp2 : tmps.getD q undef = .pointer (some ⟨g2, 0, none⟩)) (hg2 : Own w g2 T2 cs2) (hu2 : P.underlying ty2 = some d2) (hd2 : (match d2 with | .struct _ | .array _ _ => true | _ => false) = true) (hi2 : (P.info? ty2).map (·.size) = some cs2.size) :
    (results fn tmps).run P w = .ok (.tuple #[.agg cs, .agg cs2, tmps.getD t undef]) w := by
  have hp' : tmps[p]?.getD undef = .pointer (some ⟨g, 0, none⟩) := by simpa using hp
  have hp2' : tmps[q]?.getD undef = .pointer (some ⟨g2, 0, none⟩) := by simpa using hp2
  simp [results, h, hp', hp2', asAddr, run_loadVar_row w g T ty cs (0, 0) d hg hu hd hi, run_loadVar_row w g2 T2 ty2 cs2 (0, 0) d2 hg2 hu2 hd2 hi2]
set_option maxRecDepth 100000 in
theorem rrd_desc : Tryd.prog.underlying 48 = some (.struct (Tryd.prog.fieldsOf 48)) := by kernel_rfl
set_option maxRecDepth 100000 in
theorem rrd_info (a b : Value) : (Tryd.prog.info? 48).map (·.size) = some (#[a, b] : Array Value).size := by kernel_rfl
/-- What peerageref02.Read returns: the reader behind, the prefix, whether there is one. -/
def RReadTo (f : Int) (A : Option Addr) (n : Nat) (xs : List Int) (p : Nat) (e : Ending) : Prop :=
  ∃ A1 n1 c1 p1, e = .returned (.tuple #[.agg #[.slice A1 n1 c1, .int .i64 p1], .agg (pfx (pF f xs) (pL f xs) (pA f xs)), .bool (pOk f xs)]) ∧
    (pOk f xs = true → n1 = n - pN xs ∧ n1 ≤ c1 ∧ p1 = ((p + pN xs : Nat) : Int) ∧ Behind A n (pN xs) A1)

set_option maxRecDepth 100000 in
set_option maxHeartbeats 400000 in
theorem rread_nil (f : Int) (A : Option Addr) (n c p : Nat) (w : World) (hn : n = 0) :
    Calls Tryd.prog 78 #[.int .i64 f, .agg #[.slice A n c, .int .i64 p]] w fun e w' => RReadTo f A n [] p e ∧ Below w.heap.size w w' := by
  have hn1 : ((n : Nat) : Int) < 1 := by omega
  clear hn
  have hz18 : #[.int .i64 0, .int .i64 0, .int .u8 0, .int .u8 0, .int .u8 0, .int .u8 0, .int .u8 0, .int .u8 0, .int .u8 0, .int .u8 0, .int .u8 0, .int .u8 0, .int .u8 0, .int .u8 0, .int .u8 0, .int .u8 0, .int .u8 0, .int .u8 0] = pfx 0 0 zero16 := pfx_zero.symm
  have o3 := (((Own.new w 48 #[.slice A n c, .int .i64 p]).alloc (.cells #[.slice none 0 0, .int .i64 0] 48)).alloc (.cells (pfx 0 0 zero16) 85))
  have o4 := ((Own.new (w.alloc (.cells #[.slice A n c, .int .i64 p] 48)) 48 #[.slice none 0 0, .int .i64 0]).alloc (.cells (pfx 0 0 zero16) 85))
  have o5 := Own.new ((w.alloc (.cells #[.slice A n c, .int .i64 p] 48)).alloc (.cells #[.slice none 0 0, .int .i64 0] 48)) 85 (pfx 0 0 zero16)
  have hb0 := bl_alloc (bl_alloc (bl_alloc (bl_refl w) (.cells #[.slice A n c, .int .i64 p] 48)) (.cells #[.slice none 0 0, .int .i64 0] 48)) (.cells (pfx 0 0 zero16) 85)
  have hs1 : (w.alloc (.cells #[.slice A n c, .int .i64 p] 48)).heap.size = w.heap.size + 1 := by simp
  have hs2 : ((w.alloc (.cells #[.slice A n c, .int .i64 p] 48)).alloc (.cells #[.slice none 0 0, .int .i64 0] 48)).heap.size = w.heap.size + 1 + 1 := by simp
  rw [hs1] at o4
  rw [hs2] at o5
  clear hs1 hs2
  go_enter Tryd.func78, Tryd.ntmps78
  go_wp2_with fail
  refine (rnum_no A n c p 1 _ (by omega) (by omega) (by omega) hn1).mono ?_
  rintro e w1 ⟨rfl, hb1⟩
  have o31 := o3.step hb1
  have o41 := o4.step hb1
  have o51 := o5.step hb1
  have hbw := bl_trans hb0 hb1
  have f30 := o31.frozen 0
  have f31 := o31.frozen 1
  have c30 := o31.cell (i := 0) (v := .slice A n c) rfl
  have c31 := o31.cell (i := 1) (v := .int .i64 p) rfl
  have hlt := o51.lt
  have p3 := (own_two o31 (.slice A n c) (.int .i64 p)).1
  have p4 := own_far (o := 1) (own_far (o := 0) o41 (b := w.heap.size) (by omega) (.slice A n c)) (b := w.heap.size) (by omega) (.int .i64 p)
  have p5 := own_far (o := 1) (own_far (o := 0) o51 (b := w.heap.size) (by omega) (.slice A n c)) (b := w.heap.size) (by omega) (.int .i64 p)
  have hbW := (hbw.setCell (p := ⟨w.heap.size, 0, none⟩) (Nat.le_refl _) (.slice A n c)).setCell (p := ⟨w.heap.size, 1, none⟩) (Nat.le_refl _) (.int .i64 p)
  clear o3 o4 o5 hb0
  go_upto_region 2 with (fail)
  generalize (w1.setCell ⟨w.heap.size, 0, none⟩ (.slice A n c)).setCell ⟨w.heap.size, 1, none⟩ (.int .i64 p) = W at p3 p4 p5 hbW ⊢
  clear o31 o41 o51 hbw hb1 f30 f31 c30 c31 hlt
  have c30 := p3.cell (i := 0) (v := .slice A n c) rfl
  have c31 := p3.cell (i := 1) (v := .int .i64 p) rfl
  have c40 := p4.cell (i := 0) (v := .slice none 0 0) rfl
  have c41 := p4.cell (i := 1) (v := .int .i64 0) rfl
  have f40 := p4.frozen 0
  have f41 := p4.frozen 1
  have hlt := p5.lt
  have q5 := own_far (o := 1) (own_far (o := 0) p5 (b := w.heap.size + 1) (by omega) (.slice A n c)) (b := w.heap.size + 1) (by omega) (.int .i64 p)
  have q4 := (own_two p4 (.slice A n c) (.int .i64 p)).1
  have hbQ := (hbW.setCell (p := ⟨w.heap.size + 1, 0, none⟩) (Nat.le_succ _) (.slice A n c)).setCell (p := ⟨w.heap.size + 1, 1, none⟩) (Nat.le_succ _) (.int .i64 p)
  go_upto_region 3 with (first | (go_at_call 86; refine (most_any _ _).mono ?_; rintro e w' ⟨rfl, rfl⟩))
  refine wp_region_lit ?_
  iterate 5 (go_step; go_simp)
  go_step
  refine wpList_store_row rfl 85 _ _ rfl (w.heap.size + 1 + 1) (pfx 0 0 zero16) rfl rfl 85 (pfx 0 0 zero16) q5 (pfx_info zero16_addr.1) rfl (pfx_one _ _ _) ?_
  iterate 8 go_step
  have hfin := q5.setRow (cs' := pfx 0 0 zero16)
  have hfin4 := q4.keep (setRow_other _ (w.heap.size + 1 + 1) _ (pfx 0 0 zero16) (by omega))
  refine bodyPost_ret (results_2cells (p := 4) (q := 5) (t := 6) (fn := Tryd.f78) rfl _ _ (w.heap.size + 1) 48 #[.slice A n c, .int .i64 p] _ (w.heap.size + 1 + 1) 85 (pfx 0 0 zero16) _ rfl hfin4 rrd_desc rfl (rrd_info _ _) rfl hfin pfx_desc rfl (pfx_info zero16_addr.1)) rfl ⟨⟨A, n, c, p, rfl, fun h => by simp [pOk] at h⟩, bl_setRow hbQ (by omega)⟩

set_option maxRecDepth 100000 in
theorem rnum_one (A : Option Addr) (n c : Nat) (x : Int) (ys : List Int) (p : Nat) (w : World) (hx : Bytes w w.heap.size A n (x :: ys)) (hc : n ≤ c) (hn : n ≤ 1000000000) (hp : p ≤ 1000000000) :
    Calls Tryd.prog 77 #[.agg #[.slice A n c, .int .i64 p], .int .i64 1] w fun e w' => ∃ A1 c1, e = .returned (.tuple #[.agg #[.slice A1 (n - 1) c1, .int .i64 ((p : Int) + 1)], .int .u32 x, .bool true]) ∧
      n - 1 ≤ c1 ∧ Behind A n 1 A1 ∧ Below w.heap.size w w' := by
  have hn1 : n = ys.length + 1 := hx.1
  refine (rnum_yes A n c (x :: ys) p 1 w hx hc hn (by omega) (by omega) (by omega) (by omega) (by omega)).mono ?_
  rintro e w' ⟨A1, c1, rfl, h1, h2, h3⟩
  refine ⟨A1, c1, ?_, h1, h2, h3⟩
  show Ending.returned (.tuple #[_, .int .u32 (big [x]), _]) = _
  simp [big]

set_option maxRecDepth 100000 in
set_option maxHeartbeats 800000 in
theorem rread_bad (f : Int) (A : Option Addr) (n c : Nat) (x : Int) (ys : List Int) (p : Nat) (w : World) (hx : Bytes w w.heap.size A n (x :: ys)) (hc : n ≤ c) (hn : n ≤ 100000000) (hp : p ≤ 100000000) (hk : lenOk f x = false) :
    Calls Tryd.prog 78 #[.int .i64 f, .agg #[.slice A n c, .int .i64 p]] w fun e w' => RReadTo f A n (x :: ys) p e ∧ Below w.heap.size w w' := by
  have hxr := hx.2.1 x (List.mem_cons_self ..)
  have hx0 := hxr.1
  have hx1 := hxr.2
  have d1 : decide (mostOf f < x) = true := by
    rw [lenOk_most, decide_eq_false_iff_not] at hk
    simp; omega
  have HK := Lib.hid (show pOk f (x :: ys) = false by simp [pOk, hk])
  clear hk hxr
  have hz18 : #[.int .i64 0, .int .i64 0, .int .u8 0, .int .u8 0, .int .u8 0, .int .u8 0, .int .u8 0, .int .u8 0, .int .u8 0, .int .u8 0, .int .u8 0, .int .u8 0, .int .u8 0, .int .u8 0, .int .u8 0, .int .u8 0, .int .u8 0, .int .u8 0] = pfx 0 0 zero16 := pfx_zero.symm
  have o3 := (((Own.new w 48 #[.slice A n c, .int .i64 p]).alloc (.cells #[.slice none 0 0, .int .i64 0] 48)).alloc (.cells (pfx 0 0 zero16) 85))
  have o4 := ((Own.new (w.alloc (.cells #[.slice A n c, .int .i64 p] 48)) 48 #[.slice none 0 0, .int .i64 0]).alloc (.cells (pfx 0 0 zero16) 85))
  have o5 := Own.new ((w.alloc (.cells #[.slice A n c, .int .i64 p] 48)).alloc (.cells #[.slice none 0 0, .int .i64 0] 48)) 85 (pfx 0 0 zero16)
  have hb0 := bl_alloc (bl_alloc (bl_alloc (bl_refl w) (.cells #[.slice A n c, .int .i64 p] 48)) (.cells #[.slice none 0 0, .int .i64 0] 48)) (.cells (pfx 0 0 zero16) 85)
  have hs1 : (w.alloc (.cells #[.slice A n c, .int .i64 p] 48)).heap.size = w.heap.size + 1 := by simp
  have hs2 : ((w.alloc (.cells #[.slice A n c, .int .i64 p] 48)).alloc (.cells #[.slice none 0 0, .int .i64 0] 48)).heap.size = w.heap.size + 1 + 1 := by simp
  rw [hs1] at o4
  rw [hs2] at o5
  clear hs1 hs2
  go_enter Tryd.func78, Tryd.ntmps78
  go_wp2_with fail
  refine (rnum_one A n c x ys p _ ((hx.below hb0).more hb0.size) hc (by omega) (by omega)).mono ?_
  rintro e w1 ⟨A1, c1, rfl, hc1, HB, hb1⟩
  have o31 := o3.step hb1
  have o41 := o4.step hb1
  have o51 := o5.step hb1
  have hbw := bl_trans hb0 hb1
  have f30 := o31.frozen 0
  have f31 := o31.frozen 1
  have c30 := o31.cell (i := 0) (v := .slice A n c) rfl
  have c31 := o31.cell (i := 1) (v := .int .i64 p) rfl
  have hlt := o51.lt
  have p3 := (own_two o31 (.slice A1 (n - 1) c1) (.int .i64 ((p : Int) + 1))).1
  have p4 := own_far (o := 1) (own_far (o := 0) o41 (b := w.heap.size) (by omega) (.slice A1 (n - 1) c1)) (b := w.heap.size) (by omega) (.int .i64 ((p : Int) + 1))
  have p5 := own_far (o := 1) (own_far (o := 0) o51 (b := w.heap.size) (by omega) (.slice A1 (n - 1) c1)) (b := w.heap.size) (by omega) (.int .i64 ((p : Int) + 1))
  have hbW := (hbw.setCell (p := ⟨w.heap.size, 0, none⟩) (Nat.le_refl _) (.slice A1 (n - 1) c1)).setCell (p := ⟨w.heap.size, 1, none⟩) (Nat.le_refl _) (.int .i64 ((p : Int) + 1))
  clear o3 o4 o5 hb0
  go_upto_region 2 with (fail)
  generalize (w1.setCell ⟨w.heap.size, 0, none⟩ (.slice A1 (n - 1) c1)).setCell ⟨w.heap.size, 1, none⟩ (.int .i64 ((p : Int) + 1)) = W at p3 p4 p5 hbW ⊢
  clear o31 o41 o51 hbw hb1 f30 f31 c30 c31 hlt
  have c30 := p3.cell (i := 0) (v := .slice A1 (n - 1) c1) rfl
  have c31 := p3.cell (i := 1) (v := .int .i64 ((p : Int) + 1)) rfl
  have c40 := p4.cell (i := 0) (v := .slice none 0 0) rfl
  have c41 := p4.cell (i := 1) (v := .int .i64 0) rfl
  have f40 := p4.frozen 0
  have f41 := p4.frozen 1
  have hlt := p5.lt
  have q5 := own_far (o := 1) (own_far (o := 0) p5 (b := w.heap.size + 1) (by omega) (.slice A1 (n - 1) c1)) (b := w.heap.size + 1) (by omega) (.int .i64 ((p : Int) + 1))
  have q4 := (own_two p4 (.slice A1 (n - 1) c1) (.int .i64 ((p : Int) + 1))).1
  have hbQ := (hbW.setCell (p := ⟨w.heap.size + 1, 0, none⟩) (Nat.le_succ _) (.slice A1 (n - 1) c1)).setCell (p := ⟨w.heap.size + 1, 1, none⟩) (Nat.le_succ _) (.int .i64 ((p : Int) + 1))
  go_upto_region 3 with (first | (go_at_call 86; refine (most_any _ _).mono ?_; rintro e w' ⟨rfl, rfl⟩))
  refine wp_region_lit ?_
  iterate 5 (go_step; go_simp)
  go_step
  refine wpList_store_row rfl 85 _ _ rfl (w.heap.size + 1 + 1) (pfx 0 0 zero16) rfl rfl 85 (pfx 0 0 zero16) q5 (pfx_info zero16_addr.1) rfl (pfx_one _ _ _) ?_
  iterate 8 go_step
  have hfin := q5.setRow (cs' := pfx 0 0 zero16)
  have hfin4 := q4.keep (setRow_other _ (w.heap.size + 1 + 1) _ (pfx 0 0 zero16) (by omega))
  refine bodyPost_ret (results_2cells (p := 4) (q := 5) (t := 6) (fn := Tryd.f78) rfl _ _ (w.heap.size + 1) 48 #[.slice A1 (n - 1) c1, .int .i64 ((p : Int) + 1)] _ (w.heap.size + 1 + 1) 85 (pfx 0 0 zero16) _ rfl hfin4 rrd_desc rfl (rrd_info _ _) rfl hfin pfx_desc rfl (pfx_info zero16_addr.1)) rfl ⟨⟨A1, n - 1, c1, (p : Int) + 1, by simp [pF, pL, pA, HK.out], fun h => by rw [HK.out] at h; cases h⟩, bl_setRow hbQ (by omega)⟩

set_option maxRecDepth 100000 in
set_option maxHeartbeats 800000 in
theorem rread_short (f : Int) (A : Option Addr) (n c : Nat) (x : Int) (ys : List Int) (p : Nat) (w : World) (hx : Bytes w w.heap.size A n (x :: ys)) (hc : n ≤ c) (hn : n ≤ 100000000) (hp : p ≤ 100000000) (hk : lenOk f x = true) (hs : ys.length < (sizeOfBits x).toNat) :
    Calls Tryd.prog 78 #[.int .i64 f, .agg #[.slice A n c, .int .i64 p]] w fun e w' => RReadTo f A n (x :: ys) p e ∧ Below w.heap.size w w' := by
  have hxr := lenOk_range hk
  have hx0 := hxr.1
  have hx1 := hxr.2
  have d1 : decide (mostOf f < x) = false := by
    rw [lenOk_most, decide_eq_true_eq] at hk
    simp; omega
  have HK := Lib.hid (show pOk f (x :: ys) = false by simp [pOk]; intro _; omega)
  have hnl : n = ys.length + 1 := hx.1
  have hsz : ((n - 1 : Nat) : Int) < (x + 7) / 8 := by unfold sizeOfBits at hs; omega
  clear hk hxr hs hnl
  have hz18 : #[.int .i64 0, .int .i64 0, .int .u8 0, .int .u8 0, .int .u8 0, .int .u8 0, .int .u8 0, .int .u8 0, .int .u8 0, .int .u8 0, .int .u8 0, .int .u8 0, .int .u8 0, .int .u8 0, .int .u8 0, .int .u8 0, .int .u8 0, .int .u8 0] = pfx 0 0 zero16 := pfx_zero.symm
  have o3 := (((Own.new w 48 #[.slice A n c, .int .i64 p]).alloc (.cells #[.slice none 0 0, .int .i64 0] 48)).alloc (.cells (pfx 0 0 zero16) 85))
  have o4 := ((Own.new (w.alloc (.cells #[.slice A n c, .int .i64 p] 48)) 48 #[.slice none 0 0, .int .i64 0]).alloc (.cells (pfx 0 0 zero16) 85))
  have o5 := Own.new ((w.alloc (.cells #[.slice A n c, .int .i64 p] 48)).alloc (.cells #[.slice none 0 0, .int .i64 0] 48)) 85 (pfx 0 0 zero16)
  have hb0 := bl_alloc (bl_alloc (bl_alloc (bl_refl w) (.cells #[.slice A n c, .int .i64 p] 48)) (.cells #[.slice none 0 0, .int .i64 0] 48)) (.cells (pfx 0 0 zero16) 85)
  have hs1 : (w.alloc (.cells #[.slice A n c, .int .i64 p] 48)).heap.size = w.heap.size + 1 := by simp
  have hs2 : ((w.alloc (.cells #[.slice A n c, .int .i64 p] 48)).alloc (.cells #[.slice none 0 0, .int .i64 0] 48)).heap.size = w.heap.size + 1 + 1 := by simp
  rw [hs1] at o4
  rw [hs2] at o5
  clear hs1 hs2
  go_enter Tryd.func78, Tryd.ntmps78
  go_wp2_with fail
  refine (rnum_one A n c x ys p _ ((hx.below hb0).more hb0.size) hc (by omega) (by omega)).mono ?_
  rintro e w1 ⟨A1, c1, rfl, hc1, HB, hb1⟩
  have o31 := o3.step hb1
  have o41 := o4.step hb1
  have o51 := o5.step hb1
  have hbw := bl_trans hb0 hb1
  have f30 := o31.frozen 0
  have f31 := o31.frozen 1
  have c30 := o31.cell (i := 0) (v := .slice A n c) rfl
  have c31 := o31.cell (i := 1) (v := .int .i64 p) rfl
  have hlt := o51.lt
  have p3 := (own_two o31 (.slice A1 (n - 1) c1) (.int .i64 ((p : Int) + 1))).1
  have p4 := own_far (o := 1) (own_far (o := 0) o41 (b := w.heap.size) (by omega) (.slice A1 (n - 1) c1)) (b := w.heap.size) (by omega) (.int .i64 ((p : Int) + 1))
  have p5 := own_far (o := 1) (own_far (o := 0) o51 (b := w.heap.size) (by omega) (.slice A1 (n - 1) c1)) (b := w.heap.size) (by omega) (.int .i64 ((p : Int) + 1))
  have hbW := (hbw.setCell (p := ⟨w.heap.size, 0, none⟩) (Nat.le_refl _) (.slice A1 (n - 1) c1)).setCell (p := ⟨w.heap.size, 1, none⟩) (Nat.le_refl _) (.int .i64 ((p : Int) + 1))
  clear o3 o4 o5 hb0
  go_upto_region 2 with (fail)
  generalize (w1.setCell ⟨w.heap.size, 0, none⟩ (.slice A1 (n - 1) c1)).setCell ⟨w.heap.size, 1, none⟩ (.int .i64 ((p : Int) + 1)) = W at p3 p4 p5 hbW ⊢
  clear o31 o41 o51 hbw hb1 f30 f31 c30 c31 hlt
  have c30 := p3.cell (i := 0) (v := .slice A1 (n - 1) c1) rfl
  have c31 := p3.cell (i := 1) (v := .int .i64 ((p : Int) + 1)) rfl
  have c40 := p4.cell (i := 0) (v := .slice none 0 0) rfl
  have c41 := p4.cell (i := 1) (v := .int .i64 0) rfl
  have f40 := p4.frozen 0
  have f41 := p4.frozen 1
  have hlt := p5.lt
  go_upto_region 4 with (first | (go_at_call 86; refine (most_any _ _).mono ?_; rintro e w' ⟨rfl, rfl⟩))
  go_wp2_with fail
  refine (rtake_no A1 (n - 1) c1 ((p : Int) + 1) _ _ (.inr hsz) (by omega)).mono ?_
  rintro e w2 ⟨rfl, hb2⟩
  have hb3 := bl_alloc hb2 (.cells #[.slice A1 (n - 1) c1, .int .i64 ((p : Int) + 1)] 48)
  have r3 := p3.step hb3
  have r4 := p4.step hb3
  have r5 := p5.step hb3
  have hbR := bl_trans hbW hb3
  go_upto_region 6 with (fail)
  generalize w2.alloc (.cells #[.slice A1 (n - 1) c1, .int .i64 ((p : Int) + 1)] 48) = V at r3 r4 r5 hbR ⊢
  clear p3 p4 p5 hbW c30 c31 c40 c41 f40 f41 hlt hb2 hb3
  have p3 := r3
  have p4 := r4
  have p5 := r5
  have hbW := hbR
  clear r3 r4 r5 hbR
  have c30 := p3.cell (i := 0) (v := .slice A1 (n - 1) c1) rfl
  have c31 := p3.cell (i := 1) (v := .int .i64 ((p : Int) + 1)) rfl
  have c40 := p4.cell (i := 0) (v := .slice none 0 0) rfl
  have c41 := p4.cell (i := 1) (v := .int .i64 0) rfl
  have f40 := p4.frozen 0
  have f41 := p4.frozen 1
  have hlt := p5.lt
  have q5 := own_far (o := 1) (own_far (o := 0) p5 (b := w.heap.size + 1) (by omega) (.slice A1 (n - 1) c1)) (b := w.heap.size + 1) (by omega) (.int .i64 ((p : Int) + 1))
  have q4 := (own_two p4 (.slice A1 (n - 1) c1) (.int .i64 ((p : Int) + 1))).1
  have hbQ := (hbW.setCell (p := ⟨w.heap.size + 1, 0, none⟩) (Nat.le_succ _) (.slice A1 (n - 1) c1)).setCell (p := ⟨w.heap.size + 1, 1, none⟩) (Nat.le_succ _) (.int .i64 ((p : Int) + 1))
  go_upto_region 6 with (first | (go_at_call 86; refine (most_any _ _).mono ?_; rintro e w' ⟨rfl, rfl⟩))
  refine wp_region_lit ?_
  iterate 5 (go_step; go_simp)
  go_step
  refine wpList_store_row rfl 85 _ _ rfl (w.heap.size + 1 + 1) (pfx 0 0 zero16) rfl rfl 85 (pfx 0 0 zero16) q5 (pfx_info zero16_addr.1) rfl (pfx_one _ _ _) ?_
  iterate 8 go_step
  have hfin := q5.setRow (cs' := pfx 0 0 zero16)
  have hfin4 := q4.keep (setRow_other _ (w.heap.size + 1 + 1) _ (pfx 0 0 zero16) (by omega))
  refine bodyPost_ret (results_2cells (p := 4) (q := 5) (t := 6) (fn := Tryd.f78) rfl _ _ (w.heap.size + 1) 48 #[.slice A1 (n - 1) c1, .int .i64 ((p : Int) + 1)] _ (w.heap.size + 1 + 1) 85 (pfx 0 0 zero16) _ rfl hfin4 rrd_desc rfl (rrd_info _ _) rfl hfin pfx_desc rfl (pfx_info zero16_addr.1)) rfl ⟨⟨A1, n - 1, c1, (p : Int) + 1, by simp [pF, pL, pA, HK.out], fun h => by rw [HK.out] at h; cases h⟩, bl_setRow hbQ (by omega)⟩

set_option maxRecDepth 100000 in
set_option maxHeartbeats 1600000 in
theorem rread_yes (f : Int) (A : Option Addr) (n c : Nat) (x : Int) (ys : List Int) (p : Nat) (w : World) (hx : Bytes w w.heap.size A n (x :: ys)) (hc : n ≤ c) (hn : n ≤ 100000000) (hp : p ≤ 100000000) (hk : lenOk f x = true) (hs : (sizeOfBits x).toNat ≤ ys.length) :
    Calls Tryd.prog 78 #[.int .i64 f, .agg #[.slice A n c, .int .i64 p]] w fun e w' => RReadTo f A n (x :: ys) p e ∧ Below w.heap.size w w' := by
  have hxr := lenOk_range hk
  have hx0 := hxr.1
  have hx1 := hxr.2
  have d1 : decide (mostOf f < x) = false := by
    have hk' := hk
    rw [lenOk_most, decide_eq_true_eq] at hk'
    simp; omega
  have HK := Lib.hid (show pOk f (x :: ys) = true by simp [pOk, hk, hs])
  have hnl : n = ys.length + 1 := hx.1
  have hsz : (x + 7) / 8 ≤ ((n - 1 : Nat) : Int) := by unfold sizeOfBits at hs; omega
  have HM := Lib.hid (show makeOk f x ((x + 7) / 8).toNat = true from lenOk_make hk)
  have HX := Lib.hid hx
  have hk17 : (x + 7) / 8 ≤ 17 := by omega
  clear hk hxr hs hnl
  have hz18 : #[.int .i64 0, .int .i64 0, .int .u8 0, .int .u8 0, .int .u8 0, .int .u8 0, .int .u8 0, .int .u8 0, .int .u8 0, .int .u8 0, .int .u8 0, .int .u8 0, .int .u8 0, .int .u8 0, .int .u8 0, .int .u8 0, .int .u8 0, .int .u8 0] = pfx 0 0 zero16 := pfx_zero.symm
  have o3 := (((Own.new w 48 #[.slice A n c, .int .i64 p]).alloc (.cells #[.slice none 0 0, .int .i64 0] 48)).alloc (.cells (pfx 0 0 zero16) 85))
  have o4 := ((Own.new (w.alloc (.cells #[.slice A n c, .int .i64 p] 48)) 48 #[.slice none 0 0, .int .i64 0]).alloc (.cells (pfx 0 0 zero16) 85))
  have o5 := Own.new ((w.alloc (.cells #[.slice A n c, .int .i64 p] 48)).alloc (.cells #[.slice none 0 0, .int .i64 0] 48)) 85 (pfx 0 0 zero16)
  have hb0 := bl_alloc (bl_alloc (bl_alloc (bl_refl w) (.cells #[.slice A n c, .int .i64 p] 48)) (.cells #[.slice none 0 0, .int .i64 0] 48)) (.cells (pfx 0 0 zero16) 85)
  have hs1 : (w.alloc (.cells #[.slice A n c, .int .i64 p] 48)).heap.size = w.heap.size + 1 := by simp
  have hs2 : ((w.alloc (.cells #[.slice A n c, .int .i64 p] 48)).alloc (.cells #[.slice none 0 0, .int .i64 0] 48)).heap.size = w.heap.size + 1 + 1 := by simp
  rw [hs1] at o4
  rw [hs2] at o5
  clear hs1 hs2
  go_enter Tryd.func78, Tryd.ntmps78
  go_wp2_with fail
  refine (rnum_one A n c x ys p _ ((hx.below hb0).more hb0.size) hc (by omega) (by omega)).mono ?_
  rintro e w1 ⟨A1, c1, rfl, hc1, HB, hb1⟩
  have o31 := o3.step hb1
  have o41 := o4.step hb1
  have o51 := o5.step hb1
  have hbw := bl_trans hb0 hb1
  have f30 := o31.frozen 0
  have f31 := o31.frozen 1
  have c30 := o31.cell (i := 0) (v := .slice A n c) rfl
  have c31 := o31.cell (i := 1) (v := .int .i64 p) rfl
  have hlt := o51.lt
  have p3 := (own_two o31 (.slice A1 (n - 1) c1) (.int .i64 ((p : Int) + 1))).1
  have p4 := own_far (o := 1) (own_far (o := 0) o41 (b := w.heap.size) (by omega) (.slice A1 (n - 1) c1)) (b := w.heap.size) (by omega) (.int .i64 ((p : Int) + 1))
  have p5 := own_far (o := 1) (own_far (o := 0) o51 (b := w.heap.size) (by omega) (.slice A1 (n - 1) c1)) (b := w.heap.size) (by omega) (.int .i64 ((p : Int) + 1))
  have hbW := (hbw.setCell (p := ⟨w.heap.size, 0, none⟩) (Nat.le_refl _) (.slice A1 (n - 1) c1)).setCell (p := ⟨w.heap.size, 1, none⟩) (Nat.le_refl _) (.int .i64 ((p : Int) + 1))
  clear o3 o4 o5 hb0
  go_upto_region 2 with (fail)
  generalize (w1.setCell ⟨w.heap.size, 0, none⟩ (.slice A1 (n - 1) c1)).setCell ⟨w.heap.size, 1, none⟩ (.int .i64 ((p : Int) + 1)) = W at p3 p4 p5 hbW ⊢
  clear o31 o41 o51 hbw hb1 f30 f31 c30 c31 hlt
  have c30 := p3.cell (i := 0) (v := .slice A1 (n - 1) c1) rfl
  have c31 := p3.cell (i := 1) (v := .int .i64 ((p : Int) + 1)) rfl
  have c40 := p4.cell (i := 0) (v := .slice none 0 0) rfl
  have c41 := p4.cell (i := 1) (v := .int .i64 0) rfl
  have f40 := p4.frozen 0
  have f41 := p4.frozen 1
  have hlt := p5.lt
  go_upto_region 4 with (first | (go_at_call 86; refine (most_any _ _).mono ?_; rintro e w' ⟨rfl, rfl⟩))
  go_wp2_with fail
  refine (rtake_yes A1 (n - 1) c1 ((p : Int) + 1) ((x + 7) / 8) _ hc1 (by omega) (by omega) (by omega) (by omega) hsz).mono ?_
  rintro e w2 ⟨A2, c2, rfl, hc2, HB2, hb2⟩
  have hb3 := bl_alloc hb2 (.cells #[.slice A2 (n - 1 - ((x + 7) / 8).toNat) c2, .int .i64 ((p : Int) + 1 + (x + 7) / 8)] 48)
  have o9 := Own.new w2 48 #[.slice A2 (n - 1 - ((x + 7) / 8).toNat) c2, .int .i64 ((p : Int) + 1 + (x + 7) / 8)]
  have r4 := p4.step hb3
  have r5 := p5.step hb3
  have hbR := bl_trans hbW hb3
  go_upto_region 7 with (fail)
  generalize hb9 : w2.heap.size = b9 at o9 ⊢
  have hb9l : w.heap.size + 1 + 1 < b9 := by have := (p5.step hb2).lt; omega
  clear hb9
  generalize w2.alloc (.cells #[.slice A2 (n - 1 - ((x + 7) / 8).toNat) c2, .int .i64 ((p : Int) + 1 + (x + 7) / 8)] 48) = V at o9 r4 r5 hbR ⊢
  clear p3 p4 p5 hbW c30 c31 c40 c41 f40 f41 hlt hb2 hb3
  have hby : Bytes V V.heap.size A1 ((x + 7) / 8).toNat (ys.take ((x + 7) / 8).toNat) :=
    ((HB V V.heap.size (x :: ys) ((HX.out.below hbR).more hbR.size)).front (by omega) : _)
  go_wp2_with fail
  refine (rmake_yes f x A1 _ c1 _ _ hby HM.out).mono ?_
  rintro e w3 ⟨rfl, hb4⟩
  have hpa : IsAddr (maskL x (padTo (ys.take ((x + 7) / 8).toNat))) := maskL_addr x (padTo_addr (by have := hby.1; omega) hby.2.1)
  have HI := Lib.hid (pfx_info (f := f) (l := x) hpa.1)
  have HIL := Lib.hid (pfx_infol (f := f) (l := x) hpa.1)
  have HS := Lib.hid (show (pfx 0 0 zero16).size = (pfx f x (maskL x (padTo (ys.take ((x + 7) / 8).toNat)))).size by rw [pfx_size zero16_addr.1, pfx_size hpa.1])
  generalize hP : maskL x (padTo (ys.take ((x + 7) / 8).toNat)) = P at hpa HI HIL HS ⊢
  have HP := Lib.hid hP
  clear hP
  have o12 := Own.new w3 85 (pfx 0 0 zero16)
  have hb5 : Below V.heap.size V ((w3.alloc (.cells (pfx 0 0 zero16) 85)).setRow w3.heap.size (pfx f x P)) := bl_setRow (bl_alloc hb4 _) hb4.size
  have s9 := o9.step hb5
  have s4 := r4.step hb5
  have s5 := r5.step hb5
  have hbS := bl_trans hbR hb5
  have s12 := o12.setRow (cs' := pfx f x P)
  have hl5 := (r5.step hb4).lt
  have hl9 := (o9.step hb4).lt
  clear o9 r4 r5 hbR hb5
  go_upto_region 8 with (refine wpList_store_row rfl 85 _ _ rfl w3.heap.size (pfx f x P) rfl rfl 85 (pfx 0 0 zero16) o12 HI.out HS.out (pfx_one _ _ _) ?_)
  clear o12
  generalize (w3.alloc (.cells (pfx 0 0 zero16) 85)).setRow w3.heap.size (pfx f x P) = U at s9 s4 s5 s12 hbS ⊢
  generalize hb12 : w3.heap.size = b12 at s12 hl5 hl9 ⊢
  clear hb12 hb4 hby
  have g12 : U.rangeAt b12 0 (pfx f x P).toList := fun j v hv => by
    rw [Nat.zero_add]
    exact s12.cell (by simpa using hv)
  have c90 := s9.cell (i := 0) (v := .slice A2 (n - 1 - ((x + 7) / 8).toNat) c2) rfl
  have c91 := s9.cell (i := 1) (v := .int .i64 ((p : Int) + 1 + (x + 7) / 8)) rfl
  have c40 := s4.cell (i := 0) (v := .slice none 0 0) rfl
  have c41 := s4.cell (i := 1) (v := .int .i64 0) rfl
  have f40 := s4.frozen 0
  have f41 := s4.frozen 1
  refine wp_region_held_drew (S := fun W => W.cell? ⟨b9, 0, none⟩ = some (.slice A2 (n - 1 - ((x + 7) / 8).toNat) c2) ∧ W.cell? ⟨b9, 1, none⟩ = some (.int .i64 ((p : Int) + 1 + (x + 7) / 8)) ∧ W.rangeAt b12 0 (pfx f x P).toList) (by kernel_rfl) ⟨c90, c91, g12⟩ (fun hHeld => ?_)
  refine wpAnyH_take (i := 0) (v := ?_) rfl (by kernel_rfl) (by kernel_rfl) (by kernel_rfl) (fun _ _ _ h => h) (Or.inl ⟨by rfl, ?_⟩) (by assumption) ?_
  rotate_left
  · (intro W hSw; obtain ⟨s1, s2, s3⟩ := hSw; go_simp; try with_reducible rfl)
  simp only [Act.put, List.getElem_toArray, List.getElem_cons_zero, List.setIfInBounds_toArray, List.set_cons_zero, List.set_cons_succ]
  refine wpAnyH_take (i := 1) (v := _) rfl (by kernel_rfl) (by kernel_rfl) (by kernel_rfl) (fun _ _ _ h => h) (yieldsIf_load_mid (by rfl) 85 _ rfl b12 0 rfl (pfx f x P).toList _ (fun W hW => hW.2.2) pfx_desc rfl HIL.out) (by assumption) ?_
  simp only [Act.put, List.getElem_toArray, List.getElem_cons_zero, List.getElem_cons_succ, List.setIfInBounds_toArray, List.set_cons_zero, List.set_cons_succ]
  refine wpAnyH_ready (rs := [2]) (by kernel_rfl) (by simp) ?_
  refine AllReadyH.cons rfl (fun K hK => ?_) AllReadyH.nil
  go_simp
  have t4 := (own_two s4 (.slice A2 (n - 1 - ((x + 7) / 8).toNat) c2) (.int .i64 ((p : Int) + 1 + (x + 7) / 8))).1
  have t5 := own_far (o := 1) (own_far (o := 0) s5 (b := w.heap.size + 1) (by omega) (.slice A2 (n - 1 - ((x + 7) / 8).toNat) c2)) (b := w.heap.size + 1) (by omega) (.int .i64 ((p : Int) + 1 + (x + 7) / 8))
  have t9 := own_far (o := 1) (own_far (o := 0) s9 (b := w.heap.size + 1) (by omega) (.slice A2 (n - 1 - ((x + 7) / 8).toNat) c2)) (b := w.heap.size + 1) (by omega) (.int .i64 ((p : Int) + 1 + (x + 7) / 8))
  have t12 := own_far (o := 1) (own_far (o := 0) s12 (b := w.heap.size + 1) (by omega) (.slice A2 (n - 1 - ((x + 7) / 8).toNat) c2)) (b := w.heap.size + 1) (by omega) (.int .i64 ((p : Int) + 1 + (x + 7) / 8))
  have hbT := (hbS.setCell (p := ⟨w.heap.size + 1, 0, none⟩) (Nat.le_succ _) (.slice A2 (n - 1 - ((x + 7) / 8).toNat) c2)).setCell (p := ⟨w.heap.size + 1, 1, none⟩) (Nat.le_succ _) (.int .i64 ((p : Int) + 1 + (x + 7) / 8))
  have g12' : ((U.setCell ⟨w.heap.size + 1, 0, none⟩ (.slice A2 (n - 1 - ((x + 7) / 8).toNat) c2)).setCell ⟨w.heap.size + 1, 1, none⟩ (.int .i64 ((p : Int) + 1 + (x + 7) / 8))).rangeAt b12 0 (pfx f x P).toList := fun j v hv => by
    rw [Nat.zero_add]
    exact t12.cell (by simpa using hv)
  refine hK.out _ _ ⟨t9.cell (i := 0) rfl, t9.cell (i := 1) rfl, g12'⟩ (fun hHeld2 => ?_)
  clear hK K hHeld
  refine wpAnyH_ready (rs := [3]) (by kernel_rfl) (by simp) ?_
  refine AllReadyH.cons rfl (fun K hK => ?_) AllReadyH.nil
  refine wp_store_row 85 _ _ rfl (w.heap.size + 1 + 1) (pfx f x P) rfl rfl 85 (pfx 0 0 zero16) t5.drew HI.out HS.out (pfx_one _ _ _) ?_
  have hfin := t5.setRow (cs' := pfx f x P)
  have hfin4 := t4.keep (setRow_other _ (w.heap.size + 1 + 1) _ (pfx f x P) (by omega))
  have hfin9 := t9.keep (setRow_other _ (w.heap.size + 1 + 1) _ (pfx f x P) (by omega))
  have hfin12 := t12.keep (setRow_other _ (w.heap.size + 1 + 1) _ (pfx f x P) (by omega))
  have hbF := bl_setRow (cs := pfx f x P) (g := w.heap.size + 1 + 1) hbT (by omega)
  refine hK.out _ _ ⟨hfin9.cell (i := 0) rfl, hfin9.cell (i := 1) rfl, fun j v hv => ?_⟩ (fun hHeld3 => ?_)
  · rw [Nat.zero_add]
    exact hfin12.cell (by simpa using hv)
  clear hK K hHeld2
  refine wpAnyH_take (i := 4) (v := ?_) rfl (by kernel_rfl) (by kernel_rfl) (by kernel_rfl) (fun _ _ _ h => h) (Or.inl ⟨by rfl, ?_⟩) (by assumption) ?_
  rotate_left
  · (intro W hSw; obtain ⟨s1, s2, s3⟩ := hSw; go_simp; try with_reducible rfl)
  simp only [Act.put, List.getElem_toArray, List.getElem_cons_zero, List.getElem_cons_succ, List.setIfInBounds_toArray, List.set_cons_zero, List.set_cons_succ]
  refine wpAnyH_done (by kernel_rfl) ?_ _
  iterate 3 go_step
  refine bodyPost_ret (results_2cells (p := 4) (q := 5) (t := 6) (fn := Tryd.f78) rfl _ _ (w.heap.size + 1) 48 #[.slice A2 (n - 1 - ((x + 7) / 8).toNat) c2, .int .i64 ((p : Int) + 1 + (x + 7) / 8)] _ (w.heap.size + 1 + 1) 85 (pfx f x P) _ rfl hfin4.drew rrd_desc rfl (rrd_info _ _) rfl hfin.drew pfx_desc rfl HI.out) rfl ⟨⟨A2, n - 1 - ((x + 7) / 8).toNat, c2, (p : Int) + 1 + (x + 7) / 8, ?_, fun _ => ?_⟩, hbF.drew⟩
  · have e1 : pF f (x :: ys) = f := by unfold pF; rw [if_pos HK.out]
    have e2 : pL f (x :: ys) = x := by unfold pL; rw [if_pos HK.out]; rfl
    have e3 : pA f (x :: ys) = P := by unfold pA; rw [if_pos HK.out]; exact HP.out
    rw [e1, e2, e3, HK.out]; rfl
  · have e : pN (x :: ys) = 1 + ((x + 7) / 8).toNat := rfl
    rw [e]
    refine ⟨by omega, hc2, by omega, ?_⟩
    intro W B xs h
    have h2 := HB2 W B (xs.drop 1) (HB W B xs h)
    rw [List.drop_drop, Nat.sub_sub] at h2
    exact h2
end Go.Proofs.YtmlmgjdjbpipcaaDoor

/- peerageref03.Read: what its loop wants -/
namespace Go.Proofs.YtmlmgjdjbpipcaaDoor
open Go.RowKit

def setMany (cs : Array Value) : Nat → List Value → Array Value
  | _, [] => cs
  | o, v :: r => setMany (cs.setIfInBounds o v) (o + 1) r
theorem Own.setCells {g : Nat} {t : TypeId} : ∀ (vs : List Value) (o : Nat) (w : World) (cs : Array Value), Own w g t cs → Own (w.setCells g o vs) g t (setMany cs o vs)
  | [], _, _, _, h => h
  | v :: r, o, w, cs, h => Own.setCells r (o + 1) (w.setCell ⟨g, o, none⟩ v) (cs.setIfInBounds o v) (h.set_ o v)
theorem setMany_rt (p : Int) {f l : Int} {a : List Int} (h : a.length = 16) : setMany (rt ⟨p, 0, 0, zero16⟩) 1 (pfx f l a).toList = rt ⟨p, f, l, a⟩ := by
  obtain ⟨x0, x1, x2, x3, x4, x5, x6, x7, x8, x9, x10, x11, x12, x13, x14, x15, rfl⟩ := list16 h
  kernel_rfl
theorem Own.setMid {w : World} {g : Nat} {t : TypeId} {p f l : Int} {a : List Int} (h : Own w g t (rt ⟨p, 0, 0, zero16⟩)) (ha : a.length = 16) : Own (w.setCells g 1 (pfx f l a).toList) g t (rt ⟨p, f, l, a⟩) := by
  have := Own.setCells (pfx f l a).toList 1 w _ h
  rwa [setMany_rt p ha] at this
theorem Own.farCells {w : World} {g b o : Nat} {t : TypeId} {cs : Array Value} {vs : List Value} (h : Own w g t cs) (hb : g ≠ b) : Own (w.setCells b o vs) g t cs := h.keep (World.heap_setCells_other w b o vs h.lt hb)
theorem Own.there {w : World} {g o n : Nat} {t : TypeId} {cs : Array Value} (h : Own w g t cs) (hn : o + n ≤ cs.size) : w.there g o n := fun j hj => by
  have hlt : o + j < cs.size := by omega
  refine ⟨?_, h.frozen _⟩
  rw [h.cell (i := o + j) (v := cs[o + j]) (Array.getElem?_eq_getElem hlt)]; rfl
set_option maxRecDepth 100000 in
theorem rread_any (f : Int) (A : Option Addr) (n c : Nat) (xs : List Int) (p : Nat) (w : World) (hx : Bytes w w.heap.size A n xs) (hc : n ≤ c) (hn : n ≤ 100000000) (hp : p ≤ 100000000) :
    Calls Tryd.prog 78 #[.int .i64 f, .agg #[.slice A n c, .int .i64 p]] w fun e w' => RReadTo f A n xs p e ∧ Below w.heap.size w w' := by
  match xs, hx with
  | [], hx => exact rread_nil f A n c p w hx.1
  | x :: ys, hx =>
    by_cases h1 : lenOk f x = true
    · by_cases h2 : (sizeOfBits x).toNat ≤ ys.length
      · exact rread_yes f A n c x ys p w hx hc hn hp h1 h2
      · exact rread_short f A n c x ys p w hx hc hn hp h1 (by omega)
    · exact rread_bad f A n c x ys p w hx hc hn hp (by simpa using h1)
/-- The reference's reader in block g of the world wr: behind the first p of the bytes xs, which lie below B. -/
def RefR (B : Nat) (wr : World) (g : Nat) (n p : Nat) (xs : List Int) : Prop :=
  ∃ A c, Own wr g 48 #[.slice A (n - p) c, .int .i64 p] ∧ n - p ≤ c ∧ Bytes wr B A (n - p) (xs.drop p)
end Go.Proofs.YtmlmgjdjbpipcaaDoor

/- peerageref03.Read without identifiers -/
namespace Go.Proofs.YtmlmgjdjbpipcaaDoor
open Go.RowKit

theorem add_toNat_sub {n p m : Nat} : n - p - m = n - (p + m) := Nat.sub_sub _ _ _
theorem keepB {B : Nat} {a b : World} {A : Option Addr} {n : Nat} {xs : List Int} (h : Bytes a B A n xs) (hb : Below a.heap.size a b) (hB : B ≤ a.heap.size) : Bytes b B A n xs := h.below (hb.mono hB)

theorem cell_only (w : World) (g o : Nat) (u : Value) : w.grownBy (w.setCell ⟨g, o, none⟩ u) (some g) :=
  ⟨rfl, rfl, rfl, by simp, fun i _ hne => Below.heap_setCell w ⟨g, o, none⟩ u i (fun e => hne (by rw [e]))⟩
theorem cells_only (g : Nat) : ∀ (vs : List Value) (o : Nat) (w : World), w.grownBy (w.setCells g o vs) (some g)
  | [], _, w => World.grownBy.refl w _
  | v :: r, o, w => only_trans (cell_only w g o v) (cells_only g r (o + 1) _)

set_option maxHeartbeats 1600000 in
set_option maxRecDepth 100000 in
theorem rl_false (f : Int) (A : Option Addr) (n c : Nat) (xs : List Int) (w : World) (hx : Bytes w w.heap.size A n xs) (hc : n ≤ c) (hn : n ≤ 1000000) :
    Calls Tryd.prog 57 #[.int .i64 f, .bool false, .slice A n c] w fun e w' => ∃ v at_, e = .returned (.tuple #[v, .int .i64 at_]) ∧ ReadsTo f false xs w' v at_ ∧ Below w.heap.size w w' := by
  have hz19 : #[.int .u32 0, .int .i64 0, .int .i64 0, .int .u8 0, .int .u8 0, .int .u8 0, .int .u8 0, .int .u8 0, .int .u8 0, .int .u8 0, .int .u8 0, .int .u8 0, .int .u8 0, .int .u8 0, .int .u8 0, .int .u8 0, .int .u8 0, .int .u8 0, .int .u8 0] = rt rt0 := rt_zero.symm
  have HN := Lib.hid hx.1
  have HR := Lib.hid hx.2.1
  have hb0 := bl_alloc (bl_refl w) (.cells #[.slice A n c, .int .i64 0] 48)
  have o0 := Own.new w 48 #[.slice A n c, .int .i64 0]
  have hx1 : Bytes (w.alloc (.cells #[.slice A n c, .int .i64 0] 48)) w.heap.size A n xs := hx.below hb0
  clear hx
  go_enter Tryd.func57, Tryd.ntmps57
  go_wp2_with fail
  go_loopw [9] (fun v wr => ∃ (p : Nat) (rs : List Rt), Parsed f false xs p rs ∧ wr.ownsRow (w.heap.size + 1) 87 19 v rs.length (flatR rs) ∧ RefR w.heap.size wr w.heap.size n p xs ∧ Below w.heap.size w wr) (fun v _ => xs.length - lenOf v)
  case atStart => exact ⟨0, [], .nil, World.ownsRow_nil _ _ _ _, ⟨A, c, o0, hc, hx1⟩, hb0⟩
  case round =>
    obtain ⟨p, rs, hps, hown, ⟨A1, c1, hrd, hc1, hby⟩, hbw⟩ := hrel
    have hple := hps.le
    have hp0 := hple.1
    have hrl := hple.2
    obtain ⟨A9, c9, rfl, hc9, _⟩ := own_val hown
    clear hple hx1 o0 hb0
    have hbs := hbw.size
    have hgl := hrd.lt
    have hbase := own_base hown
    have hlt9' : ∀ j, (Value.slice A9 rs.length c9).ownBlock = some j → j < wr.heap.size := fun j hj => (hown.lt j hj).2
    have q0 := hrd.cell (i := 0) (v := .slice A1 (n - p) c1) rfl
    have q1 := hrd.cell (i := 1) (v := .int .i64 p) rfl
    by_cases hlt : p < n
    · have HLT := Lib.hid hlt
      have HPX := Lib.hid (show p < xs.length by have := HN.out; omega)
      have hnp : (0 : Int) < ((n - p : Nat) : Int) := by omega
      have HRX := Lib.hid (fun x (hx : x ∈ xs.drop p) => HR.out x (List.mem_of_mem_drop hx))
      have HA := Lib.hid (pA_addr (f := f) HRX.out)
      have o1 := Own.new wr 87 (rt rt0)
      have o2 := o1.setRow (cs' := rt rt0)
      have hi19 := Lib.hid (rt_info (r := rt0) rfl)
      have hb11 : Below wr.heap.size wr ((wr.alloc (.cells (rt rt0) 87)).setRow wr.heap.size (rt rt0)) := bl_setRow (bl_alloc (bl_refl wr) (.cells (rt rt0) 87)) (Nat.le_refl _)
      have hrd1 := hrd.step hb11
      have hown1 := own_below hown hb11
      have hby1 := keepB hby hb11 hbs
      have hbw1 := hbw.trans (hb11.mono hbs)
      have q10 := hrd1.cell (i := 0) (v := .slice A1 (n - p) c1) rfl
      have q11 := hrd1.cell (i := 1) (v := .int .i64 p) rfl
      clear hrd hown hby hb11
      go_wp2_with (refine wpList_store_row rfl 87 _ _ rfl wr.heap.size (rt rt0) rfl rfl 87 (rt rt0) o1 hi19.out rfl (rt_one _) ?_)
      have hlt9 : ∀ j, (Value.slice A9 rs.length c9).ownBlock = some j → j < wr.heap.size := hlt9'
      clear o1 q0 q1 hlt9'
      generalize (wr.alloc (.cells (rt rt0) 87)).setRow wr.heap.size (rt rt0) = W1 at o2 hrd1 hown1 hby1 hbw1 q10 q11 ⊢
      generalize wr.heap.size = b11 at o2 hgl hbs hlt9 ⊢
      refine (rread_any f A1 (n - p) c1 (xs.drop p) p _ (hby1.more hbw1.size) hc1 (by omega) (by omega)).mono ?_
      rintro e w2 ⟨⟨A2, n2, c2, p2, rfl, hq⟩, hb2⟩
      have o3 := o2.step hb2
      have hrd2 := hrd1.step hb2
      have hown2 := own_below hown1 hb2
      have hby2 := keepB hby1 hb2 hbw1.size
      have hbw2 := bl_trans hbw1 hb2
      clear o2 hrd1 hown1 hby1 hbw1 q10 q11 hb2
      have q0 := hrd2.cell (i := 0) (v := .slice A1 (n - p) c1) rfl
      have q1 := hrd2.cell (i := 1) (v := .int .i64 p) rfl
      have e0 := hrd2.frozen 0
      have e1 := hrd2.frozen 1
      have hrd3 := (own_two hrd2 (.slice A2 n2 c2) (.int .i64 p2)).1
      have hown3 := hown2.kept (own_two hrd2 (.slice A2 n2 c2) (.int .i64 p2)).2 (.inr (fun e => by have := hbase _ e; omega))
      have o4 := own_far (o := 1) (own_far (o := 0) o3 (b := w.heap.size) (by omega) (.slice A2 n2 c2)) (b := w.heap.size) (by omega) (.int .i64 p2)
      have hbX := ((Below.refl w.heap.size w2).setCell (p := ⟨w.heap.size, 0, none⟩) (Nat.le_refl _) (.slice A2 n2 c2)).setCell (p := ⟨w.heap.size, 1, none⟩) (Nat.le_refl _) (.int .i64 p2)
      have ht := o4.there (o := 1) (n := (pfx (pF f (xs.drop p)) (pL f (xs.drop p)) (pA f (xs.drop p))).size) (by rw [pfx_size HA.out.1, rt_size rfl]; exact Nat.le_refl _)
      have hi18 := Lib.hid (pfx_info (f := pF f (xs.drop p)) (l := pL f (xs.drop p)) HA.out.1)
      have hrd4 := hrd3.farCells (b := b11) (o := 1) (vs := (pfx (pF f (xs.drop p)) (pL f (xs.drop p)) (pA f (xs.drop p))).toList) (by omega)
      have hown4 := hown3.kept (cells_only b11 (pfx (pF f (xs.drop p)) (pL f (xs.drop p)) (pA f (xs.drop p))).toList 1 _) (.inr (fun e => by have := hlt9 _ e; omega))
      have o5 : Own _ b11 87 (rt ⟨0, pF f (xs.drop p), pL f (xs.drop p), pA f (xs.drop p)⟩) := o4.setMid (p := 0) HA.out.1
      have hbY := below_setCells (b := b11) (by omega) (pfx (pF f (xs.drop p)) (pL f (xs.drop p)) (pA f (xs.drop p))).toList 1 _ hbX
      have hby4 := hby2.below hbY
      have hbw4 := hbw2.trans hbY
      clear hown3 hown2 hby2 hbw2 hbX hbY
      by_cases hk : pOk f (xs.drop p) = true
      · rw [hk] at hq ⊢
        obtain ⟨hn2, hc2, hp2, HB⟩ := hq rfl
        have HN2 := Lib.hid hn2
        have HP2 := Lib.hid hp2
        have HC2 := Lib.hid hc2
        have hps2 := Lib.hid (Parsed.cons hps HPX.out hk)
        have HP := Lib.hid (Parsed.le hps2.out)
        have h5l := o5.lt
        have hb6 := bl_alloc (bl_refl ((((w2.setCell ⟨w.heap.size, 0, none⟩ (.slice A2 n2 c2)).setCell ⟨w.heap.size, 1, none⟩ (.int .i64 p2)).setCells b11 1 (pfx (pF f (xs.drop p)) (pL f (xs.drop p)) (pA f (xs.drop p))).toList))) (.cells (rt ⟨0, pF f (xs.drop p), pL f (xs.drop p), pA f (xs.drop p)⟩) 87)
        have hown5 := own_below hown4 hb6
        have hrd5 := hrd4.step hb6
        have hby5 := keepB hby4 hb6 hbw4.size
        have hbw5 := bl_trans hbw4 hb6
        have hrl19 := Lib.hid (rt_info (r := ⟨0, pF f (xs.drop p), pL f (xs.drop p), pA f (xs.drop p)⟩) HA.out.1)
        have o6 := Own.new ((((w2.setCell ⟨w.heap.size, 0, none⟩ (.slice A2 n2 c2)).setCell ⟨w.heap.size, 1, none⟩ (.int .i64 p2)).setCells b11 1 (pfx (pF f (xs.drop p)) (pL f (xs.drop p)) (pA f (xs.drop p))).toList)) 87 (rt ⟨0, pF f (xs.drop p), pL f (xs.drop p), pA f (xs.drop p)⟩)
        have hsh := Shows.of_owned (xs := (rt ⟨0, pF f (xs.drop p), pL f (xs.drop p), pA f (xs.drop p)⟩).toList) o6 (Nat.lt_succ_self _)
        have hl19 := Lib.hid (show (rt ⟨0, pF f (xs.drop p), pL f (xs.drop p), pA f (xs.drop p)⟩).toList.length = 1 * 19 by rw [Array.length_toList, rt_size HA.out.1])
        clear hq hn2 hp2 hc2 hown4 hrd4 hby4 hb6
        go_wp2_with (first | (refine wpList_store_mid rfl 85 _ _ rfl b11 1 (pfx (pF f (xs.drop p)) (pL f (xs.drop p)) (pA f (xs.drop p))) rfl rfl ht hi18.out (pfx_one _ _ _) ?_) | (refine wpList_load_row rfl 87 _ rfl b11 rfl 87 (rt ⟨0, pF f (xs.drop p), pL f (xs.drop p), pA f (xs.drop p)⟩) (0, 0) (.struct (Tryd.prog.fieldsOf 87)) o5 rt_desc rfl hrl19.out ?_) | (refine wpList_build_route rfl _ rfl ⟨0, pF f (xs.drop p), pL f (xs.drop p), pA f (xs.drop p)⟩ HA.out.1 (by simp only [List.map_toArray, List.map_cons, List.map_nil]; rfl) ?_) | (at_builtin; refine wpList_append_grow _ rfl _ _ rfl sl_routes (w.heap.size + 1) _ _ _ rfl hown5 _ _ 1 1 (rt ⟨0, pF f (xs.drop p), pL f (xs.drop p), pA f (xs.drop p)⟩).toList rfl hl19.out hsh rt_one_mem (by unfold maxLen; have := HN.out; omega) (by have := HN.out; omega) (by simp; omega) ?_; intro v5 w5 hown6 hgrow5))
        have hfr : flatR rs ++ (rt ⟨0, pF f (xs.drop p), pL f (xs.drop p), pA f (xs.drop p)⟩).toList = flatR (rs ++ [oneR f false (xs.drop p)]) := by simp [flatR, oneR]
        have hlr : rs.length + 1 = (rs ++ [oneR f false (xs.drop p)]).length := by simp
        rw [hfr, hlr] at hown6
        have hrd6 := hrd5.grown hgrow5 (fun e => by have := hbase _ e.symm; omega)
        have hg6 := (Below.refl w.heap.size _).grown hgrow5 hbw5.size (fun j hj => by have := hbase j hj; omega)
        have hby6 := hby5.below hg6
        rw [HN2.out, HP2.out, Nat.sub_sub] at hrd6
        refine ⟨⟨_, _, hps2.out, hown6, ⟨A2, c2, hrd6, ?_, ?_⟩, hbw5.trans hg6⟩, ?_⟩
        · have h1 := HN2.out
          have h2 := HC2.out
          show n - (p + pN (xs.drop p)) ≤ c2
          omega
        · have h3 := HB w5 w.heap.size (xs.drop p) hby6
          rw [List.drop_drop, Nat.sub_sub] at h3
          exact h3
        obtain ⟨A5, c5, rfl, _⟩ := own_val hown6
        show xs.length - (rs ++ [oneR f false (xs.drop p)]).length < xs.length - rs.length
        rw [← hlr]
        have := HPX.out
        omega
      · have hk' : pOk f (xs.drop p) = false := by simpa using hk
        rw [hk'] at hq ⊢
        clear hq
        go_wp2_with (refine wpList_store_mid rfl 85 _ _ rfl b11 1 (pfx (pF f (xs.drop p)) (pL f (xs.drop p)) (pA f (xs.drop p))) rfl rfl ht hi18.out (pfx_one _ _ _) ?_)
        go_ret2
        exact ⟨_, _, rfl, .inr ⟨p, rs, rfl, HPX.out, hps, hk', rfl⟩, hbw4⟩
    · have hpe := Lib.hid (show p = xs.length by have := HN.out; omega)
      have hnp : ¬ (0 : Int) < ((n - p : Nat) : Int) := by omega
      go_wp2_with fail
      go_ret2
      rw [hpe.out] at hps
      obtain ⟨A2, c2, hv, hc2, hro⟩ := own_routes hown (hps.ok HR.out) rfl
      exact ⟨_, _, rfl, .inl ⟨rs, A2, c2, rfl, hps, hv, hc2, hro⟩, hbw⟩
end Go.Proofs.YtmlmgjdjbpipcaaDoor

/- peerageref03.Read with identifiers -/
namespace Go.Proofs.YtmlmgjdjbpipcaaDoor
open Go.RowKit

theorem rt_set (P : Int) : (rt rt0).setIfInBounds 0 (.int .u32 P) = rt ⟨P, 0, 0, zero16⟩ := by kernel_rfl

set_option maxHeartbeats 1600000 in
set_option maxRecDepth 100000 in
theorem rl_true (f : Int) (A : Option Addr) (n c : Nat) (xs : List Int) (w : World) (hx : Bytes w w.heap.size A n xs) (hc : n ≤ c) (hn : n ≤ 1000000) :
    Calls Tryd.prog 57 #[.int .i64 f, .bool true, .slice A n c] w fun e w' => ∃ v at_, e = .returned (.tuple #[v, .int .i64 at_]) ∧ ReadsTo f true xs w' v at_ ∧ Below w.heap.size w w' := by
  have hz19 : #[.int .u32 0, .int .i64 0, .int .i64 0, .int .u8 0, .int .u8 0, .int .u8 0, .int .u8 0, .int .u8 0, .int .u8 0, .int .u8 0, .int .u8 0, .int .u8 0, .int .u8 0, .int .u8 0, .int .u8 0, .int .u8 0, .int .u8 0, .int .u8 0, .int .u8 0] = rt rt0 := rt_zero.symm
  have HN := Lib.hid hx.1
  have HR := Lib.hid hx.2.1
  have hb0 := bl_alloc (bl_refl w) (.cells #[.slice A n c, .int .i64 0] 48)
  have o0 := Own.new w 48 #[.slice A n c, .int .i64 0]
  have hx1 : Bytes (w.alloc (.cells #[.slice A n c, .int .i64 0] 48)) w.heap.size A n xs := hx.below hb0
  clear hx
  go_enter Tryd.func57, Tryd.ntmps57
  go_wp2_with fail
  go_loopw [9] (fun v wr => ∃ (p : Nat) (rs : List Rt), Parsed f true xs p rs ∧ wr.ownsRow (w.heap.size + 1) 87 19 v rs.length (flatR rs) ∧ RefR w.heap.size wr w.heap.size n p xs ∧ Below w.heap.size w wr) (fun v _ => xs.length - lenOf v)
  case atStart => exact ⟨0, [], .nil, World.ownsRow_nil _ _ _ _, ⟨A, c, o0, hc, hx1⟩, hb0⟩
  case round =>
    obtain ⟨p, rs, hps, hown, ⟨A1, c1, hrd, hc1, hby⟩, hbw⟩ := hrel
    have hple := hps.le
    have hp0 := hple.1
    have hrl := hple.2
    obtain ⟨A9, c9, rfl, hc9, _⟩ := own_val hown
    clear hple hx1 o0 hb0
    have hbs := hbw.size
    have hgl := hrd.lt
    have hbase := own_base hown
    have hlt9' : ∀ j, (Value.slice A9 rs.length c9).ownBlock = some j → j < wr.heap.size := fun j hj => (hown.lt j hj).2
    have q0 := hrd.cell (i := 0) (v := .slice A1 (n - p) c1) rfl
    have q1 := hrd.cell (i := 1) (v := .int .i64 p) rfl
    by_cases hlt : p < n
    · have HLT := Lib.hid hlt
      have HPX := Lib.hid (show p < xs.length by have := HN.out; omega)
      have hnp : (0 : Int) < ((n - p : Nat) : Int) := by omega
      have HRX := Lib.hid (fun x (hx : x ∈ xs.drop p) => HR.out x (List.mem_of_mem_drop hx))
      have HA := Lib.hid (pA_addr (f := f) HRX.out)
      have o1 := Own.new wr 87 (rt rt0)
      have o2 := o1.setRow (cs' := rt rt0)
      have hi19 := Lib.hid (rt_info (r := rt0) rfl)
      have hb11 : Below wr.heap.size wr ((wr.alloc (.cells (rt rt0) 87)).setRow wr.heap.size (rt rt0)) := bl_setRow (bl_alloc (bl_refl wr) (.cells (rt rt0) 87)) (Nat.le_refl _)
      have hrd1 := hrd.step hb11
      have hown1 := own_below hown hb11
      have hby1 := keepB hby hb11 hbs
      have hbw1 := hbw.trans (hb11.mono hbs)
      have q10 := hrd1.cell (i := 0) (v := .slice A1 (n - p) c1) rfl
      have q11 := hrd1.cell (i := 1) (v := .int .i64 p) rfl
      clear hrd hown hby hb11
      go_wp2_with (refine wpList_store_row rfl 87 _ _ rfl wr.heap.size (rt rt0) rfl rfl 87 (rt rt0) o1 hi19.out rfl (rt_one _) ?_)
      have hlt9 : ∀ j, (Value.slice A9 rs.length c9).ownBlock = some j → j < wr.heap.size := hlt9'
      clear o1 q0 q1 hlt9'
      generalize (wr.alloc (.cells (rt rt0) 87)).setRow wr.heap.size (rt rt0) = W1 at o2 hrd1 hown1 hby1 hbw1 q10 q11 ⊢
      generalize wr.heap.size = b11 at o2 hgl hbs hlt9 ⊢
      have k10 := hrd1.frozen 0
      have k11 := hrd1.frozen 1
      by_cases h4 : 4 ≤ n - p
      · have HX4 := Lib.hid (show 4 ≤ (xs.drop p).length by rw [List.length_drop]; have := HN.out; omega)
        have hbig := big_range 4 ((xs.drop p).take 4) (by rw [List.length_take]; have := HX4.out; omega) (fun x hx => HRX.out x (List.mem_of_mem_take hx))
        have hbg0 := hbig.1
        have hbg1 : big ((xs.drop p).take 4) < 4294967296 := by have := hbig.2; have e2 : (256 : Int) ^ 4 = 4294967296 := rfl; omega
        clear hbig
        obtain ⟨P, hP⟩ : ∃ P, P = big ((xs.drop p).take 4) := ⟨_, rfl⟩
        obtain ⟨ys, hys⟩ : ∃ ys, ys = (xs.drop p).drop 4 := ⟨_, rfl⟩
        obtain ⟨n3, hn3⟩ : ∃ n3, n3 = n - p - 4 := ⟨_, rfl⟩
        have hN := rnum_yes A1 (n - p) c1 (xs.drop p) p 4 _ (hby1.more hbw1.size) hc1 (by omega) (by omega) (by omega) (by omega) (by omega) (by omega)
        rw [show (4 : Int).toNat = 4 from rfl, ← hP, ← hn3] at hN
        rw [← hP] at hbg0 hbg1
        have HO1 := Lib.hid (show oneOk f true (xs.drop p) = pOk f ys by
          unfold oneOk
          rw [if_pos rfl, decide_eq_true HX4.out, hys]; rfl)
        have HO2 := Lib.hid (show oneR f true (xs.drop p) = ⟨P, pF f ys, pL f ys, pA f ys⟩ by
          unfold oneR
          rw [if_pos rfl, if_pos HX4.out, hP, hys])
        have HO3 := Lib.hid (show oneN true (xs.drop p) = 4 + pN ys by rw [hys]; rfl)
        have HN3 := Lib.hid hn3
        have E3 := Lib.hid (show ∀ k, ys.drop k = xs.drop (p + (4 + k)) from fun k => by rw [hys, List.drop_drop, List.drop_drop])
        have HAY := Lib.hid (show IsAddr (pA f ys) from pA_addr (f := f) (fun x hx => HRX.out x (by rw [hys] at hx; exact List.mem_of_mem_drop hx)))
        have HYS := Lib.hid hys
        have hn3a : n3 ≤ 1000000 := by omega
        clear hP hys hn3
        refine hN.mono ?_
        rintro e w9 ⟨A3, c3, rfl, hc3, HB3, hb9⟩
        clear hN
        have o3 := o2.step hb9
        have hrd2 := hrd1.step hb9
        have hown2 := own_below hown1 hb9
        have hby2 := keepB hby1 hb9 hbw1.size
        have hbw2 := bl_trans hbw1 hb9
        clear o2 hrd1 hbw1 q10 q11 k10 k11 hb9 hown1 hby1
        have q0 := hrd2.cell (i := 0) (v := .slice A1 (n - p) c1) rfl
        have q1 := hrd2.cell (i := 1) (v := .int .i64 p) rfl
        have e0 := hrd2.frozen 0
        have e1 := hrd2.frozen 1
        have hrd3 := (own_two hrd2 (.slice A3 n3 c3) (.int .i64 ((p : Int) + 4))).1
        have hown3 := hown2.kept (own_two hrd2 (.slice A3 n3 c3) (.int .i64 ((p : Int) + 4))).2 (.inr (fun e => by have := hbase _ e; omega))
        have o4 := own_far (o := 1) (own_far (o := 0) o3 (b := w.heap.size) (by omega) (.slice A3 n3 c3)) (b := w.heap.size) (by omega) (.int .i64 ((p : Int) + 4))
        have z0 := o4.cell (rt_0 rt0)
        have z1 := o4.frozen 0
        have o5 : Own _ b11 87 (rt ⟨P, 0, 0, zero16⟩) := (rt_set P) ▸ o4.set_ 0 (.int .u32 P)
        have hrd4 := own_far (o := 0) hrd3 (b := b11) (by omega) (.int .u32 P)
        have hown4 := hown3.kept (cell_only _ b11 0 (.int .u32 P)) (.inr (fun e => by have := hlt9 _ e; omega))
        have hbX := (((Below.refl w.heap.size w9).setCell (p := ⟨w.heap.size, 0, none⟩) (Nat.le_refl _) (.slice A3 n3 c3)).setCell (p := ⟨w.heap.size, 1, none⟩) (Nat.le_refl _) (.int .i64 ((p : Int) + 4))).setCell (p := ⟨b11, 0, none⟩) (by dsimp only; omega) (.int .u32 P)
        have hby4 := HB3 _ w.heap.size (xs.drop p) (hby2.below hbX)
        rw [← HYS.out, show n - p - 4 = n3 from HN3.out.symm] at hby4
        have hbw4 := hbw2.trans hbX
        clear hown3 hown2 hby2 hbw2 hbX hrd3 hrd2 o3 HB3
        go_upto_region 10 with (fail)
        generalize ((w9.setCell ⟨w.heap.size, 0, none⟩ (.slice A3 n3 c3)).setCell ⟨w.heap.size, 1, none⟩ (.int .i64 ((p : Int) + 4))).setCell ⟨b11, 0, none⟩ (.int .u32 P) = V at o5 hrd4 hown4 hby4 hbw4 ⊢
        clear q0 q1 e0 e1 z0 z1 o4
        have q10 := hrd4.cell (i := 0) (v := .slice A3 n3 c3) rfl
        have q11 := hrd4.cell (i := 1) (v := .int .i64 ((p : Int) + 4)) rfl
        have hRR := rread_any f A3 n3 c3 ys (p + 4) V (hby4.more hbw4.size) hc3 (by omega) (by omega)
        rw [show ((p + 4 : Nat) : Int) = (p : Int) + 4 by omega] at hRR
        go_wp2_with fail
        refine hRR.mono ?_
        clear hRR
        rintro e w2 ⟨⟨A2, n2, c2, p2, rfl, hq⟩, hb2⟩
        have o3 := o5.step hb2
        have hrd2 := hrd4.step hb2
        have hown2 := own_below hown4 hb2
        have hby2 := keepB hby4 hb2 hbw4.size
        have hbw2 := bl_trans hbw4 hb2
        clear o5 hrd4 hown4 hby4 hbw4 q10 q11 hb2
        have q0 := hrd2.cell (i := 0) (v := .slice A3 n3 c3) rfl
        have q1 := hrd2.cell (i := 1) (v := .int .i64 ((p : Int) + 4)) rfl
        have e0 := hrd2.frozen 0
        have e1 := hrd2.frozen 1
        have hrd3 := (own_two hrd2 (.slice A2 n2 c2) (.int .i64 p2)).1
        have hown3 := hown2.kept (own_two hrd2 (.slice A2 n2 c2) (.int .i64 p2)).2 (.inr (fun e => by have := hbase _ e; omega))
        have o4 := own_far (o := 1) (own_far (o := 0) o3 (b := w.heap.size) (by omega) (.slice A2 n2 c2)) (b := w.heap.size) (by omega) (.int .i64 p2)
        have hbX := ((Below.refl w.heap.size w2).setCell (p := ⟨w.heap.size, 0, none⟩) (Nat.le_refl _) (.slice A2 n2 c2)).setCell (p := ⟨w.heap.size, 1, none⟩) (Nat.le_refl _) (.int .i64 p2)
        have ht := o4.there (o := 1) (n := (pfx (pF f ys) (pL f ys) (pA f ys)).size) (by rw [pfx_size HAY.out.1, rt_size rfl]; exact Nat.le_refl _)
        have hi18 := Lib.hid (pfx_info (f := pF f ys) (l := pL f ys) HAY.out.1)
        have hrd4 := hrd3.farCells (b := b11) (o := 1) (vs := (pfx (pF f ys) (pL f ys) (pA f ys)).toList) (by omega)
        have hown4 := hown3.kept (cells_only b11 (pfx (pF f ys) (pL f ys) (pA f ys)).toList 1 _) (.inr (fun e => by have := hlt9 _ e; omega))
        have o5 : Own _ b11 87 (rt ⟨P, pF f ys, pL f ys, pA f ys⟩) := o4.setMid (p := P) HAY.out.1
        have hbY := below_setCells (b := b11) (by omega) (pfx (pF f ys) (pL f ys) (pA f ys)).toList 1 _ hbX
        have hby4 := hby2.below hbY
        have hbw4 := hbw2.trans hbY
        clear hown3 hown2 hby2 hbw2 hbX hbY
        by_cases hk : pOk f ys = true
        · rw [hk] at hq ⊢
          obtain ⟨hn2, hc2, hp2, HB⟩ := hq rfl
          have HN2 := Lib.hid hn2
          have HP2 := Lib.hid hp2
          have HC2 := Lib.hid hc2
          have hps2 := Lib.hid (Parsed.cons hps HPX.out (HO1.out.trans hk))
          have HP := Lib.hid (Parsed.le hps2.out)
          have h5l := o5.lt
          have hb6 := bl_alloc (bl_refl ((((w2.setCell ⟨w.heap.size, 0, none⟩ (.slice A2 n2 c2)).setCell ⟨w.heap.size, 1, none⟩ (.int .i64 p2)).setCells b11 1 (pfx (pF f ys) (pL f ys) (pA f ys)).toList))) (.cells (rt ⟨P, pF f ys, pL f ys, pA f ys⟩) 87)
          have hown5 := own_below hown4 hb6
          have hrd5 := hrd4.step hb6
          have hby5 := keepB hby4 hb6 hbw4.size
          have hbw5 := bl_trans hbw4 hb6
          have hrl19 := Lib.hid (rt_info (r := ⟨P, pF f ys, pL f ys, pA f ys⟩) HAY.out.1)
          have o6 := Own.new ((((w2.setCell ⟨w.heap.size, 0, none⟩ (.slice A2 n2 c2)).setCell ⟨w.heap.size, 1, none⟩ (.int .i64 p2)).setCells b11 1 (pfx (pF f ys) (pL f ys) (pA f ys)).toList)) 87 (rt ⟨P, pF f ys, pL f ys, pA f ys⟩)
          have hsh := Shows.of_owned (xs := (rt ⟨P, pF f ys, pL f ys, pA f ys⟩).toList) o6 (Nat.lt_succ_self _)
          have hl19 := Lib.hid (show (rt ⟨P, pF f ys, pL f ys, pA f ys⟩).toList.length = 1 * 19 by rw [Array.length_toList, rt_size HAY.out.1])
          clear hq hn2 hp2 hc2 hown4 hrd4 hby4 hb6
          go_wp2_with (first | (refine wpList_store_mid rfl 85 _ _ rfl b11 1 (pfx (pF f ys) (pL f ys) (pA f ys)) rfl rfl ht hi18.out (pfx_one _ _ _) ?_) | (refine wpList_load_row rfl 87 _ rfl b11 rfl 87 (rt ⟨P, pF f ys, pL f ys, pA f ys⟩) (0, 0) (.struct (Tryd.prog.fieldsOf 87)) o5 rt_desc rfl hrl19.out ?_) | (refine wpList_build_route rfl _ rfl ⟨P, pF f ys, pL f ys, pA f ys⟩ HAY.out.1 (by simp only [List.map_toArray, List.map_cons, List.map_nil]; rfl) ?_) | (at_builtin; refine wpList_append_grow _ rfl _ _ rfl sl_routes (w.heap.size + 1) _ _ _ rfl hown5 _ _ 1 1 (rt ⟨P, pF f ys, pL f ys, pA f ys⟩).toList rfl hl19.out hsh rt_one_mem (by unfold maxLen; have := HN.out; omega) (by have := HN.out; omega) (by simp; omega) ?_; intro v5 w5 hown6 hgrow5))
          have hfr : flatR rs ++ (rt ⟨P, pF f ys, pL f ys, pA f ys⟩).toList = flatR (rs ++ [oneR f true (xs.drop p)]) := by rw [HO2.out]; simp [flatR]
          have hlr : rs.length + 1 = (rs ++ [oneR f true (xs.drop p)]).length := by simp
          rw [hfr, hlr] at hown6
          have hrd6 := hrd5.grown hgrow5 (fun e => by have := hbase _ e.symm; omega)
          have hg6 := (Below.refl w.heap.size _).grown hgrow5 hbw5.size (fun j hj => by have := hbase j hj; omega)
          have hby6 := hby5.below hg6
          have e1 : n2 = n - (p + oneN true (xs.drop p)) := by rw [HN2.out, HN3.out, HO3.out]; omega
          have e2 : p2 = ((p + oneN true (xs.drop p) : Nat) : Int) := by rw [HP2.out, HO3.out]; omega
          rw [e1, e2] at hrd6
          refine ⟨⟨_, _, hps2.out, hown6, ⟨A2, c2, hrd6, ?_, ?_⟩, hbw5.trans hg6⟩, ?_⟩
          · have h2 := HC2.out
            omega
          · have h3 := HB w5 w.heap.size ys hby6
            rw [E3.out, ← HN2.out, e1, ← HO3.out] at h3
            exact h3
          obtain ⟨A5, c5, rfl, _⟩ := own_val hown6
          show xs.length - (rs ++ [oneR f true (xs.drop p)]).length < xs.length - rs.length
          rw [← hlr]
          have := HPX.out
          omega
        · have hk' : pOk f ys = false := by simpa using hk
          rw [hk'] at hq ⊢
          clear hq
          go_wp2_with (refine wpList_store_mid rfl 85 _ _ rfl b11 1 (pfx (pF f ys) (pL f ys) (pA f ys)) rfl rfl ht hi18.out (pfx_one _ _ _) ?_)
          go_ret2
          exact ⟨_, _, rfl, .inr ⟨p, rs, rfl, HPX.out, hps, HO1.out.trans hk', rfl⟩, hbw4⟩
      · refine (rnum_no A1 (n - p) c1 p 4 _ (by omega) (by omega) (by omega) (by omega)).mono ?_
        rintro e w9 ⟨rfl, hb9⟩
        have HK := Lib.hid (show oneOk f true (xs.drop p) = false by
          unfold oneOk
          rw [if_pos rfl, List.length_drop, decide_eq_false (by have := HN.out; omega)]; rfl)
        have o3 := o2.step hb9
        have hrd2 := hrd1.step hb9
        have hbw2 := bl_trans hbw1 hb9
        clear o2 hrd1 hbw1 q10 q11 k10 k11 hb9 hown1 hby1
        have q0 := hrd2.cell (i := 0) (v := .slice A1 (n - p) c1) rfl
        have q1 := hrd2.cell (i := 1) (v := .int .i64 p) rfl
        have e0 := hrd2.frozen 0
        have e1 := hrd2.frozen 1
        have o4 := own_far (o := 1) (own_far (o := 0) o3 (b := w.heap.size) (by omega) (.slice A1 (n - p) c1)) (b := w.heap.size) (by omega) (.int .i64 p)
        have z0 := o4.cell (rt_0 rt0)
        have z1 := o4.frozen 0
        have hbw4 := ((hbw2.setCell (p := ⟨w.heap.size, 0, none⟩) (Nat.le_refl _) (.slice A1 (n - p) c1)).setCell (p := ⟨w.heap.size, 1, none⟩) (Nat.le_refl _) (.int .i64 p)).setCell (p := ⟨b11, 0, none⟩) (by dsimp only; omega) (.int .u32 0)
        go_wp2_with fail
        go_ret2
        exact ⟨_, _, rfl, .inr ⟨p, rs, rfl, HPX.out, hps, HK.out, rfl⟩, hbw4⟩
    · have hpe := Lib.hid (show p = xs.length by have := HN.out; omega)
      have hnp : ¬ (0 : Int) < ((n - p : Nat) : Int) := by omega
      go_wp2_with fail
      go_ret2
      rw [hpe.out] at hps
      obtain ⟨A2, c2, hv, hc2, hro⟩ := own_routes hown (hps.ok HR.out) rfl
      exact ⟨_, _, rfl, .inl ⟨rs, A2, c2, rfl, hps, hv, hc2, hro⟩, hbw⟩
end Go.Proofs.YtmlmgjdjbpipcaaDoor

/- routes that are equal: '!=' says no -/
namespace Go.Proofs.YtmlmgjdjbpipcaaDoor
open Go.RowKit
open Go.RowKit Extern.Stop

set_option maxRecDepth 100000 in
theorem part_pfx {r : Rt} (h : r.a.length = 16) (W : World) : (Go.part 85 (rt r) 1).run Tryd.prog W = Result.ok (.agg (pfx r.f r.l r.a)) W := by
  obtain ⟨p, f, l, a⟩ := r
  obtain ⟨x0, x1, x2, x3, x4, x5, x6, x7, x8, x9, x10, x11, x12, x13, x14, x15, rfl⟩ := list16 h
  kernel_rfl
set_option maxRecDepth 100000 in
theorem part_path {r : Rt} (h : r.a.length = 16) (W : World) : (Go.part 24 (rt r) 0).run Tryd.prog W = Result.ok (.int .u32 r.p) W := by
  obtain ⟨p, f, l, a⟩ := r
  obtain ⟨x0, x1, x2, x3, x4, x5, x6, x7, x8, x9, x10, x11, x12, x13, x14, x15, rfl⟩ := list16 h
  kernel_rfl
set_option maxRecDepth 100000 in
theorem part_fam {f l : Int} {a : List Int} (h : a.length = 16) (W : World) : (Go.part 3 (pfx f l a) 0).run Tryd.prog W = Result.ok (.int .i64 f) W := by
  obtain ⟨x0, x1, x2, x3, x4, x5, x6, x7, x8, x9, x10, x11, x12, x13, x14, x15, rfl⟩ := list16 h
  kernel_rfl
set_option maxRecDepth 100000 in
theorem part_len {f l : Int} {a : List Int} (h : a.length = 16) (W : World) : (Go.part 3 (pfx f l a) 1).run Tryd.prog W = Result.ok (.int .i64 l) W := by
  obtain ⟨x0, x1, x2, x3, x4, x5, x6, x7, x8, x9, x10, x11, x12, x13, x14, x15, rfl⟩ := list16 h
  kernel_rfl
set_option maxRecDepth 100000 in
theorem part_addr {f l : Int} {a : List Int} (h : a.length = 16) (W : World) : (Go.part 83 (pfx f l a) 2).run Tryd.prog W = Result.ok (.agg (arr a)) W := by
  obtain ⟨x0, x1, x2, x3, x4, x5, x6, x7, x8, x9, x10, x11, x12, x13, x14, x15, rfl⟩ := list16 h
  kernel_rfl
set_option maxRecDepth 100000 in
theorem eqIn_arr (d : Nat) {a : List Int} (ha : IsAddr a) (W : World) : (Op.equalIn (d + 2) 83 (.agg (arr a)) (.agg (arr a))).run Tryd.prog W = Result.ok true W := by
  obtain ⟨us, rfl⟩ := bytes_lift a ha.2
  have e : arr (us.map (fun u => (u.toNat : Int))) = (us.map cell).toArray := by
    unfold arr; rw [List.map_map]; rfl
  have hl : us.length = 16 := by have := ha.1; simpa using this
  rw [e, run_equalIn_bytes W d 83 5 16 Tryd.underlying83 Tryd.underlying5 (fun _ => by kernel_rfl) us us hl hl]
  simp
theorem fields3 {fs : List Field} {n1 n2 n3 : String} {t1 t2 t3 : TypeId} {o1 o2 o3 : Nat} (hf : fs.map (fun x => (x.name, x.type, x.offset)) = [(n1, t1, o1), (n2, t2, o2), (n3, t3, o3)]) :
    ∃ f1 f2 f3 : Field, fs = [f1, f2, f3] ∧ (f1.name = n1 ∧ f1.type = t1 ∧ f1.offset = o1) ∧ (f2.name = n2 ∧ f2.type = t2 ∧ f2.offset = o2) ∧ f3.name = n3 ∧ f3.type = t3 ∧ f3.offset = o3 := by
  obtain ⟨f1, g1, rfl, h1, hf⟩ := List.map_eq_cons_iff.1 hf
  obtain ⟨f2, g2, rfl, h2, hf⟩ := List.map_eq_cons_iff.1 hf
  obtain ⟨f3, g3, rfl, h3, hf⟩ := List.map_eq_cons_iff.1 hf
  rw [List.map_eq_nil_iff] at hf
  subst hf
  simp only [Prod.mk.injEq] at h1 h2 h3
  exact ⟨f1, f2, f3, rfl, h1, h2, h3⟩
theorem fields2 {fs : List Field} {n1 n2 : String} {t1 t2 : TypeId} {o1 o2 : Nat} (hf : fs.map (fun x => (x.name, x.type, x.offset)) = [(n1, t1, o1), (n2, t2, o2)]) :
    ∃ f1 f2 : Field, fs = [f1, f2] ∧ (f1.name = n1 ∧ f1.type = t1 ∧ f1.offset = o1) ∧ f2.name = n2 ∧ f2.type = t2 ∧ f2.offset = o2 := by
  obtain ⟨f1, g1, rfl, h1, hf⟩ := List.map_eq_cons_iff.1 hf
  obtain ⟨f2, g2, rfl, h2, hf⟩ := List.map_eq_cons_iff.1 hf
  rw [List.map_eq_nil_iff] at hf
  subst hf
  simp only [Prod.mk.injEq] at h1 h2
  exact ⟨f1, f2, rfl, h1, h2⟩
set_option maxRecDepth 100000 in
theorem eqIn_pfx (d : Nat) {f l : Int} {a : List Int} (ha : IsAddr a) (W : World) : (Op.equalIn (d + 3) 85 (.agg (pfx f l a)) (.agg (pfx f l a))).run Tryd.prog W = Result.ok true W := by
  have hz := Tryd.underlying3
  rw [run_equalIn_agg W (d + 2) 85 _ _ pfx_desc (by kernel_rfl)]
  have hf : (Tryd.prog.fieldsOf 85).toList.map (fun x => (x.name, x.type, x.offset)) = [("Fam", 3, 0), ("Len", 3, 1), ("Addr", 83, 2)] := by kernel_rfl
  obtain ⟨f1, f2, f3, e, ⟨n1, t1, o1⟩, ⟨n2, t2, o2⟩, n3, t3, o3⟩ := fields3 hf
  have q1 : ∀ W, (Op.equalIn (d + 2) 3 (.int .i64 f) (.int .i64 f)).run Tryd.prog W = Result.ok true W := fun W => by rw [run_equalIn_int W (d + 1) 3 .i64 .i64 _ _ hz]; simp
  have q2 : ∀ W, (Op.equalIn (d + 2) 3 (.int .i64 l) (.int .i64 l)).run Tryd.prog W = Result.ok true W := fun W => by rw [run_equalIn_int W (d + 1) 3 .i64 .i64 _ _ hz]; simp
  rw [e]
  simp only [Op.eqFields, n1, t1, o1, n2, t2, o2, n3, t3, o3]
  simp only [show ("Fam" ≠ "_") = True by decide, show ("Len" ≠ "_") = True by decide, show ("Addr" ≠ "_") = True by decide, if_true, Sem.run_bind, part_fam ha.1, part_len ha.1, part_addr ha.1, Result.andThen_ok, q1, q2, eqIn_arr d ha, Bool.not_true, Bool.false_eq_true, if_false, Sem.run_pure]
set_option maxRecDepth 100000 in
theorem eqIn_rt (d : Nat) {r : Rt} (ho : r.Ok) (W : World) : (Op.equalIn (d + 4) 87 (.agg (rt r)) (.agg (rt r))).run Tryd.prog W = Result.ok true W := by
  have hz := Tryd.underlying24
  rw [run_equalIn_agg W (d + 3) 87 _ _ rt_desc (by kernel_rfl)]
  have hf : (Tryd.prog.fieldsOf 87).toList.map (fun x => (x.name, x.type, x.offset)) = [("Path", 24, 0), ("Prefix", 85, 1)] := by kernel_rfl
  obtain ⟨f1, f2, e, ⟨n1, t1, o1⟩, n2, t2, o2⟩ := fields2 hf
  have q1 : ∀ W, (Op.equalIn (d + 3) 24 (.int .u32 r.p) (.int .u32 r.p)).run Tryd.prog W = Result.ok true W := fun W => by rw [run_equalIn_int W (d + 2) 24 .u32 .u32 _ _ hz]; simp
  rw [e]
  simp only [Op.eqFields, n1, t1, o1, n2, t2, o2]
  simp only [show ("Path" ≠ "_") = True by decide, show ("Prefix" ≠ "_") = True by decide, if_true, Sem.run_bind, part_path ho.1.1, part_pfx ho.1.1, Result.andThen_ok, q1, eqIn_pfx d ho.1, Bool.not_true, Bool.false_eq_true, if_false, Sem.run_pure]
set_option maxRecDepth 100000 in
theorem neq_rt {r : Rt} (ho : r.Ok) (W : World) : (binOp .neq 87 (.agg (rt r)) (.agg (rt r))).run Tryd.prog W = Result.ok (.bool false) W := by
  rw [run_neq_struct W, eqIn_rt 9996 ho]
  rfl
end Go.Proofs.YtmlmgjdjbpipcaaDoor

/- slices.Equal at equal lists of routes -/
namespace Go.Proofs.YtmlmgjdjbpipcaaDoor
open Go.RowKit

end Go.Proofs.YtmlmgjdjbpipcaaDoor

/- peeragelaw03.alive -/
namespace Go.Proofs.YtmlmgjdjbpipcaaDoor
open Go.RowKit

def r5 : Rt := ⟨5, 1, 8, [10, 0, 0, 0, 0, 0, 0, 0, 0, 0, 0, 0, 0, 0, 0, 0]⟩
theorem rt_five : rt r5 = #[.int .u32 5, .int .i64 1, .int .i64 8, .int .u8 10, .int .u8 0, .int .u8 0, .int .u8 0, .int .u8 0, .int .u8 0, .int .u8 0, .int .u8 0, .int .u8 0, .int .u8 0, .int .u8 0, .int .u8 0, .int .u8 0, .int .u8 0, .int .u8 0, .int .u8 0] := rfl
theorem r5_ok : r5.Ok := by
  refine ⟨⟨rfl, ?_⟩, by show (0 : Int) ≤ 5; omega, by show (5 : Int) ≤ 4294967295; omega⟩
  intro x hx
  simp [r5] at hx
  omega
theorem r5_valid : [r5].all (rtOk 1 true) = true := by decide +kernel
theorem r5_form : formAll true [r5] = [0, 0, 0, 5, 8, 10] := by decide +kernel
theorem routes_one {w : World} {g : Nat} {t : TypeId} {r : Rt} (h : Own w g t (rt r)) (ho : r.Ok) : Routes w w.heap.size (some ⟨g, 0, none⟩) 1 [r] := by
  refine ⟨rfl, by intro q hq; rw [List.mem_singleton] at hq; subst hq; exact ho, .inr ⟨g, 0, rfl, h.lt, ?_⟩⟩
  intro i q hi j v hv
  match i, hi with
  | 0, hi =>
    have e : r = q := by simpa using hi
    subst e
    have := h.cell (i := j) (v := v) (by simpa using hv)
    simpa using this
  | i + 1, hi => simp at hi

end Go.Proofs.YtmlmgjdjbpipcaaDoor

/- NlriReads: the walk -/
namespace Go.Proofs.YtmlmgjdjbpipcaaDoor
open Go.RowKit Extern.Stop

set_option maxRecDepth 100000 in
theorem rl_any (f : Int) (add : Bool) (A : Option Addr) (n c : Nat) (xs : List Int) (w : World) (hx : Bytes w w.heap.size A n xs) (hc : n ≤ c) (hn : n ≤ 1000000) :
    Calls Tryd.prog 57 #[.int .i64 f, .bool add, .slice A n c] w fun e w' => ∃ v at_, e = .returned (.tuple #[v, .int .i64 at_]) ∧ ReadsTo f add xs w' v at_ ∧ Below w.heap.size w w' := by
  cases add
  · exact rl_false f A n c xs w hx hc hn
  · exact rl_true f A n c xs w hx hc hn
end Go.Proofs.YtmlmgjdjbpipcaaDoor

/- peerageref03.Same at equal lists (as in XSpD, with few imports) -/
namespace Go.Proofs.YtmlmgjdjbpipcaaDoor
open Go.RowKit

set_option maxHeartbeats 3200000 in
set_option maxRecDepth 100000 in
theorem rsame3_same (A A' : Option Addr) (n c c' : Nat) (rs : List Rt) (w : World) (B B' : Nat) (hx : Routes w B A n rs) (hy : Routes w B' A' n rs) (hn : n ≤ 1000000000) :
    Calls Tryd.prog 50 #[.slice A n c, .slice A' n c'] w fun e w' => e = .returned (.bool true) ∧ Below w.heap.size w w' := by
  have HN := Lib.hid hx.1
  have q0 : ((n : Int) != (n : Int)) = false := by simp
  go_enter Tryd.func50, Tryd.ntmps50
  go_wp2
  go_loopw [5] (fun i wr => ∃ (k m : Nat), k ≤ n ∧ i = .int .i64 k ∧ wr = w.drewN m) (fun i _ => n - (intOf i).toNat)
  case atStart => exact ⟨0, 0, Nat.zero_le _, rfl, rfl⟩
  case round =>
    obtain ⟨k, m, hk, rfl, rfl⟩ := hrel
    by_cases hlt : k < n
    · obtain ⟨b, o, rfl, hb, hok, hr⟩ := hx.at_ hlt
      obtain ⟨b', o', rfl, hb', _, hr'⟩ := hy.at_ hlt
      have hneq := neq_rt hok
      have hi19 := Lib.hid (rt_infol hok.1.1)
      go_wp2_with fail
      refine wp_region_held_drew (S := (fun W => W.rangeAt b (o + k * 19) (rt (nthR rs k)).toList ∧ W.rangeAt b' (o' + k * 19) (rt (nthR rs k)).toList)) (by kernel_rfl) ⟨hr, hr'⟩ (fun hHeld => ?_)
      refine wpAnyH_take (i := 0) (v := ?_) rfl (by kernel_rfl) (by kernel_rfl) (by kernel_rfl) (fun _ _ _ h => h) (Or.inl ⟨by rfl, ?_⟩) (by assumption) ?_
      rotate_left
      · (intro W hSw; obtain ⟨s0, s1⟩ := hSw; go_simp; try with_reducible rfl)
      simp only [Act.put, List.getElem_toArray, List.getElem_cons_zero, List.setIfInBounds_toArray, List.set_cons_zero, List.set_cons_succ]
      refine wpAnyH_take (i := 1) (v := ?_) rfl (by kernel_rfl) (by kernel_rfl) (by kernel_rfl) (fun _ _ _ h => h) (Or.inl ⟨by rfl, ?_⟩) (by assumption) ?_
      rotate_left
      · (intro W hSw; obtain ⟨s0, s1⟩ := hSw; go_simp; try with_reducible rfl)
      simp only [Act.put, List.getElem_toArray, List.getElem_cons_zero, List.getElem_cons_succ, List.setIfInBounds_toArray, List.set_cons_zero, List.set_cons_succ]
      refine wpAnyH_take (i := 2) (v := ?_) rfl (by kernel_rfl) (by kernel_rfl) (by kernel_rfl) (fun _ _ _ h => h) (Or.inl ⟨by rfl, ?_⟩) (by assumption) ?_
      rotate_left
      · (intro W hSw; obtain ⟨s0, s1⟩ := hSw; go_simp; try with_reducible rfl)
      simp only [Act.put, List.getElem_toArray, List.getElem_cons_zero, List.getElem_cons_succ, List.setIfInBounds_toArray, List.set_cons_zero, List.set_cons_succ]
      refine wpAnyH_take (i := 3) (v := _) rfl (by kernel_rfl) (by kernel_rfl) (by kernel_rfl) (fun _ _ _ h => h) (yieldsIf_load_mid (by rfl) 87 _ rfl b (o + k * 19) rfl (rt (nthR rs k)).toList _ (fun W hW => hW.1) rt_desc rfl hi19.out) (by assumption) ?_
      simp only [Act.put, List.getElem_toArray, List.getElem_cons_zero, List.getElem_cons_succ, List.setIfInBounds_toArray, List.set_cons_zero, List.set_cons_succ]
      refine wpAnyH_take (i := 4) (v := ?_) rfl (by kernel_rfl) (by kernel_rfl) (by kernel_rfl) (fun _ _ _ h => h) (Or.inl ⟨by rfl, ?_⟩) (by assumption) ?_
      rotate_left
      · (intro W hSw; obtain ⟨s0, s1⟩ := hSw; go_simp; try with_reducible rfl)
      simp only [Act.put, List.getElem_toArray, List.getElem_cons_zero, List.getElem_cons_succ, List.setIfInBounds_toArray, List.set_cons_zero, List.set_cons_succ]
      refine wpAnyH_take (i := 5) (v := ?_) rfl (by kernel_rfl) (by kernel_rfl) (by kernel_rfl) (fun _ _ _ h => h) (Or.inl ⟨by rfl, ?_⟩) (by assumption) ?_
      rotate_left
      · (intro W hSw; obtain ⟨s0, s1⟩ := hSw; go_simp; try with_reducible rfl)
      simp only [Act.put, List.getElem_toArray, List.getElem_cons_zero, List.getElem_cons_succ, List.setIfInBounds_toArray, List.set_cons_zero, List.set_cons_succ]
      refine wpAnyH_take (i := 6) (v := ?_) rfl (by kernel_rfl) (by kernel_rfl) (by kernel_rfl) (fun _ _ _ h => h) (Or.inl ⟨by rfl, ?_⟩) (by assumption) ?_
      rotate_left
      · (intro W hSw; obtain ⟨s0, s1⟩ := hSw; go_simp; try with_reducible rfl)
      simp only [Act.put, List.getElem_toArray, List.getElem_cons_zero, List.getElem_cons_succ, List.setIfInBounds_toArray, List.set_cons_zero, List.set_cons_succ]
      refine wpAnyH_take (i := 7) (v := _) rfl (by kernel_rfl) (by kernel_rfl) (by kernel_rfl) (fun _ _ _ h => h) (yieldsIf_load_mid (by rfl) 87 _ rfl b' (o' + k * 19) rfl (rt (nthR rs k)).toList _ (fun W hW => hW.2) rt_desc rfl hi19.out) (by assumption) ?_
      simp only [Act.put, List.getElem_toArray, List.getElem_cons_zero, List.getElem_cons_succ, List.setIfInBounds_toArray, List.set_cons_zero, List.set_cons_succ]
      refine wpAnyH_take (i := 8) (v := ?_) rfl (by kernel_rfl) (by kernel_rfl) (by kernel_rfl) (fun _ _ _ h => h) (Or.inl ⟨by rfl, ?_⟩) (by assumption) ?_
      rotate_left
      · (intro W hSw; obtain ⟨s0, s1⟩ := hSw; go_simp; try with_reducible rfl)
      simp only [Act.put, List.getElem_toArray, List.getElem_cons_zero, List.getElem_cons_succ, List.setIfInBounds_toArray, List.set_cons_zero, List.set_cons_succ]
      refine wpAnyH_done (by kernel_rfl) ?_ _
      go_wp2
      go_roundw
      case rel => exact ⟨k + 1, m + 1, by omega, by go_num, rfl⟩
      case measure => simp [intOf]; omega
    · go_wp2
      go_ret
      exact ⟨rfl, bl_drewN (bl_refl w) m⟩
end Go.Proofs.YtmlmgjdjbpipcaaDoor
