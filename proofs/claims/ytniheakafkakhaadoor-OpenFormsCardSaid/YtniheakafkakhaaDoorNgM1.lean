/- XNgM1: XNgA, XNgB, XNgC, XNgD, XNgE, XNgI in one text -/
import Derived.Test.YtniheakafkakhaaDoorCqR
import Derived.Test.YtniheakafkakhaaDoorCpD
import Derived.Deep.DeepCutAuto
/- negotiate: what an end says -/
namespace Go.Proofs.YtniheakafkakhaaDoor
open Go.RowKit

/-- An end in memory: its numbers and its capabilities. -/
def endA (p q r : Int) (A : Option Addr) (n c : Nat) : Array Value := #[.int .u32 p, .int .i64 q, .int .u32 r, .slice A n c]
theorem own_end {w : World} {g : Nat} {T : TypeId} {p q r : Int} {A : Option Addr} {n c : Nat} (h : Own w g T #[.int .u32 p, .int .i64 q, .int .u32 r, .slice A n c]) :
    w.cell? ⟨g, 0, none⟩ = some (.int .u32 p) ∧ w.cell? ⟨g, 1, none⟩ = some (.int .i64 q) ∧ w.cell? ⟨g, 2, none⟩ = some (.int .u32 r) ∧ w.cell? ⟨g, 3, none⟩ = some (.slice A n c) := ⟨h.cell rfl, h.cell rfl, h.cell rfl, h.cell rfl⟩
set_option maxRecDepth 100000 in
theorem end_as4 (p q r : Int) (A : Option Addr) (n c : Nat) (ss : List Cp) (w : World) (h : Caps w w.heap.size A n ss) (hn : n ≤ 1000) :
    Calls Tryd.prog 118 #[.agg #[.int .u32 p, .int .i64 q, .int .u32 r, .slice A n c]] w fun e w' => e = .returned (.bool (sysK (ss.map cpK)).isSome) ∧ Below w.heap.size w w' := by
  have hb0 := bl_alloc (bl_refl w) (.cells #[.int .u32 p, .int .i64 q, .int .u32 r, .slice A n c] 122)
  have o0 := Own.new w 122 #[.int .u32 p, .int .i64 q, .int .u32 r, .slice A n c]
  have HC := Lib.hid (h.step hb0)
  obtain ⟨e0, e1, e2, e3⟩ := own_end o0
  have hK := Lib.hid (csys_any A n c ss _ HC.out (by omega))
  clear h o0
  go_enter Tryd.func118, Tryd.ntmps118
  go_wp2_with fail
  refine hK.out.mono ?_
  rintro e w1 ⟨rfl, hb1⟩
  have hb2 := bl_trans hb0 hb1
  go_wp2
  go_ret
  exact ⟨rfl, hb2⟩
set_option maxRecDepth 100000 in
theorem end_ext (p q r : Int) (A : Option Addr) (n c : Nat) (ss : List Cp) (w : World) (h : Caps w w.heap.size A n ss) (hn : n ≤ 1000) :
    Calls Tryd.prog 119 #[.agg #[.int .u32 p, .int .i64 q, .int .u32 r, .slice A n c]] w fun e w' => e = .returned (.bool (hasK 6 0 (ss.map cpK))) ∧ Below w.heap.size w w' := by
  have hb0 := bl_alloc (bl_refl w) (.cells #[.int .u32 p, .int .i64 q, .int .u32 r, .slice A n c] 122)
  have o0 := Own.new w 122 #[.int .u32 p, .int .i64 q, .int .u32 r, .slice A n c]
  have HC := Lib.hid (h.step hb0)
  obtain ⟨e0, e1, e2, e3⟩ := own_end o0
  have hK := Lib.hid (chas_any 6 0 A n c ss _ HC.out (by omega))
  clear h o0
  go_enter Tryd.func119, Tryd.ntmps119
  go_wp2_with fail
  refine hK.out.mono ?_
  rintro e w1 ⟨rfl, hb1⟩
  have hb2 := bl_trans hb0 hb1
  go_wp2
  go_ret
  exact ⟨rfl, hb2⟩
set_option maxRecDepth 100000 in
theorem end_has (p q r : Int) (A : Option Addr) (n c : Nat) (ss : List Cp) (w : World) (h : Caps w w.heap.size A n ss) (hn : n ≤ 1000) (f : Int) (hfw : (Lit.int .i64 f).wf = true) (hs : ∀ s ∈ ss, s.n ≤ 100000) (hf : Fams w) :
    Calls Tryd.prog 142 #[.agg #[.int .u32 p, .int .i64 q, .int .u32 r, .slice A n c], .int .i64 f] w fun e w' => e = .returned (.bool (famK f (ss.map cpK))) ∧ Below w.heap.size w w' := by
  have hb0 := bl_alloc (bl_refl w) (.cells #[.int .u32 p, .int .i64 q, .int .u32 r, .slice A n c] 122)
  have o0 := Own.new w 122 #[.int .u32 p, .int .i64 q, .int .u32 r, .slice A n c]
  have HC := Lib.hid (h.step hb0)
  obtain ⟨e0, e1, e2, e3⟩ := own_end o0
  have hK := Lib.hid (cfamily_any f hfw A n c ss _ HC.out hn hs (hf.below hb0))
  clear h o0
  go_enter Tryd.func142, Tryd.ntmps142
  go_wp2_with fail
  refine hK.out.mono ?_
  rintro e w1 ⟨rfl, hb1⟩
  have hb2 := bl_trans hb0 hb1
  go_wp2
  go_ret
  exact ⟨rfl, hb2⟩
set_option maxRecDepth 100000 in
theorem end_mode (p q r : Int) (A : Option Addr) (n c : Nat) (ss : List Cp) (w : World) (h : Caps w w.heap.size A n ss) (hn : n ≤ 1000) (f : Int) (hfw : (Lit.int .i64 f).wf = true) (hs : ∀ s ∈ ss, s.n ≤ 100000) (hf : Fams w) :
    Calls Tryd.prog 158 #[.agg #[.int .u32 p, .int .i64 q, .int .u32 r, .slice A n c], .int .i64 f] w fun e w' => e = .returned (.int .i64 (modK f (ss.map cpK))) ∧ Below w.heap.size w w' := by
  have hb0 := bl_alloc (bl_refl w) (.cells #[.int .u32 p, .int .i64 q, .int .u32 r, .slice A n c] 122)
  have o0 := Own.new w 122 #[.int .u32 p, .int .i64 q, .int .u32 r, .slice A n c]
  have HC := Lib.hid (h.step hb0)
  obtain ⟨e0, e1, e2, e3⟩ := own_end o0
  have hK := Lib.hid (cmode_any f hfw A n c ss _ HC.out hn hs (hf.below hb0))
  clear h o0
  go_enter Tryd.func158, Tryd.ntmps158
  go_wp2_with fail
  refine hK.out.mono ?_
  rintro e w1 ⟨rfl, hb1⟩
  have hb2 := bl_trans hb0 hb1
  go_wp2
  go_ret
  exact ⟨rfl, hb2⟩
set_option maxRecDepth 100000 in
theorem end_mp4 (p q r : Int) (A : Option Addr) (n c : Nat) (ss : List Cp) (w : World) (h : Caps w w.heap.size A n ss) (hn : n ≤ 1000) (hs : ∀ s ∈ ss, s.n ≤ 100000) (hf : Fams w) :
    Calls Tryd.prog 120 #[.agg #[.int .u32 p, .int .i64 q, .int .u32 r, .slice A n c]] w fun e w' => e = .returned (.bool (famK 1 (ss.map cpK))) ∧ Below w.heap.size w w' := by
  have hb0 := bl_alloc (bl_refl w) (.cells #[.int .u32 p, .int .i64 q, .int .u32 r, .slice A n c] 122)
  have o0 := Own.new w 122 #[.int .u32 p, .int .i64 q, .int .u32 r, .slice A n c]
  have HC := Lib.hid (h.step hb0)
  obtain ⟨e0, e1, e2, e3⟩ := own_end o0
  have hK := Lib.hid (end_has p q r A n c ss _ HC.out hn 1 rfl hs (hf.below hb0))
  clear h o0
  go_enter Tryd.func120, Tryd.ntmps120
  go_wp2_with fail
  refine hK.out.mono ?_
  rintro e w1 ⟨rfl, hb1⟩
  have hb2 := bl_trans hb0 hb1
  go_wp2
  go_ret
  exact ⟨rfl, hb2⟩
set_option maxRecDepth 100000 in
theorem end_mp6 (p q r : Int) (A : Option Addr) (n c : Nat) (ss : List Cp) (w : World) (h : Caps w w.heap.size A n ss) (hn : n ≤ 1000) (hs : ∀ s ∈ ss, s.n ≤ 100000) (hf : Fams w) :
    Calls Tryd.prog 121 #[.agg #[.int .u32 p, .int .i64 q, .int .u32 r, .slice A n c]] w fun e w' => e = .returned (.bool (famK 2 (ss.map cpK))) ∧ Below w.heap.size w w' := by
  have hb0 := bl_alloc (bl_refl w) (.cells #[.int .u32 p, .int .i64 q, .int .u32 r, .slice A n c] 122)
  have o0 := Own.new w 122 #[.int .u32 p, .int .i64 q, .int .u32 r, .slice A n c]
  have HC := Lib.hid (h.step hb0)
  obtain ⟨e0, e1, e2, e3⟩ := own_end o0
  have hK := Lib.hid (end_has p q r A n c ss _ HC.out hn 2 rfl hs (hf.below hb0))
  clear h o0
  go_enter Tryd.func121, Tryd.ntmps121
  go_wp2_with fail
  refine hK.out.mono ?_
  rintro e w1 ⟨rfl, hb1⟩
  have hb2 := bl_trans hb0 hb1
  go_wp2
  go_ret
  exact ⟨rfl, hb2⟩
def givesB (m : Int) : Bool := m == 2 || m == 3
def takesB (m : Int) : Bool := m == 1 || m == 3
set_option maxRecDepth 100000 in
theorem end_gives (p q r : Int) (A : Option Addr) (n c : Nat) (ss : List Cp) (w : World) (h : Caps w w.heap.size A n ss) (hn : n ≤ 1000) (f : Int) (hfw : (Lit.int .i64 f).wf = true) (hs : ∀ s ∈ ss, s.n ≤ 100000) (hf : Fams w) :
    Calls Tryd.prog 143 #[.agg #[.int .u32 p, .int .i64 q, .int .u32 r, .slice A n c], .int .i64 f] w fun e w' => e = .returned (.bool (givesB (modK f (ss.map cpK)))) ∧ Below w.heap.size w w' := by
  have hb0 := bl_alloc (bl_refl w) (.cells #[.int .u32 p, .int .i64 q, .int .u32 r, .slice A n c] 122)
  have o0 := Own.new w 122 #[.int .u32 p, .int .i64 q, .int .u32 r, .slice A n c]
  have HC := Lib.hid (h.step hb0)
  obtain ⟨e0, e1, e2, e3⟩ := own_end o0
  have HS := Lib.hid hs
  have hK : Hid (∀ W, Below (w.alloc (.cells #[.int .u32 p, .int .i64 q, .int .u32 r, .slice A n c] 122)).heap.size (w.alloc (.cells #[.int .u32 p, .int .i64 q, .int .u32 r, .slice A n c] 122)) W → Calls Tryd.prog 158 #[.agg #[.int .u32 p, .int .i64 q, .int .u32 r, .slice A n c], .int .i64 f] W fun e w' => e = .returned (.int .i64 (modK f (ss.map cpK))) ∧ Below W.heap.size W w') := Lib.hid fun W hb => end_mode p q r A n c ss W (HC.out.step hb) hn f hfw HS.out ((hf.below hb0).below hb)
  unfold givesB
  generalize modK f (ss.map cpK) = m at *
  clear h hs hf
  have e2k : Hid ((m == 2) = true ∨ (m == 2) = false) := Lib.hid (by cases (m == 2) <;> simp)
  rcases e2k.out with hm | hm
  · rw [hm, Bool.true_or]
    go_enter Tryd.func143, Tryd.ntmps143
    go_wp2_with fail
    refine (hK.out _ (bl_refl _)).mono ?_
    rintro e w1 ⟨rfl, hb1⟩
    have hb2 := bl_trans hb0 hb1
    clear e0 e1 e2 e3
    obtain ⟨e0, e1, e2, e3⟩ := own_end (o0.step hb1)
    go_wp2
    go_ret
    exact ⟨rfl, hb2⟩
  · rw [hm, Bool.false_or]
    go_enter Tryd.func143, Tryd.ntmps143
    go_wp2_with fail
    refine (hK.out _ (bl_refl _)).mono ?_
    rintro e w1 ⟨rfl, hb1⟩
    have hb2 := bl_trans hb0 hb1
    clear e0 e1 e2 e3
    obtain ⟨e0, e1, e2, e3⟩ := own_end (o0.step hb1)
    go_wp2_with fail
    refine (hK.out _ hb1).mono ?_
    rintro e w2 ⟨rfl, hb3⟩
    have hb4 := bl_trans hb2 hb3
    go_wp2
    go_ret
    exact ⟨rfl, hb4⟩
set_option maxRecDepth 100000 in
theorem end_takes (p q r : Int) (A : Option Addr) (n c : Nat) (ss : List Cp) (w : World) (h : Caps w w.heap.size A n ss) (hn : n ≤ 1000) (f : Int) (hfw : (Lit.int .i64 f).wf = true) (hs : ∀ s ∈ ss, s.n ≤ 100000) (hf : Fams w) :
    Calls Tryd.prog 144 #[.agg #[.int .u32 p, .int .i64 q, .int .u32 r, .slice A n c], .int .i64 f] w fun e w' => e = .returned (.bool (takesB (modK f (ss.map cpK)))) ∧ Below w.heap.size w w' := by
  have hb0 := bl_alloc (bl_refl w) (.cells #[.int .u32 p, .int .i64 q, .int .u32 r, .slice A n c] 122)
  have o0 := Own.new w 122 #[.int .u32 p, .int .i64 q, .int .u32 r, .slice A n c]
  have HC := Lib.hid (h.step hb0)
  obtain ⟨e0, e1, e2, e3⟩ := own_end o0
  have HS := Lib.hid hs
  have hK : Hid (∀ W, Below (w.alloc (.cells #[.int .u32 p, .int .i64 q, .int .u32 r, .slice A n c] 122)).heap.size (w.alloc (.cells #[.int .u32 p, .int .i64 q, .int .u32 r, .slice A n c] 122)) W → Calls Tryd.prog 158 #[.agg #[.int .u32 p, .int .i64 q, .int .u32 r, .slice A n c], .int .i64 f] W fun e w' => e = .returned (.int .i64 (modK f (ss.map cpK))) ∧ Below W.heap.size W w') := Lib.hid fun W hb => end_mode p q r A n c ss W (HC.out.step hb) hn f hfw HS.out ((hf.below hb0).below hb)
  unfold takesB
  generalize modK f (ss.map cpK) = m at *
  clear h hs hf
  have e2k : Hid ((m == 1) = true ∨ (m == 1) = false) := Lib.hid (by cases (m == 1) <;> simp)
  rcases e2k.out with hm | hm
  · rw [hm, Bool.true_or]
    go_enter Tryd.func144, Tryd.ntmps144
    go_wp2_with fail
    refine (hK.out _ (bl_refl _)).mono ?_
    rintro e w1 ⟨rfl, hb1⟩
    have hb2 := bl_trans hb0 hb1
    clear e0 e1 e2 e3
    obtain ⟨e0, e1, e2, e3⟩ := own_end (o0.step hb1)
    go_wp2
    go_ret
    exact ⟨rfl, hb2⟩
  · rw [hm, Bool.false_or]
    go_enter Tryd.func144, Tryd.ntmps144
    go_wp2_with fail
    refine (hK.out _ (bl_refl _)).mono ?_
    rintro e w1 ⟨rfl, hb1⟩
    have hb2 := bl_trans hb0 hb1
    clear e0 e1 e2 e3
    obtain ⟨e0, e1, e2, e3⟩ := own_end (o0.step hb1)
    go_wp2_with fail
    refine (hK.out _ hb1).mono ?_
    rintro e w2 ⟨rfl, hb3⟩
    have hb4 := bl_trans hb2 hb3
    go_wp2
    go_ret
    exact ⟨rfl, hb4⟩
set_option maxRecDepth 100000 in
theorem end_gives4 (p q r : Int) (A : Option Addr) (n c : Nat) (ss : List Cp) (w : World) (h : Caps w w.heap.size A n ss) (hn : n ≤ 1000) (hs : ∀ s ∈ ss, s.n ≤ 100000) (hf : Fams w) :
    Calls Tryd.prog 122 #[.agg #[.int .u32 p, .int .i64 q, .int .u32 r, .slice A n c]] w fun e w' => e = .returned (.bool (givesB (modK 1 (ss.map cpK)))) ∧ Below w.heap.size w w' := by
  have hb0 := bl_alloc (bl_refl w) (.cells #[.int .u32 p, .int .i64 q, .int .u32 r, .slice A n c] 122)
  have o0 := Own.new w 122 #[.int .u32 p, .int .i64 q, .int .u32 r, .slice A n c]
  have HC := Lib.hid (h.step hb0)
  obtain ⟨e0, e1, e2, e3⟩ := own_end o0
  have hK := Lib.hid (end_gives p q r A n c ss _ HC.out hn 1 rfl hs (hf.below hb0))
  clear h o0
  go_enter Tryd.func122, Tryd.ntmps122
  go_wp2_with fail
  refine hK.out.mono ?_
  rintro e w1 ⟨rfl, hb1⟩
  have hb2 := bl_trans hb0 hb1
  go_wp2
  go_ret
  exact ⟨rfl, hb2⟩
set_option maxRecDepth 100000 in
theorem end_takes4 (p q r : Int) (A : Option Addr) (n c : Nat) (ss : List Cp) (w : World) (h : Caps w w.heap.size A n ss) (hn : n ≤ 1000) (hs : ∀ s ∈ ss, s.n ≤ 100000) (hf : Fams w) :
    Calls Tryd.prog 123 #[.agg #[.int .u32 p, .int .i64 q, .int .u32 r, .slice A n c]] w fun e w' => e = .returned (.bool (takesB (modK 1 (ss.map cpK)))) ∧ Below w.heap.size w w' := by
  have hb0 := bl_alloc (bl_refl w) (.cells #[.int .u32 p, .int .i64 q, .int .u32 r, .slice A n c] 122)
  have o0 := Own.new w 122 #[.int .u32 p, .int .i64 q, .int .u32 r, .slice A n c]
  have HC := Lib.hid (h.step hb0)
  obtain ⟨e0, e1, e2, e3⟩ := own_end o0
  have hK := Lib.hid (end_takes p q r A n c ss _ HC.out hn 1 rfl hs (hf.below hb0))
  clear h o0
  go_enter Tryd.func123, Tryd.ntmps123
  go_wp2_with fail
  refine hK.out.mono ?_
  rintro e w1 ⟨rfl, hb1⟩
  have hb2 := bl_trans hb0 hb1
  go_wp2
  go_ret
  exact ⟨rfl, hb2⟩
set_option maxRecDepth 100000 in
theorem end_gives6 (p q r : Int) (A : Option Addr) (n c : Nat) (ss : List Cp) (w : World) (h : Caps w w.heap.size A n ss) (hn : n ≤ 1000) (hs : ∀ s ∈ ss, s.n ≤ 100000) (hf : Fams w) :
    Calls Tryd.prog 124 #[.agg #[.int .u32 p, .int .i64 q, .int .u32 r, .slice A n c]] w fun e w' => e = .returned (.bool (givesB (modK 2 (ss.map cpK)))) ∧ Below w.heap.size w w' := by
  have hb0 := bl_alloc (bl_refl w) (.cells #[.int .u32 p, .int .i64 q, .int .u32 r, .slice A n c] 122)
  have o0 := Own.new w 122 #[.int .u32 p, .int .i64 q, .int .u32 r, .slice A n c]
  have HC := Lib.hid (h.step hb0)
  obtain ⟨e0, e1, e2, e3⟩ := own_end o0
  have hK := Lib.hid (end_gives p q r A n c ss _ HC.out hn 2 rfl hs (hf.below hb0))
  clear h o0
  go_enter Tryd.func124, Tryd.ntmps124
  go_wp2_with fail
  refine hK.out.mono ?_
  rintro e w1 ⟨rfl, hb1⟩
  have hb2 := bl_trans hb0 hb1
  go_wp2
  go_ret
  exact ⟨rfl, hb2⟩
set_option maxRecDepth 100000 in
theorem end_takes6 (p q r : Int) (A : Option Addr) (n c : Nat) (ss : List Cp) (w : World) (h : Caps w w.heap.size A n ss) (hn : n ≤ 1000) (hs : ∀ s ∈ ss, s.n ≤ 100000) (hf : Fams w) :
    Calls Tryd.prog 125 #[.agg #[.int .u32 p, .int .i64 q, .int .u32 r, .slice A n c]] w fun e w' => e = .returned (.bool (takesB (modK 2 (ss.map cpK)))) ∧ Below w.heap.size w w' := by
  have hb0 := bl_alloc (bl_refl w) (.cells #[.int .u32 p, .int .i64 q, .int .u32 r, .slice A n c] 122)
  have o0 := Own.new w 122 #[.int .u32 p, .int .i64 q, .int .u32 r, .slice A n c]
  have HC := Lib.hid (h.step hb0)
  obtain ⟨e0, e1, e2, e3⟩ := own_end o0
  have hK := Lib.hid (end_takes p q r A n c ss _ HC.out hn 2 rfl hs (hf.below hb0))
  clear h o0
  go_enter Tryd.func125, Tryd.ntmps125
  go_wp2_with fail
  refine hK.out.mono ?_
  rintro e w1 ⟨rfl, hb1⟩
  have hb2 := bl_trans hb0 hb1
  go_wp2
  go_ret
  exact ⟨rfl, hb2⟩
end Go.Proofs.YtniheakafkakhaaDoor

/- negotiate.toward -/
namespace Go.Proofs.YtniheakafkakhaaDoor
open Go.RowKit

/-- The options of one direction. -/
def towK (K M : List (Int × List Int)) : Array Value := #[.bool ((sysK K).isSome && (sysK M).isSome), .bool (hasK 6 0 K && hasK 6 0 M), .bool (famK 1 K && famK 1 M), .bool (famK 2 K && famK 2 M), .bool (givesB (modK 1 K) && takesB (modK 1 M)), .bool ((givesB (modK 2 K) && takesB (modK 2 M)) && (famK 2 K && famK 2 M))]
def fndA (x0 x1 x2 x3 x4 x5 : Bool) : Nat → Array Value
  | 0 => #[.bool false, .bool false, .bool false, .bool false, .bool false, .bool false]
  | 1 => #[.bool x0, .bool false, .bool false, .bool false, .bool false, .bool false]
  | 2 => #[.bool x0, .bool x1, .bool false, .bool false, .bool false, .bool false]
  | 3 => #[.bool x0, .bool x1, .bool x2, .bool false, .bool false, .bool false]
  | 4 => #[.bool x0, .bool x1, .bool x2, .bool x3, .bool false, .bool false]
  | 5 => #[.bool x0, .bool x1, .bool x2, .bool x3, .bool x4, .bool false]
  | _ => #[.bool x0, .bool x1, .bool x2, .bool x3, .bool x4, .bool x5]
theorem own_six {w : World} {g : Nat} {T : TypeId} {a0 a1 a2 a3 a4 a5 : Value} (h : Own w g T #[a0, a1, a2, a3, a4, a5]) :
    w.cell? ⟨g, 0, none⟩ = some a0 ∧ w.cell? ⟨g, 1, none⟩ = some a1 ∧ w.cell? ⟨g, 2, none⟩ = some a2 ∧ w.cell? ⟨g, 3, none⟩ = some a3 ∧ w.cell? ⟨g, 4, none⟩ = some a4 ∧ w.cell? ⟨g, 5, none⟩ = some a5 := ⟨h.cell rfl, h.cell rfl, h.cell rfl, h.cell rfl, h.cell rfl, h.cell rfl⟩
theorem own_twoF {w : World} {g : Nat} {T : TypeId} {a0 a1 : Value} (h : Own w g T #[a0, a1]) : w.cell? ⟨g, 0, none⟩ = some a0 ∧ w.cell? ⟨g, 1, none⟩ = some a1 := ⟨h.cell rfl, h.cell rfl⟩
theorem five_boxesN (w : World) (c0 c1 c2 c3 c4 : Array Value) (t0 t1 t2 t3 t4 : TypeId) : ∃ W, W = (((((w.alloc (.cells c0 t0)).alloc (.cells c1 t1)).alloc (.cells c2 t2)).alloc (.cells c3 t3)).alloc (.cells c4 t4)) ∧ Own W w.heap.size t0 c0 ∧ Own W (w.heap.size + 1) t1 c1 ∧ Own W (w.heap.size + 1 + 1) t2 c2 ∧ Own W (w.heap.size + 1 + 1 + 1) t3 c3 ∧ Own W (w.heap.size + 1 + 1 + 1 + 1) t4 c4 ∧ Below w.heap.size w W ∧ W.heap.size = w.heap.size + 1 + 1 + 1 + 1 + 1 := by
  have s1 : (w.alloc (.cells c0 t0)).heap.size = w.heap.size + 1 := by simp
  have s2 : ((w.alloc (.cells c0 t0)).alloc (.cells c1 t1)).heap.size = w.heap.size + 1 + 1 := by simp
  have s3 : (((w.alloc (.cells c0 t0)).alloc (.cells c1 t1)).alloc (.cells c2 t2)).heap.size = w.heap.size + 1 + 1 + 1 := by simp
  have s4 : ((((w.alloc (.cells c0 t0)).alloc (.cells c1 t1)).alloc (.cells c2 t2)).alloc (.cells c3 t3)).heap.size = w.heap.size + 1 + 1 + 1 + 1 := by simp
  have o1 := Own.new (w.alloc (.cells c0 t0)) t1 c1
  have o2 := Own.new ((w.alloc (.cells c0 t0)).alloc (.cells c1 t1)) t2 c2
  have o3 := Own.new (((w.alloc (.cells c0 t0)).alloc (.cells c1 t1)).alloc (.cells c2 t2)) t3 c3
  have o4 := Own.new ((((w.alloc (.cells c0 t0)).alloc (.cells c1 t1)).alloc (.cells c2 t2)).alloc (.cells c3 t3)) t4 c4
  rw [s1] at o1
  rw [s2] at o2
  rw [s3] at o3
  rw [s4] at o4
  exact ⟨_, rfl, (((((Own.new w t0 c0).alloc _).alloc _).alloc _).alloc _), ((o1.alloc _).alloc _).alloc _, (o2.alloc _).alloc _, o3.alloc _, o4, bl_alloc (bl_alloc (bl_alloc (bl_alloc (bl_alloc (bl_refl w) _) _) _) _) _, by simp⟩
set_option maxRecDepth 100000 in
theorem opt_descN : Tryd.prog.underlying 23 = some (.struct (Tryd.prog.fieldsOf 23)) := by kernel_rfl
set_option maxRecDepth 100000 in
theorem opt_infoN (a b c d e f : Value) : (Tryd.prog.info? 23).map (·.size) = some (#[a, b, c, d, e, f] : Array Value).size := by kernel_rfl
theorem results_cell1N {P : Program} {fn : Func} {p : Tmp} {ty : TypeId} (h : fn.results = #[.cell p ty]) (tmps : Array Value) (w : World) (g : Nat) (T : TypeId) (cs : Array Value) (d : TypeDesc)
    (hp : tmps.getD p undef = .pointer (some ⟨g, 0, none⟩)) (hg : Own w g T cs) (hu : P.underlying ty = some d) (hd : (match d with | .struct _ | .array _ _ => true | _ => false) = true) (hi : (P.info? ty).map (·.size) = some cs.size) :
    (results fn tmps).run P w = .ok (.agg cs) w := by
  have hp' : tmps[p]?.getD undef = .pointer (some ⟨g, 0, none⟩) := by simpa using hp
  simp [results, h, hp', asAddr, run_loadVar_row w g T ty cs (0, 0) d hg hu hd hi]
@[go_sem] theorem run_store_fnN (P : Program) (w : World) (a : Addr) (f : Fn) (ts cs : Array Value) (m : Mode) : (store a (.func f ts cs) m).run P w = stored P w a (.func f ts cs) m := run_store P w a _ m rfl
set_option maxRecDepth 100000 in
theorem nidx0 (W : World) : (Instr.index 159 (.agg #[.func (.func 118) #[] #[], .func (.func 118) #[] #[], .func (.func 119) #[] #[], .func (.func 119) #[] #[], .func (.func 120) #[] #[], .func (.func 120) #[] #[], .func (.func 121) #[] #[], .func (.func 121) #[] #[], .func (.func 122) #[] #[], .func (.func 123) #[] #[], .func (.func 124) #[] #[], .func (.func 125) #[] #[]]) (.int .i64 0)).run Tryd.prog W = .ok (.agg #[.func (.func 118) #[] #[], .func (.func 118) #[] #[]]) W := by kernel_rfl
set_option maxRecDepth 100000 in
theorem nidx1 (W : World) : (Instr.index 159 (.agg #[.func (.func 118) #[] #[], .func (.func 118) #[] #[], .func (.func 119) #[] #[], .func (.func 119) #[] #[], .func (.func 120) #[] #[], .func (.func 120) #[] #[], .func (.func 121) #[] #[], .func (.func 121) #[] #[], .func (.func 122) #[] #[], .func (.func 123) #[] #[], .func (.func 124) #[] #[], .func (.func 125) #[] #[]]) (.int .i64 1)).run Tryd.prog W = .ok (.agg #[.func (.func 119) #[] #[], .func (.func 119) #[] #[]]) W := by kernel_rfl
set_option maxRecDepth 100000 in
theorem nidx2 (W : World) : (Instr.index 159 (.agg #[.func (.func 118) #[] #[], .func (.func 118) #[] #[], .func (.func 119) #[] #[], .func (.func 119) #[] #[], .func (.func 120) #[] #[], .func (.func 120) #[] #[], .func (.func 121) #[] #[], .func (.func 121) #[] #[], .func (.func 122) #[] #[], .func (.func 123) #[] #[], .func (.func 124) #[] #[], .func (.func 125) #[] #[]]) (.int .i64 2)).run Tryd.prog W = .ok (.agg #[.func (.func 120) #[] #[], .func (.func 120) #[] #[]]) W := by kernel_rfl
set_option maxRecDepth 100000 in
theorem nidx3 (W : World) : (Instr.index 159 (.agg #[.func (.func 118) #[] #[], .func (.func 118) #[] #[], .func (.func 119) #[] #[], .func (.func 119) #[] #[], .func (.func 120) #[] #[], .func (.func 120) #[] #[], .func (.func 121) #[] #[], .func (.func 121) #[] #[], .func (.func 122) #[] #[], .func (.func 123) #[] #[], .func (.func 124) #[] #[], .func (.func 125) #[] #[]]) (.int .i64 3)).run Tryd.prog W = .ok (.agg #[.func (.func 121) #[] #[], .func (.func 121) #[] #[]]) W := by kernel_rfl
set_option maxRecDepth 100000 in
theorem nidx4 (W : World) : (Instr.index 159 (.agg #[.func (.func 118) #[] #[], .func (.func 118) #[] #[], .func (.func 119) #[] #[], .func (.func 119) #[] #[], .func (.func 120) #[] #[], .func (.func 120) #[] #[], .func (.func 121) #[] #[], .func (.func 121) #[] #[], .func (.func 122) #[] #[], .func (.func 123) #[] #[], .func (.func 124) #[] #[], .func (.func 125) #[] #[]]) (.int .i64 4)).run Tryd.prog W = .ok (.agg #[.func (.func 122) #[] #[], .func (.func 123) #[] #[]]) W := by kernel_rfl
set_option maxRecDepth 100000 in
theorem nidx5 (W : World) : (Instr.index 159 (.agg #[.func (.func 118) #[] #[], .func (.func 118) #[] #[], .func (.func 119) #[] #[], .func (.func 119) #[] #[], .func (.func 120) #[] #[], .func (.func 120) #[] #[], .func (.func 121) #[] #[], .func (.func 121) #[] #[], .func (.func 122) #[] #[], .func (.func 123) #[] #[], .func (.func 124) #[] #[], .func (.func 125) #[] #[]]) (.int .i64 5)).run Tryd.prog W = .ok (.agg #[.func (.func 124) #[] #[], .func (.func 125) #[] #[]]) W := by kernel_rfl
set_option maxRecDepth 100000 in
set_option maxHeartbeats 12800000 in
theorem toward_any (p q r : Int) (A : Option Addr) (n c : Nat) (p' q' r' : Int) (A' : Option Addr) (n' c' : Nat) (ss ts : List Cp) (w : World) (h : Caps w w.heap.size A n ss) (h' : Caps w w.heap.size A' n' ts) (hn : n ≤ 1000) (hn' : n' ≤ 1000) (hs : ∀ s ∈ ss, s.n ≤ 100000) (hs' : ∀ s ∈ ts, s.n ≤ 100000) (hf : Fams w) :
    Calls Tryd.prog 89 #[.agg #[.int .u32 p, .int .i64 q, .int .u32 r, .slice A n c], .agg #[.int .u32 p', .int .i64 q', .int .u32 r', .slice A' n' c']] w fun e w' => e = .returned (.agg (towK (ss.map cpK) (ts.map cpK))) ∧ Below w.heap.size w w' := by
  have HA := Lib.hid h
  have HB := Lib.hid h'
  have HAn := Lib.hid hn
  have HBn := Lib.hid hn'
  have HAs := Lib.hid hs
  have HBs := Lib.hid hs'
  have hl0 : Hid (∀ W, Below w.heap.size w W → Calls Tryd.prog 118 #[.agg #[.int .u32 p, .int .i64 q, .int .u32 r, .slice A n c]] W fun e w' => e = .returned (.bool ((sysK (ss.map cpK)).isSome)) ∧ Below W.heap.size W w') := Lib.hid fun W hb => end_as4 p q r A n c ss W (HA.out.step hb) HAn.out
  have hr0 : Hid (∀ W, Below w.heap.size w W → Calls Tryd.prog 118 #[.agg #[.int .u32 p', .int .i64 q', .int .u32 r', .slice A' n' c']] W fun e w' => e = .returned (.bool ((sysK (ts.map cpK)).isSome)) ∧ Below W.heap.size W w') := Lib.hid fun W hb => end_as4 p' q' r' A' n' c' ts W (HB.out.step hb) HBn.out
  have hl1 : Hid (∀ W, Below w.heap.size w W → Calls Tryd.prog 119 #[.agg #[.int .u32 p, .int .i64 q, .int .u32 r, .slice A n c]] W fun e w' => e = .returned (.bool (hasK 6 0 (ss.map cpK))) ∧ Below W.heap.size W w') := Lib.hid fun W hb => end_ext p q r A n c ss W (HA.out.step hb) HAn.out
  have hr1 : Hid (∀ W, Below w.heap.size w W → Calls Tryd.prog 119 #[.agg #[.int .u32 p', .int .i64 q', .int .u32 r', .slice A' n' c']] W fun e w' => e = .returned (.bool (hasK 6 0 (ts.map cpK))) ∧ Below W.heap.size W w') := Lib.hid fun W hb => end_ext p' q' r' A' n' c' ts W (HB.out.step hb) HBn.out
  have hl2 : Hid (∀ W, Below w.heap.size w W → Calls Tryd.prog 120 #[.agg #[.int .u32 p, .int .i64 q, .int .u32 r, .slice A n c]] W fun e w' => e = .returned (.bool (famK 1 (ss.map cpK))) ∧ Below W.heap.size W w') := Lib.hid fun W hb => end_mp4 p q r A n c ss W (HA.out.step hb) HAn.out HAs.out (hf.below hb)
  have hr2 : Hid (∀ W, Below w.heap.size w W → Calls Tryd.prog 120 #[.agg #[.int .u32 p', .int .i64 q', .int .u32 r', .slice A' n' c']] W fun e w' => e = .returned (.bool (famK 1 (ts.map cpK))) ∧ Below W.heap.size W w') := Lib.hid fun W hb => end_mp4 p' q' r' A' n' c' ts W (HB.out.step hb) HBn.out HBs.out (hf.below hb)
  have hl3 : Hid (∀ W, Below w.heap.size w W → Calls Tryd.prog 121 #[.agg #[.int .u32 p, .int .i64 q, .int .u32 r, .slice A n c]] W fun e w' => e = .returned (.bool (famK 2 (ss.map cpK))) ∧ Below W.heap.size W w') := Lib.hid fun W hb => end_mp6 p q r A n c ss W (HA.out.step hb) HAn.out HAs.out (hf.below hb)
  have hr3 : Hid (∀ W, Below w.heap.size w W → Calls Tryd.prog 121 #[.agg #[.int .u32 p', .int .i64 q', .int .u32 r', .slice A' n' c']] W fun e w' => e = .returned (.bool (famK 2 (ts.map cpK))) ∧ Below W.heap.size W w') := Lib.hid fun W hb => end_mp6 p' q' r' A' n' c' ts W (HB.out.step hb) HBn.out HBs.out (hf.below hb)
  have hl4 : Hid (∀ W, Below w.heap.size w W → Calls Tryd.prog 122 #[.agg #[.int .u32 p, .int .i64 q, .int .u32 r, .slice A n c]] W fun e w' => e = .returned (.bool (givesB (modK 1 (ss.map cpK)))) ∧ Below W.heap.size W w') := Lib.hid fun W hb => end_gives4 p q r A n c ss W (HA.out.step hb) HAn.out HAs.out (hf.below hb)
  have hr4 : Hid (∀ W, Below w.heap.size w W → Calls Tryd.prog 123 #[.agg #[.int .u32 p', .int .i64 q', .int .u32 r', .slice A' n' c']] W fun e w' => e = .returned (.bool (takesB (modK 1 (ts.map cpK)))) ∧ Below W.heap.size W w') := Lib.hid fun W hb => end_takes4 p' q' r' A' n' c' ts W (HB.out.step hb) HBn.out HBs.out (hf.below hb)
  have hl5 : Hid (∀ W, Below w.heap.size w W → Calls Tryd.prog 124 #[.agg #[.int .u32 p, .int .i64 q, .int .u32 r, .slice A n c]] W fun e w' => e = .returned (.bool (givesB (modK 2 (ss.map cpK)))) ∧ Below W.heap.size W w') := Lib.hid fun W hb => end_gives6 p q r A n c ss W (HA.out.step hb) HAn.out HAs.out (hf.below hb)
  have hr5 : Hid (∀ W, Below w.heap.size w W → Calls Tryd.prog 125 #[.agg #[.int .u32 p', .int .i64 q', .int .u32 r', .slice A' n' c']] W fun e w' => e = .returned (.bool (takesB (modK 2 (ts.map cpK)))) ∧ Below W.heap.size W w') := Lib.hid fun W hb => end_takes6 p' q' r' A' n' c' ts W (HB.out.step hb) HBn.out HBs.out (hf.below hb)
  unfold towK
  generalize (sysK (ss.map cpK)).isSome = l0 at *
  generalize hasK 6 0 (ss.map cpK) = l1 at *
  generalize famK 1 (ss.map cpK) = l2 at *
  generalize famK 2 (ss.map cpK) = l3 at *
  generalize givesB (modK 1 (ss.map cpK)) = l4 at *
  generalize givesB (modK 2 (ss.map cpK)) = l5 at *
  generalize (sysK (ts.map cpK)).isSome = r0 at *
  generalize hasK 6 0 (ts.map cpK) = r1 at *
  generalize famK 1 (ts.map cpK) = r2 at *
  generalize famK 2 (ts.map cpK) = r3 at *
  generalize takesB (modK 1 (ts.map cpK)) = r4 at *
  generalize takesB (modK 2 (ts.map cpK)) = r5 at *
  clear h h' hn hn' hs hs' hf HA HB HAn HBn HAs HBs
  obtain ⟨X, hX, oA, oB, oR, oT, oF, hbX, hXs⟩ := five_boxesN w #[.int .u32 p, .int .i64 q, .int .u32 r, .slice A n c] #[.int .u32 p', .int .i64 q', .int .u32 r', .slice A' n' c'] #[.bool false, .bool false, .bool false, .bool false, .bool false, .bool false] #[.func (.func 118) #[] #[], .func (.func 118) #[] #[], .func (.func 119) #[] #[], .func (.func 119) #[] #[], .func (.func 120) #[] #[], .func (.func 120) #[] #[], .func (.func 121) #[] #[], .func (.func 121) #[] #[], .func (.func 122) #[] #[], .func (.func 123) #[] #[], .func (.func 124) #[] #[], .func (.func 125) #[] #[]] #[.bool false, .bool false, .bool false, .bool false, .bool false, .bool false] 122 122 23 159 160
  go_enter Tryd.func89, Tryd.ntmps89
  go_wp2_with fail
  rw [← hX]
  clear hX oT
  go_loopw [7, 8, 17] (fun _ _ i wr => ∃ j : Nat, j ≤ 6 ∧ i = .int .i64 j ∧ Own wr (w.heap.size) 122 #[.int .u32 p, .int .i64 q, .int .u32 r, .slice A n c] ∧ Own wr (w.heap.size + 1) 122 #[.int .u32 p', .int .i64 q', .int .u32 r', .slice A' n' c'] ∧ Own wr (w.heap.size + 1 + 1) 23 #[.bool false, .bool false, .bool false, .bool false, .bool false, .bool false] ∧ Own wr (w.heap.size + 1 + 1 + 1 + 1) 160 (fndA (l0 && r0) (l1 && r1) (l2 && r2) (l3 && r3) (l4 && r4) (l5 && r5) j) ∧ Below w.heap.size w wr) (fun _ _ i _ => 6 - (intOf i).toNat)
  case atStart => exact ⟨0, by omega, rfl, oA, oB, oR, oF, hbX⟩
  case round =>
    obtain ⟨j, hj, rfl, oA, oB, oR, oF, hb⟩ := hrel
    clear hbX
    have hbs := hb.size
    rcases j with _ | _ | _ | _ | _ | _ | j
    · have oF0 : Own wr (w.heap.size + 1 + 1 + 1 + 1) 160 #[.bool false, .bool false, .bool false, .bool false, .bool false, .bool false] := oF
      obtain ⟨f0, f1, f2, f3, f4, f5⟩ := own_six oF0
      obtain ⟨a0, a1, a2, a3⟩ := own_end oA
      obtain ⟨b0, b1, b2, b3⟩ := own_end oB
      have hb1 := bl_alloc hb (.cells #[.func (.func 118) #[] #[], .func (.func 118) #[] #[]] 158)
      have oA1 := oA.alloc (.cells #[.func (.func 118) #[] #[], .func (.func 118) #[] #[]] 158)
      have oB1 := oB.alloc (.cells #[.func (.func 118) #[] #[], .func (.func 118) #[] #[]] 158)
      have oR1 := oR.alloc (.cells #[.func (.func 118) #[] #[], .func (.func 118) #[] #[]] 158)
      have oF1 := oF0.alloc (.cells #[.func (.func 118) #[] #[], .func (.func 118) #[] #[]] 158)
      have oX1 := Own.new wr 158 #[.func (.func 118) #[] #[], .func (.func 118) #[] #[]]
      have hidx := nidx0
      have hA0 := oA.lt
      have hB0 := oB.lt
      have hF0 := oF0.lt
      clear oA oB oR oF oF0 hb
      go_wp2_with fail
      go_at_call 118
      refine (hl0.out _ hb1).mono ?_
      rintro e w2 ⟨rfl, hb2⟩
      have hb3 := bl_trans hb1 hb2
      have hbs2 := hb3.size
      have oA2 := oA1.step hb2
      have oB2 := oB1.step hb2
      have oR2 := oR1.step hb2
      have oF2 := oF1.step hb2
      have oX2 := oX1.step hb2
      clear hA0 hB0 hF0 f0 f1 f2 f3 f4 f5 a0 a1 a2 a3 b0 b1 b2 b3 oA1 oB1 oR1 oF1 oX1
      obtain ⟨f0, f1, f2, f3, f4, f5⟩ := own_six oF2
      obtain ⟨b0, b1, b2, b3⟩ := own_end oB2
      obtain ⟨x0, x1⟩ := own_twoF oX2
      have z0 := oF2.frozen 0
      cases l0
      · go_wp2
        go_roundw
        case rel =>
          have := oF2.set_ 0 (.bool false)
          exact ⟨1, by omega, by go_num, oA2.far (by show _ ≠ _; simp <;> omega) _, oB2.far (by show _ ≠ _; simp <;> omega) _, oR2.far (by show _ ≠ _; simp <;> omega) _, this, hb3.setCell (by show _ ≤ _; simp <;> omega) _⟩
        case measure => simp [intOf]
      · go_wp2_with fail
        go_at_call 118
        refine (hr0.out _ hb3).mono ?_
        rintro e w3 ⟨rfl, hb4⟩
        have hb5 := bl_trans hb3 hb4
        have hbs3 := hb5.size
        have oA3 := oA2.step hb4
        have oB3 := oB2.step hb4
        have oR3 := oR2.step hb4
        have oF3 := oF2.step hb4
        have oX3 := oX2.step hb4
        clear f0 f1 f2 f3 f4 f5 b0 b1 b2 b3 x0 x1 z0
        obtain ⟨f0, f1, f2, f3, f4, f5⟩ := own_six oF3
        have z0 := oF3.frozen 0
        go_wp2
        go_roundw
        case rel =>
          have := oF3.set_ 0 (.bool r0)
          exact ⟨1, by omega, by go_num, oA3.far (by show _ ≠ _; simp <;> omega) _, oB3.far (by show _ ≠ _; simp <;> omega) _, oR3.far (by show _ ≠ _; simp <;> omega) _, this, hb5.setCell (by show _ ≤ _; simp <;> omega) _⟩
        case measure => simp [intOf]
    · have oF0 : Own wr (w.heap.size + 1 + 1 + 1 + 1) 160 #[.bool (l0 && r0), .bool false, .bool false, .bool false, .bool false, .bool false] := oF
      obtain ⟨f0, f1, f2, f3, f4, f5⟩ := own_six oF0
      obtain ⟨a0, a1, a2, a3⟩ := own_end oA
      obtain ⟨b0, b1, b2, b3⟩ := own_end oB
      have hb1 := bl_alloc hb (.cells #[.func (.func 119) #[] #[], .func (.func 119) #[] #[]] 158)
      have oA1 := oA.alloc (.cells #[.func (.func 119) #[] #[], .func (.func 119) #[] #[]] 158)
      have oB1 := oB.alloc (.cells #[.func (.func 119) #[] #[], .func (.func 119) #[] #[]] 158)
      have oR1 := oR.alloc (.cells #[.func (.func 119) #[] #[], .func (.func 119) #[] #[]] 158)
      have oF1 := oF0.alloc (.cells #[.func (.func 119) #[] #[], .func (.func 119) #[] #[]] 158)
      have oX1 := Own.new wr 158 #[.func (.func 119) #[] #[], .func (.func 119) #[] #[]]
      have hidx := nidx1
      have hA0 := oA.lt
      have hB0 := oB.lt
      have hF0 := oF0.lt
      clear oA oB oR oF oF0 hb
      go_wp2_with fail
      go_at_call 119
      refine (hl1.out _ hb1).mono ?_
      rintro e w2 ⟨rfl, hb2⟩
      have hb3 := bl_trans hb1 hb2
      have hbs2 := hb3.size
      have oA2 := oA1.step hb2
      have oB2 := oB1.step hb2
      have oR2 := oR1.step hb2
      have oF2 := oF1.step hb2
      have oX2 := oX1.step hb2
      clear hA0 hB0 hF0 f0 f1 f2 f3 f4 f5 a0 a1 a2 a3 b0 b1 b2 b3 oA1 oB1 oR1 oF1 oX1
      obtain ⟨f0, f1, f2, f3, f4, f5⟩ := own_six oF2
      obtain ⟨b0, b1, b2, b3⟩ := own_end oB2
      obtain ⟨x0, x1⟩ := own_twoF oX2
      have z0 := oF2.frozen 1
      cases l1
      · go_wp2
        go_roundw
        case rel =>
          have := oF2.set_ 1 (.bool false)
          exact ⟨2, by omega, by go_num, oA2.far (by show _ ≠ _; simp <;> omega) _, oB2.far (by show _ ≠ _; simp <;> omega) _, oR2.far (by show _ ≠ _; simp <;> omega) _, this, hb3.setCell (by show _ ≤ _; simp <;> omega) _⟩
        case measure => simp [intOf]
      · go_wp2_with fail
        go_at_call 119
        refine (hr1.out _ hb3).mono ?_
        rintro e w3 ⟨rfl, hb4⟩
        have hb5 := bl_trans hb3 hb4
        have hbs3 := hb5.size
        have oA3 := oA2.step hb4
        have oB3 := oB2.step hb4
        have oR3 := oR2.step hb4
        have oF3 := oF2.step hb4
        have oX3 := oX2.step hb4
        clear f0 f1 f2 f3 f4 f5 b0 b1 b2 b3 x0 x1 z0
        obtain ⟨f0, f1, f2, f3, f4, f5⟩ := own_six oF3
        have z0 := oF3.frozen 1
        go_wp2
        go_roundw
        case rel =>
          have := oF3.set_ 1 (.bool r1)
          exact ⟨2, by omega, by go_num, oA3.far (by show _ ≠ _; simp <;> omega) _, oB3.far (by show _ ≠ _; simp <;> omega) _, oR3.far (by show _ ≠ _; simp <;> omega) _, this, hb5.setCell (by show _ ≤ _; simp <;> omega) _⟩
        case measure => simp [intOf]
    · have oF0 : Own wr (w.heap.size + 1 + 1 + 1 + 1) 160 #[.bool (l0 && r0), .bool (l1 && r1), .bool false, .bool false, .bool false, .bool false] := oF
      obtain ⟨f0, f1, f2, f3, f4, f5⟩ := own_six oF0
      obtain ⟨a0, a1, a2, a3⟩ := own_end oA
      obtain ⟨b0, b1, b2, b3⟩ := own_end oB
      have hb1 := bl_alloc hb (.cells #[.func (.func 120) #[] #[], .func (.func 120) #[] #[]] 158)
      have oA1 := oA.alloc (.cells #[.func (.func 120) #[] #[], .func (.func 120) #[] #[]] 158)
      have oB1 := oB.alloc (.cells #[.func (.func 120) #[] #[], .func (.func 120) #[] #[]] 158)
      have oR1 := oR.alloc (.cells #[.func (.func 120) #[] #[], .func (.func 120) #[] #[]] 158)
      have oF1 := oF0.alloc (.cells #[.func (.func 120) #[] #[], .func (.func 120) #[] #[]] 158)
      have oX1 := Own.new wr 158 #[.func (.func 120) #[] #[], .func (.func 120) #[] #[]]
      have hidx := nidx2
      have hA0 := oA.lt
      have hB0 := oB.lt
      have hF0 := oF0.lt
      clear oA oB oR oF oF0 hb
      go_wp2_with fail
      go_at_call 120
      refine (hl2.out _ hb1).mono ?_
      rintro e w2 ⟨rfl, hb2⟩
      have hb3 := bl_trans hb1 hb2
      have hbs2 := hb3.size
      have oA2 := oA1.step hb2
      have oB2 := oB1.step hb2
      have oR2 := oR1.step hb2
      have oF2 := oF1.step hb2
      have oX2 := oX1.step hb2
      clear hA0 hB0 hF0 f0 f1 f2 f3 f4 f5 a0 a1 a2 a3 b0 b1 b2 b3 oA1 oB1 oR1 oF1 oX1
      obtain ⟨f0, f1, f2, f3, f4, f5⟩ := own_six oF2
      obtain ⟨b0, b1, b2, b3⟩ := own_end oB2
      obtain ⟨x0, x1⟩ := own_twoF oX2
      have z0 := oF2.frozen 2
      cases l2
      · go_wp2
        go_roundw
        case rel =>
          have := oF2.set_ 2 (.bool false)
          exact ⟨3, by omega, by go_num, oA2.far (by show _ ≠ _; simp <;> omega) _, oB2.far (by show _ ≠ _; simp <;> omega) _, oR2.far (by show _ ≠ _; simp <;> omega) _, this, hb3.setCell (by show _ ≤ _; simp <;> omega) _⟩
        case measure => simp [intOf]
      · go_wp2_with fail
        go_at_call 120
        refine (hr2.out _ hb3).mono ?_
        rintro e w3 ⟨rfl, hb4⟩
        have hb5 := bl_trans hb3 hb4
        have hbs3 := hb5.size
        have oA3 := oA2.step hb4
        have oB3 := oB2.step hb4
        have oR3 := oR2.step hb4
        have oF3 := oF2.step hb4
        have oX3 := oX2.step hb4
        clear f0 f1 f2 f3 f4 f5 b0 b1 b2 b3 x0 x1 z0
        obtain ⟨f0, f1, f2, f3, f4, f5⟩ := own_six oF3
        have z0 := oF3.frozen 2
        go_wp2
        go_roundw
        case rel =>
          have := oF3.set_ 2 (.bool r2)
          exact ⟨3, by omega, by go_num, oA3.far (by show _ ≠ _; simp <;> omega) _, oB3.far (by show _ ≠ _; simp <;> omega) _, oR3.far (by show _ ≠ _; simp <;> omega) _, this, hb5.setCell (by show _ ≤ _; simp <;> omega) _⟩
        case measure => simp [intOf]
    · have oF0 : Own wr (w.heap.size + 1 + 1 + 1 + 1) 160 #[.bool (l0 && r0), .bool (l1 && r1), .bool (l2 && r2), .bool false, .bool false, .bool false] := oF
      obtain ⟨f0, f1, f2, f3, f4, f5⟩ := own_six oF0
      obtain ⟨a0, a1, a2, a3⟩ := own_end oA
      obtain ⟨b0, b1, b2, b3⟩ := own_end oB
      have hb1 := bl_alloc hb (.cells #[.func (.func 121) #[] #[], .func (.func 121) #[] #[]] 158)
      have oA1 := oA.alloc (.cells #[.func (.func 121) #[] #[], .func (.func 121) #[] #[]] 158)
      have oB1 := oB.alloc (.cells #[.func (.func 121) #[] #[], .func (.func 121) #[] #[]] 158)
      have oR1 := oR.alloc (.cells #[.func (.func 121) #[] #[], .func (.func 121) #[] #[]] 158)
      have oF1 := oF0.alloc (.cells #[.func (.func 121) #[] #[], .func (.func 121) #[] #[]] 158)
      have oX1 := Own.new wr 158 #[.func (.func 121) #[] #[], .func (.func 121) #[] #[]]
      have hidx := nidx3
      have hA0 := oA.lt
      have hB0 := oB.lt
      have hF0 := oF0.lt
      clear oA oB oR oF oF0 hb
      go_wp2_with fail
      go_at_call 121
      refine (hl3.out _ hb1).mono ?_
      rintro e w2 ⟨rfl, hb2⟩
      have hb3 := bl_trans hb1 hb2
      have hbs2 := hb3.size
      have oA2 := oA1.step hb2
      have oB2 := oB1.step hb2
      have oR2 := oR1.step hb2
      have oF2 := oF1.step hb2
      have oX2 := oX1.step hb2
      clear hA0 hB0 hF0 f0 f1 f2 f3 f4 f5 a0 a1 a2 a3 b0 b1 b2 b3 oA1 oB1 oR1 oF1 oX1
      obtain ⟨f0, f1, f2, f3, f4, f5⟩ := own_six oF2
      obtain ⟨b0, b1, b2, b3⟩ := own_end oB2
      obtain ⟨x0, x1⟩ := own_twoF oX2
      have z0 := oF2.frozen 3
      cases l3
      · go_wp2
        go_roundw
        case rel =>
          have := oF2.set_ 3 (.bool false)
          exact ⟨4, by omega, by go_num, oA2.far (by show _ ≠ _; simp <;> omega) _, oB2.far (by show _ ≠ _; simp <;> omega) _, oR2.far (by show _ ≠ _; simp <;> omega) _, this, hb3.setCell (by show _ ≤ _; simp <;> omega) _⟩
        case measure => simp [intOf]
      · go_wp2_with fail
        go_at_call 121
        refine (hr3.out _ hb3).mono ?_
        rintro e w3 ⟨rfl, hb4⟩
        have hb5 := bl_trans hb3 hb4
        have hbs3 := hb5.size
        have oA3 := oA2.step hb4
        have oB3 := oB2.step hb4
        have oR3 := oR2.step hb4
        have oF3 := oF2.step hb4
        have oX3 := oX2.step hb4
        clear f0 f1 f2 f3 f4 f5 b0 b1 b2 b3 x0 x1 z0
        obtain ⟨f0, f1, f2, f3, f4, f5⟩ := own_six oF3
        have z0 := oF3.frozen 3
        go_wp2
        go_roundw
        case rel =>
          have := oF3.set_ 3 (.bool r3)
          exact ⟨4, by omega, by go_num, oA3.far (by show _ ≠ _; simp <;> omega) _, oB3.far (by show _ ≠ _; simp <;> omega) _, oR3.far (by show _ ≠ _; simp <;> omega) _, this, hb5.setCell (by show _ ≤ _; simp <;> omega) _⟩
        case measure => simp [intOf]
    · have oF0 : Own wr (w.heap.size + 1 + 1 + 1 + 1) 160 #[.bool (l0 && r0), .bool (l1 && r1), .bool (l2 && r2), .bool (l3 && r3), .bool false, .bool false] := oF
      obtain ⟨f0, f1, f2, f3, f4, f5⟩ := own_six oF0
      obtain ⟨a0, a1, a2, a3⟩ := own_end oA
      obtain ⟨b0, b1, b2, b3⟩ := own_end oB
      have hb1 := bl_alloc hb (.cells #[.func (.func 122) #[] #[], .func (.func 123) #[] #[]] 158)
      have oA1 := oA.alloc (.cells #[.func (.func 122) #[] #[], .func (.func 123) #[] #[]] 158)
      have oB1 := oB.alloc (.cells #[.func (.func 122) #[] #[], .func (.func 123) #[] #[]] 158)
      have oR1 := oR.alloc (.cells #[.func (.func 122) #[] #[], .func (.func 123) #[] #[]] 158)
      have oF1 := oF0.alloc (.cells #[.func (.func 122) #[] #[], .func (.func 123) #[] #[]] 158)
      have oX1 := Own.new wr 158 #[.func (.func 122) #[] #[], .func (.func 123) #[] #[]]
      have hidx := nidx4
      have hA0 := oA.lt
      have hB0 := oB.lt
      have hF0 := oF0.lt
      clear oA oB oR oF oF0 hb
      go_wp2_with fail
      go_at_call 122
      refine (hl4.out _ hb1).mono ?_
      rintro e w2 ⟨rfl, hb2⟩
      have hb3 := bl_trans hb1 hb2
      have hbs2 := hb3.size
      have oA2 := oA1.step hb2
      have oB2 := oB1.step hb2
      have oR2 := oR1.step hb2
      have oF2 := oF1.step hb2
      have oX2 := oX1.step hb2
      clear hA0 hB0 hF0 f0 f1 f2 f3 f4 f5 a0 a1 a2 a3 b0 b1 b2 b3 oA1 oB1 oR1 oF1 oX1
      obtain ⟨f0, f1, f2, f3, f4, f5⟩ := own_six oF2
      obtain ⟨b0, b1, b2, b3⟩ := own_end oB2
      obtain ⟨x0, x1⟩ := own_twoF oX2
      have z0 := oF2.frozen 4
      cases l4
      · go_wp2
        go_roundw
        case rel =>
          have := oF2.set_ 4 (.bool false)
          exact ⟨5, by omega, by go_num, oA2.far (by show _ ≠ _; simp <;> omega) _, oB2.far (by show _ ≠ _; simp <;> omega) _, oR2.far (by show _ ≠ _; simp <;> omega) _, this, hb3.setCell (by show _ ≤ _; simp <;> omega) _⟩
        case measure => simp [intOf]
      · go_wp2_with fail
        go_at_call 123
        refine (hr4.out _ hb3).mono ?_
        rintro e w3 ⟨rfl, hb4⟩
        have hb5 := bl_trans hb3 hb4
        have hbs3 := hb5.size
        have oA3 := oA2.step hb4
        have oB3 := oB2.step hb4
        have oR3 := oR2.step hb4
        have oF3 := oF2.step hb4
        have oX3 := oX2.step hb4
        clear f0 f1 f2 f3 f4 f5 b0 b1 b2 b3 x0 x1 z0
        obtain ⟨f0, f1, f2, f3, f4, f5⟩ := own_six oF3
        have z0 := oF3.frozen 4
        go_wp2
        go_roundw
        case rel =>
          have := oF3.set_ 4 (.bool r4)
          exact ⟨5, by omega, by go_num, oA3.far (by show _ ≠ _; simp <;> omega) _, oB3.far (by show _ ≠ _; simp <;> omega) _, oR3.far (by show _ ≠ _; simp <;> omega) _, this, hb5.setCell (by show _ ≤ _; simp <;> omega) _⟩
        case measure => simp [intOf]
    · have oF0 : Own wr (w.heap.size + 1 + 1 + 1 + 1) 160 #[.bool (l0 && r0), .bool (l1 && r1), .bool (l2 && r2), .bool (l3 && r3), .bool (l4 && r4), .bool false] := oF
      obtain ⟨f0, f1, f2, f3, f4, f5⟩ := own_six oF0
      obtain ⟨a0, a1, a2, a3⟩ := own_end oA
      obtain ⟨b0, b1, b2, b3⟩ := own_end oB
      have hb1 := bl_alloc hb (.cells #[.func (.func 124) #[] #[], .func (.func 125) #[] #[]] 158)
      have oA1 := oA.alloc (.cells #[.func (.func 124) #[] #[], .func (.func 125) #[] #[]] 158)
      have oB1 := oB.alloc (.cells #[.func (.func 124) #[] #[], .func (.func 125) #[] #[]] 158)
      have oR1 := oR.alloc (.cells #[.func (.func 124) #[] #[], .func (.func 125) #[] #[]] 158)
      have oF1 := oF0.alloc (.cells #[.func (.func 124) #[] #[], .func (.func 125) #[] #[]] 158)
      have oX1 := Own.new wr 158 #[.func (.func 124) #[] #[], .func (.func 125) #[] #[]]
      have hidx := nidx5
      have hA0 := oA.lt
      have hB0 := oB.lt
      have hF0 := oF0.lt
      clear oA oB oR oF oF0 hb
      go_wp2_with fail
      go_at_call 124
      refine (hl5.out _ hb1).mono ?_
      rintro e w2 ⟨rfl, hb2⟩
      have hb3 := bl_trans hb1 hb2
      have hbs2 := hb3.size
      have oA2 := oA1.step hb2
      have oB2 := oB1.step hb2
      have oR2 := oR1.step hb2
      have oF2 := oF1.step hb2
      have oX2 := oX1.step hb2
      clear hA0 hB0 hF0 f0 f1 f2 f3 f4 f5 a0 a1 a2 a3 b0 b1 b2 b3 oA1 oB1 oR1 oF1 oX1
      obtain ⟨f0, f1, f2, f3, f4, f5⟩ := own_six oF2
      obtain ⟨b0, b1, b2, b3⟩ := own_end oB2
      obtain ⟨x0, x1⟩ := own_twoF oX2
      have z0 := oF2.frozen 5
      cases l5
      · go_wp2
        go_roundw
        case rel =>
          have := oF2.set_ 5 (.bool false)
          exact ⟨6, by omega, by go_num, oA2.far (by show _ ≠ _; simp <;> omega) _, oB2.far (by show _ ≠ _; simp <;> omega) _, oR2.far (by show _ ≠ _; simp <;> omega) _, this, hb3.setCell (by show _ ≤ _; simp <;> omega) _⟩
        case measure => simp [intOf]
      · go_wp2_with fail
        go_at_call 125
        refine (hr5.out _ hb3).mono ?_
        rintro e w3 ⟨rfl, hb4⟩
        have hb5 := bl_trans hb3 hb4
        have hbs3 := hb5.size
        have oA3 := oA2.step hb4
        have oB3 := oB2.step hb4
        have oR3 := oR2.step hb4
        have oF3 := oF2.step hb4
        have oX3 := oX2.step hb4
        clear f0 f1 f2 f3 f4 f5 b0 b1 b2 b3 x0 x1 z0
        obtain ⟨f0, f1, f2, f3, f4, f5⟩ := own_six oF3
        have z0 := oF3.frozen 5
        go_wp2
        go_roundw
        case rel =>
          have := oF3.set_ 5 (.bool r5)
          exact ⟨6, by omega, by go_num, oA3.far (by show _ ≠ _; simp <;> omega) _, oB3.far (by show _ ≠ _; simp <;> omega) _, oR3.far (by show _ ≠ _; simp <;> omega) _, this, hb5.setCell (by show _ ≤ _; simp <;> omega) _⟩
        case measure => simp [intOf]
    · obtain rfl : j = 0 := by omega
      have oF0 : Own wr (w.heap.size + 1 + 1 + 1 + 1) 160 #[.bool (l0 && r0), .bool (l1 && r1), .bool (l2 && r2), .bool (l3 && r3), .bool (l4 && r4), .bool (l5 && r5)] := oF
      obtain ⟨f0, f1, f2, f3, f4, f5⟩ := own_six oF0
      obtain ⟨t0, t1, t2, t3, t4, t5⟩ := own_six oR
      have z0 := oR.frozen 0
      have z1 := oR.frozen 1
      have z2 := oR.frozen 2
      have z3 := oR.frozen 3
      have z4 := oR.frozen 4
      have z5 := oR.frozen 5
      have hbs2 := hb.size
      have hbz : w.heap.size ≤ w.heap.size + 1 + 1 := by omega
      cases l5 <;> cases r5
      · have f5' : wr.cell? ⟨w.heap.size + 1 + 1 + 1 + 1, 5, none⟩ = some (.bool false) := f5
        have oZ := ((((((oR.set_ 0 (.bool (l0 && r0))).set_ 1 (.bool (l1 && r1))).set_ 2 (.bool (l2 && r2))).set_ 3 (.bool (l3 && r3))).set_ 4 (.bool (l4 && r4))).set_ 5 (.bool (false)))
        have hbZ := ((((((hb.setCell (p := ⟨w.heap.size + 1 + 1, 0, none⟩) hbz (.bool (l0 && r0))).setCell (p := ⟨w.heap.size + 1 + 1, 1, none⟩) hbz (.bool (l1 && r1))).setCell (p := ⟨w.heap.size + 1 + 1, 2, none⟩) hbz (.bool (l2 && r2))).setCell (p := ⟨w.heap.size + 1 + 1, 3, none⟩) hbz (.bool (l3 && r3))).setCell (p := ⟨w.heap.size + 1 + 1, 4, none⟩) hbz (.bool (l4 && r4))).setCell (p := ⟨w.heap.size + 1 + 1, 5, none⟩) hbz (.bool (false)))
        clear f5 oF oF0 oR oA oB
        go_wp2
        exact bodyPost_ret (results_cell1N (p := 4) (fn := Tryd.f89) rfl _ _ (w.heap.size + 1 + 1) 23 #[.bool (l0 && r0), .bool (l1 && r1), .bool (l2 && r2), .bool (l3 && r3), .bool (l4 && r4), .bool (false)] _ rfl oZ opt_descN rfl (opt_infoN _ _ _ _ _ _)) rfl ⟨rfl, hbZ⟩
      · have f5' : wr.cell? ⟨w.heap.size + 1 + 1 + 1 + 1, 5, none⟩ = some (.bool false) := f5
        have oZ := ((((((oR.set_ 0 (.bool (l0 && r0))).set_ 1 (.bool (l1 && r1))).set_ 2 (.bool (l2 && r2))).set_ 3 (.bool (l3 && r3))).set_ 4 (.bool (l4 && r4))).set_ 5 (.bool (false)))
        have hbZ := ((((((hb.setCell (p := ⟨w.heap.size + 1 + 1, 0, none⟩) hbz (.bool (l0 && r0))).setCell (p := ⟨w.heap.size + 1 + 1, 1, none⟩) hbz (.bool (l1 && r1))).setCell (p := ⟨w.heap.size + 1 + 1, 2, none⟩) hbz (.bool (l2 && r2))).setCell (p := ⟨w.heap.size + 1 + 1, 3, none⟩) hbz (.bool (l3 && r3))).setCell (p := ⟨w.heap.size + 1 + 1, 4, none⟩) hbz (.bool (l4 && r4))).setCell (p := ⟨w.heap.size + 1 + 1, 5, none⟩) hbz (.bool (false)))
        clear f5 oF oF0 oR oA oB
        go_wp2
        exact bodyPost_ret (results_cell1N (p := 4) (fn := Tryd.f89) rfl _ _ (w.heap.size + 1 + 1) 23 #[.bool (l0 && r0), .bool (l1 && r1), .bool (l2 && r2), .bool (l3 && r3), .bool (l4 && r4), .bool (false)] _ rfl oZ opt_descN rfl (opt_infoN _ _ _ _ _ _)) rfl ⟨rfl, hbZ⟩
      · have f5' : wr.cell? ⟨w.heap.size + 1 + 1 + 1 + 1, 5, none⟩ = some (.bool false) := f5
        have oZ := ((((((oR.set_ 0 (.bool (l0 && r0))).set_ 1 (.bool (l1 && r1))).set_ 2 (.bool (l2 && r2))).set_ 3 (.bool (l3 && r3))).set_ 4 (.bool (l4 && r4))).set_ 5 (.bool (false)))
        have hbZ := ((((((hb.setCell (p := ⟨w.heap.size + 1 + 1, 0, none⟩) hbz (.bool (l0 && r0))).setCell (p := ⟨w.heap.size + 1 + 1, 1, none⟩) hbz (.bool (l1 && r1))).setCell (p := ⟨w.heap.size + 1 + 1, 2, none⟩) hbz (.bool (l2 && r2))).setCell (p := ⟨w.heap.size + 1 + 1, 3, none⟩) hbz (.bool (l3 && r3))).setCell (p := ⟨w.heap.size + 1 + 1, 4, none⟩) hbz (.bool (l4 && r4))).setCell (p := ⟨w.heap.size + 1 + 1, 5, none⟩) hbz (.bool (false)))
        clear f5 oF oF0 oR oA oB
        go_wp2
        exact bodyPost_ret (results_cell1N (p := 4) (fn := Tryd.f89) rfl _ _ (w.heap.size + 1 + 1) 23 #[.bool (l0 && r0), .bool (l1 && r1), .bool (l2 && r2), .bool (l3 && r3), .bool (l4 && r4), .bool (false)] _ rfl oZ opt_descN rfl (opt_infoN _ _ _ _ _ _)) rfl ⟨rfl, hbZ⟩
      · have f5' : wr.cell? ⟨w.heap.size + 1 + 1 + 1 + 1, 5, none⟩ = some (.bool true) := f5
        have oZ := ((((((oR.set_ 0 (.bool (l0 && r0))).set_ 1 (.bool (l1 && r1))).set_ 2 (.bool (l2 && r2))).set_ 3 (.bool (l3 && r3))).set_ 4 (.bool (l4 && r4))).set_ 5 (.bool (l3 && r3)))
        have hbZ := ((((((hb.setCell (p := ⟨w.heap.size + 1 + 1, 0, none⟩) hbz (.bool (l0 && r0))).setCell (p := ⟨w.heap.size + 1 + 1, 1, none⟩) hbz (.bool (l1 && r1))).setCell (p := ⟨w.heap.size + 1 + 1, 2, none⟩) hbz (.bool (l2 && r2))).setCell (p := ⟨w.heap.size + 1 + 1, 3, none⟩) hbz (.bool (l3 && r3))).setCell (p := ⟨w.heap.size + 1 + 1, 4, none⟩) hbz (.bool (l4 && r4))).setCell (p := ⟨w.heap.size + 1 + 1, 5, none⟩) hbz (.bool (l3 && r3)))
        clear f5 oF oF0 oR oA oB
        go_wp2
        exact bodyPost_ret (results_cell1N (p := 4) (fn := Tryd.f89) rfl _ _ (w.heap.size + 1 + 1) 23 #[.bool (l0 && r0), .bool (l1 && r1), .bool (l2 && r2), .bool (l3 && r3), .bool (l4 && r4), .bool (l3 && r3)] _ rfl oZ opt_descN rfl (opt_infoN _ _ _ _ _ _)) rfl ⟨rfl, hbZ⟩
end Go.Proofs.YtniheakafkakhaaDoor

/- layer 22: Given, Between, Hold, Winner, Internal -/
namespace Go.Proofs.YtniheakafkakhaaDoor
open Go.RowKit

set_option maxRecDepth 100000 in
theorem op_descN : Tryd.prog.underlying 47 = some (.struct (Tryd.prog.fieldsOf 47)) := by kernel_rfl
set_option maxRecDepth 100000 in
theorem op_infoN (a b c d : Value) : (Tryd.prog.info? 47).map (·.size) = some (#[a, b, c, d] : Array Value).size := by kernel_rfl

/-- Cells that can be no capabilities'. -/
def NoCap (cs : Array Value) : Prop := (∀ o : Nat, ¬ ((∃ k : Int, cs[o]? = some (Value.int .i64 k)) ∧ ∃ (a : Option Addr) (n c : Nat), cs[o + 1]? = some (Value.slice a n c))) ∧ ∀ (o : Nat) (z : Int), cs[o]? ≠ some (Value.int .u8 z)
theorem noCap_open (p q r : Int) (v : Value) (hv : ∀ z, v ≠ .int .u8 z) (_hv2 : ∀ z, v ≠ .int .i64 z) : NoCap #[.int .u32 p, .int .i64 q, .int .u32 r, v] := by
  refine ⟨fun o => ?_, fun o z => ?_⟩
  · match o with
    | 0 => simp
    | 1 => simp
    | 2 => simp
    | 3 => simp
    | o + 4 => simp
  · match o with
    | 0 => simp
    | 1 => simp
    | 2 => simp
    | 3 => simpa using hv z
    | o + 4 => simp
theorem noCap_opts (a b c d e f : Bool) : NoCap #[.bool a, .bool b, .bool c, .bool d, .bool e, .bool f] := by
  refine ⟨fun o => ?_, fun o z => ?_⟩
  · match o with
    | 0 => simp
    | 1 => simp
    | 2 => simp
    | 3 => simp
    | 4 => simp
    | 5 => simp
    | o + 6 => simp
  · match o with
    | 0 => simp
    | 1 => simp
    | 2 => simp
    | 3 => simp
    | 4 => simp
    | 5 => simp
    | o + 6 => simp
theorem own_get {w : World} {g o : Nat} {T : TypeId} {cs : Array Value} {v : Value} (h : Own w g T cs) (hc : w.cell? ⟨g, o, none⟩ = some v) : cs[o]? = some v := (cell_of_row w g o cs T (0, 0) h).symm.trans hc
theorem Caps.otherW {w : World} {B n g : Nat} {A : Option Addr} {ss : List Cp} {T : TypeId} {cs : Array Value} (h : Caps w B A n ss) (ho : Own w g T cs) (hc : NoCap cs) (i : Nat) (u : Value) : Caps (w.setCell ⟨g, i, none⟩ u) B A n ss := by
  obtain ⟨hn, hs, h0⟩ := h
  have far : ∀ b o, b ≠ g → (w.setCell ⟨g, i, none⟩ u).cell? ⟨b, o, none⟩ = w.cell? ⟨b, o, none⟩ := fun b o hb => World.cell?_setCell_other _ _ _ _ (by simp only [ne_eq, Addr.mk.injEq]; omega)
  refine ⟨hn, fun s m => ⟨⟨(hs s m).1.1, (hs s m).1.2.1, ?_⟩, (hs s m).2⟩, ?_⟩
  · rcases (hs s m).1.2.2 with h1 | ⟨b, o, hA, hB, hcell⟩
    · exact .inl h1
    · by_cases hx : s.xs = []
      · left
        rw [hx]
        rfl
      · refine .inr ⟨b, o, hA, hB, fun j v hj => ?_⟩
        have hbg : b ≠ g := by
          intro e
          subst e
          match hxs : s.xs with
          | [] => exact hx hxs
          | x :: xs =>
            have := hcell 0 (.int .u8 x) (by rw [hxs]; rfl)
            exact hc.2 _ x (own_get ho this)
        rw [far b _ hbg]
        exact hcell j v hj
  · rcases h0 with h0 | ⟨b, o, hA, hB, hcell⟩
    · exact .inl h0
    · match hss : ss with
      | [] => exact .inl rfl
      | s :: rest =>
        have hbg : b ≠ g := by
          intro e
          subst e
          have h2 := hcell 0 s rfl
          exact hc.1 _ ⟨⟨_, own_get ho h2.1⟩, ⟨_, _, _, own_get ho h2.2⟩⟩
        refine .inr ⟨b, o, hA, hB, fun j v hj => ?_⟩
        rw [far b _ hbg, far b _ hbg]
        exact hcell j v hj
set_option maxRecDepth 100000 in
set_option maxHeartbeats 1600000 in
theorem given17_any (p q r : Int) (A : Option Addr) (n c : Nat) (ss : List Cp) (w : World) (h : Caps w w.heap.size A n ss) (hn : n ≤ 100000) :
    Calls Tryd.prog 25 #[.agg #[.int .u32 p, .int .i64 q, .int .u32 r, .slice A n c]] w fun e w' => ∃ A' c', e = .returned (.agg #[.int .u32 p, .int .i64 q, .int .u32 r, .slice A' n c']) ∧ Caps w' w'.heap.size A' n ss ∧ Below w.heap.size w w' := by
  have hb0 := bl_alloc (bl_alloc (bl_refl w) (.cells #[.int .u32 p, .int .i64 q, .int .u32 r, .slice A n c] 41)) (.cells #[.int .u32 0, .int .i64 0, .int .u32 0, .slice none 0 0] 47)
  have o0 := (Own.new w 41 #[.int .u32 p, .int .i64 q, .int .u32 r, .slice A n c]).alloc (.cells #[.int .u32 0, .int .i64 0, .int .u32 0, .slice none 0 0] 47)
  have o1 := Own.new (w.alloc (.cells #[.int .u32 p, .int .i64 q, .int .u32 r, .slice A n c] 41)) 47 #[.int .u32 0, .int .i64 0, .int .u32 0, .slice none 0 0]
  have HC := Lib.hid (h.step hb0)
  rw [show (w.alloc (.cells #[.int .u32 p, .int .i64 q, .int .u32 r, .slice A n c] 41)).heap.size = w.heap.size + 1 by simp] at o1
  clear h
  go_enter Tryd.func25, Tryd.ntmps25
  go_wp2_with fail
  generalize ((w.alloc (.cells #[.int .u32 p, .int .i64 q, .int .u32 r, .slice A n c] 41)).alloc (.cells #[.int .u32 0, .int .i64 0, .int .u32 0, .slice none 0 0] 47)) = X at *
  refine wp_region_held_drew (S := (fun X => Own X w.heap.size 41 #[.int .u32 p, .int .i64 q, .int .u32 r, .slice A n c])) (by kernel_rfl) o0.drew (fun hHeld => ?_)
  refine wpAnyH_take (i := 0) (v := ?_) rfl (by kernel_rfl) (by kernel_rfl) (by kernel_rfl) (fun _ _ _ h => h) (Or.inl ⟨by rfl, ?_⟩) (by assumption) ?_
  rotate_left
  · (intro W hSw; have s0 : Own W w.heap.size 41 #[.int .u32 p, .int .i64 q, .int .u32 r, .slice A n c] := hSw; obtain ⟨e0, e1, e2, e3⟩ := own_end s0; go_simp; try with_reducible rfl)
  simp only [Act.put, List.getElem_toArray, List.getElem_cons_zero, List.setIfInBounds_toArray, List.set_cons_zero, List.set_cons_succ]
  refine wpAnyH_take (i := 1) (v := ?_) rfl (by kernel_rfl) (by kernel_rfl) (by kernel_rfl) (fun _ _ _ h => h) (Or.inl ⟨by rfl, ?_⟩) (by assumption) ?_
  rotate_left
  · (intro W hSw; have s0 : Own W w.heap.size 41 #[.int .u32 p, .int .i64 q, .int .u32 r, .slice A n c] := hSw; obtain ⟨e0, e1, e2, e3⟩ := own_end s0; go_simp; try with_reducible rfl)
  simp only [Act.put, List.getElem_toArray, List.getElem_cons_zero, List.getElem_cons_succ, List.setIfInBounds_toArray, List.set_cons_zero, List.set_cons_succ]
  refine wpAnyH_take (i := 2) (v := ?_) rfl (by kernel_rfl) (by kernel_rfl) (by kernel_rfl) (fun _ _ _ h => h) (Or.inl ⟨by rfl, ?_⟩) (by assumption) ?_
  rotate_left
  · (intro W hSw; have s0 : Own W w.heap.size 41 #[.int .u32 p, .int .i64 q, .int .u32 r, .slice A n c] := hSw; obtain ⟨e0, e1, e2, e3⟩ := own_end s0; go_simp; try with_reducible rfl)
  simp only [Act.put, List.getElem_toArray, List.getElem_cons_zero, List.getElem_cons_succ, List.setIfInBounds_toArray, List.set_cons_zero, List.set_cons_succ]
  refine wpAnyH_take (i := 3) (v := ?_) rfl (by kernel_rfl) (by kernel_rfl) (by kernel_rfl) (fun _ _ _ h => h) (Or.inl ⟨by rfl, ?_⟩) (by assumption) ?_
  rotate_left
  · (intro W hSw; have s0 : Own W w.heap.size 41 #[.int .u32 p, .int .i64 q, .int .u32 r, .slice A n c] := hSw; obtain ⟨e0, e1, e2, e3⟩ := own_end s0; go_simp; try with_reducible rfl)
  simp only [Act.put, List.getElem_toArray, List.getElem_cons_zero, List.getElem_cons_succ, List.setIfInBounds_toArray, List.set_cons_zero, List.set_cons_succ]
  refine wpAnyH_take (i := 4) (v := ?_) rfl (by kernel_rfl) (by kernel_rfl) (by kernel_rfl) (fun _ _ _ h => h) (Or.inl ⟨by rfl, ?_⟩) (by assumption) ?_
  rotate_left
  · (intro W hSw; have s0 : Own W w.heap.size 41 #[.int .u32 p, .int .i64 q, .int .u32 r, .slice A n c] := hSw; obtain ⟨e0, e1, e2, e3⟩ := own_end s0; go_simp; try with_reducible rfl)
  simp only [Act.put, List.getElem_toArray, List.getElem_cons_zero, List.getElem_cons_succ, List.setIfInBounds_toArray, List.set_cons_zero, List.set_cons_succ]
  refine wpAnyH_take (i := 5) (v := ?_) rfl (by kernel_rfl) (by kernel_rfl) (by kernel_rfl) (fun _ _ _ h => h) (Or.inl ⟨by rfl, ?_⟩) (by assumption) ?_
  rotate_left
  · (intro W hSw; have s0 : Own W w.heap.size 41 #[.int .u32 p, .int .i64 q, .int .u32 r, .slice A n c] := hSw; obtain ⟨e0, e1, e2, e3⟩ := own_end s0; go_simp; try with_reducible rfl)
  simp only [Act.put, List.getElem_toArray, List.getElem_cons_zero, List.getElem_cons_succ, List.setIfInBounds_toArray, List.set_cons_zero, List.set_cons_succ]
  refine wpAnyH_take (i := 6) (v := ?_) rfl (by kernel_rfl) (by kernel_rfl) (by kernel_rfl) (fun _ _ _ h => h) (Or.inl ⟨by rfl, ?_⟩) (by assumption) ?_
  rotate_left
  · (intro W hSw; have s0 : Own W w.heap.size 41 #[.int .u32 p, .int .i64 q, .int .u32 r, .slice A n c] := hSw; obtain ⟨e0, e1, e2, e3⟩ := own_end s0; go_simp; try with_reducible rfl)
  simp only [Act.put, List.getElem_toArray, List.getElem_cons_zero, List.getElem_cons_succ, List.setIfInBounds_toArray, List.set_cons_zero, List.set_cons_succ]
  refine wpAnyH_take (i := 7) (v := ?_) rfl (by kernel_rfl) (by kernel_rfl) (by kernel_rfl) (fun _ _ _ h => h) (Or.inl ⟨by rfl, ?_⟩) (by assumption) ?_
  rotate_left
  · (intro W hSw; have s0 : Own W w.heap.size 41 #[.int .u32 p, .int .i64 q, .int .u32 r, .slice A n c] := hSw; obtain ⟨e0, e1, e2, e3⟩ := own_end s0; go_simp; try with_reducible rfl)
  simp only [Act.put, List.getElem_toArray, List.getElem_cons_zero, List.getElem_cons_succ, List.setIfInBounds_toArray, List.set_cons_zero, List.set_cons_succ]
  refine wpAnyH_ready (rs := [8]) (by kernel_rfl) (by simp) ?_
  refine (AllReadyH.cons rfl (fun K hK => ?_) AllReadyH.nil)
  go_simp
  go_at_call 71
  refine (given_any A n c ss X.drew (HC.out.step (bl_drewN (bl_refl X) 1)) hn).mono ?_
  rintro e w2 ⟨A2, c2, rfl, hC2, hb2⟩
  have hb3 := bl_trans (bl_drewN (bl_refl X) 1) hb2
  have o2 := o0.step hb3
  have o3 := o1.step hb3
  refine hK.out _ _ o2 (fun hHeld2 => ?_)
  clear hK K hHeld
  have hHeld := hHeld2
  clear hHeld2
  try simp only [Act.put, List.getElem_toArray, List.getElem_cons_zero, List.getElem_cons_succ, List.setIfInBounds_toArray, List.set_cons_zero, List.set_cons_succ]
  refine wpAnyH_take (i := 9) (v := ?_) rfl (by kernel_rfl) (by kernel_rfl) (by kernel_rfl) (fun _ _ _ h => h) (Or.inl ⟨by rfl, ?_⟩) (by assumption) ?_
  rotate_left
  · (intro W hSw; skip; go_simp; try with_reducible rfl)
  simp only [Act.put, List.getElem_toArray, List.getElem_cons_zero, List.getElem_cons_succ, List.setIfInBounds_toArray, List.set_cons_zero, List.set_cons_succ]
  have oZ := (((o3.set_ 0 (.int .u32 p)).set_ 1 (.int .i64 q)).set_ 2 (.int .u32 r)).set_ 3 (.slice A2 n c2)
  have hbx := bl_trans hb0 hb3
  have hl1 : w.heap.size ≤ w.heap.size + 1 := by omega
  have hl2 := hbx.size
  have hl3 : w2.heap.size ≤ w2.heap.size := Nat.le_refl _
  have hbZ := (((hbx.setCell (p := ⟨w.heap.size + 1, 0, none⟩) hl1 (.int .u32 p)).setCell (p := ⟨w.heap.size + 1, 1, none⟩) hl1 (.int .i64 q)).setCell (p := ⟨w.heap.size + 1, 2, none⟩) hl1 (.int .u32 r)).setCell (p := ⟨w.heap.size + 1, 3, none⟩) hl1 (.slice A2 n c2)
  have hCZ : Caps ((((w2.setCell ⟨w.heap.size + 1, 0, none⟩ (.int .u32 p)).setCell ⟨w.heap.size + 1, 1, none⟩ (.int .i64 q)).setCell ⟨w.heap.size + 1, 2, none⟩ (.int .u32 r)).setCell ⟨w.heap.size + 1, 3, none⟩ (.slice A2 n c2)) w2.heap.size A2 n ss := (((hC2.otherW o3 (noCap_open 0 0 0 _ (by simp) (by simp)) 0 (.int .u32 p)).otherW (o3.set_ 0 (.int .u32 p)) (noCap_open p 0 0 _ (by simp) (by simp)) 1 (.int .i64 q)).otherW ((o3.set_ 0 (.int .u32 p)).set_ 1 (.int .i64 q)) (noCap_open p q 0 _ (by simp) (by simp)) 2 (.int .u32 r)).otherW (((o3.set_ 0 (.int .u32 p)).set_ 1 (.int .i64 q)).set_ 2 (.int .u32 r)) (noCap_open p q r _ (by simp) (by simp)) 3 (.slice A2 n c2)
  have oY := (((o2.far (p := ⟨w.heap.size + 1, 0, none⟩) (by show _ ≠ _; simp <;> omega) (.int .u32 p)).far (p := ⟨w.heap.size + 1, 1, none⟩) (by show _ ≠ _; simp <;> omega) (.int .i64 q)).far (p := ⟨w.heap.size + 1, 2, none⟩) (by show _ ≠ _; simp <;> omega) (.int .u32 r)).far (p := ⟨w.heap.size + 1, 3, none⟩) (by show _ ≠ _; simp <;> omega) (.slice A2 n c2)
  refine wpAnyH_ready (rs := [10]) (by kernel_rfl) (by simp) ?_
  refine (AllReadyH.cons rfl (fun K hK => ?_) AllReadyH.nil)
  have z0 := o3.frozen 0
  have z1 := o3.frozen 1
  have z2 := o3.frozen 2
  have z3 := o3.frozen 3
  obtain ⟨y0, y1, y2, y3⟩ := own_end o3
  go_simp
  refine hK.out _ _ oY (fun hHeld2 => ?_)
  clear hK K hHeld
  have hHeld := hHeld2
  clear hHeld2
  try simp only [Act.put, List.getElem_toArray, List.getElem_cons_zero, List.getElem_cons_succ, List.setIfInBounds_toArray, List.set_cons_zero, List.set_cons_succ]
  refine wpAnyH_done (by kernel_rfl) ?_ _
  go_wp2
  exact bodyPost_ret (results_cell1N (p := 2) (fn := Tryd.f25) rfl _ _ (w.heap.size + 1) 47 #[.int .u32 p, .int .i64 q, .int .u32 r, .slice A2 n c2] _ rfl oZ op_descN rfl (op_infoN _ _ _ _)) rfl ⟨A2, c2, rfl, hCZ.more (by simp), hbZ⟩
end Go.Proofs.YtniheakafkakhaaDoor

/- layer 22: Between, Hold, Internal, Winner -/
namespace Go.Proofs.YtniheakafkakhaaDoor
open Go.RowKit

theorem four_boxesN (w : World) (c0 c1 c2 c3 : Array Value) (t0 t1 t2 t3 : TypeId) : ∃ W, W = ((((w.alloc (.cells c0 t0)).alloc (.cells c1 t1)).alloc (.cells c2 t2)).alloc (.cells c3 t3)) ∧ Own W w.heap.size t0 c0 ∧ Own W (w.heap.size + 1) t1 c1 ∧ Own W (w.heap.size + 1 + 1) t2 c2 ∧ Own W (w.heap.size + 1 + 1 + 1) t3 c3 ∧ Below w.heap.size w W ∧ W.heap.size = w.heap.size + 1 + 1 + 1 + 1 := by
  have s1 : (w.alloc (.cells c0 t0)).heap.size = w.heap.size + 1 := by simp
  have s2 : ((w.alloc (.cells c0 t0)).alloc (.cells c1 t1)).heap.size = w.heap.size + 1 + 1 := by simp
  have s3 : (((w.alloc (.cells c0 t0)).alloc (.cells c1 t1)).alloc (.cells c2 t2)).heap.size = w.heap.size + 1 + 1 + 1 := by simp
  have o1 := Own.new (w.alloc (.cells c0 t0)) t1 c1
  have o2 := Own.new ((w.alloc (.cells c0 t0)).alloc (.cells c1 t1)) t2 c2
  have o3 := Own.new (((w.alloc (.cells c0 t0)).alloc (.cells c1 t1)).alloc (.cells c2 t2)) t3 c3
  rw [s1] at o1
  rw [s2] at o2
  rw [s3] at o3
  exact ⟨_, rfl, ((((Own.new w t0 c0).alloc _).alloc _).alloc _), ((o1.alloc _).alloc _), o2.alloc _, o3, bl_alloc (bl_alloc (bl_alloc (bl_alloc (bl_refl w) _) _) _) _, by simp⟩
theorem two_boxesN (w : World) (c0 c1 : Array Value) (t0 t1 : TypeId) : ∃ W, W = ((w.alloc (.cells c0 t0)).alloc (.cells c1 t1)) ∧ Own W w.heap.size t0 c0 ∧ Own W (w.heap.size + 1) t1 c1 ∧ Below w.heap.size w W ∧ W.heap.size = w.heap.size + 1 + 1 := by
  have s1 : (w.alloc (.cells c0 t0)).heap.size = w.heap.size + 1 := by simp
  have o1 := Own.new (w.alloc (.cells c0 t0)) t1 c1
  rw [s1] at o1
  exact ⟨_, rfl, (Own.new w t0 c0).alloc _, o1, bl_alloc (bl_alloc (bl_refl w) _) _, by simp⟩
theorem results_twoN {P : Program} {fn : Func} {p q : Tmp} {ty ty2 : TypeId} (h : fn.results = #[.cell p ty, .cell q ty2]) (tmps : Array Value) (w : World) (g : Nat) (T : TypeId) (cs : Array Value) (d : TypeDesc) (g2 : Nat) (T2 : TypeId) (cs2 : Array Value) (d2 : TypeDesc)
    (hp : tmps.getD p undef = .pointer (some ⟨g, 0, none⟩)) (hg : Own w g T cs) (hu : P.underlying ty = some d) (hd : (match d with | .struct _ | .array _ _ => true | _ => false) = true) (hi : (P.info? ty).map (·.size) = some cs.size)
    (hp2 : tmps.getD q undef = .pointer (some ⟨g2, 0, none⟩)) (hg2 : Own w g2 T2 cs2) (hu2 : P.underlying ty2 = some d2) (hd2 : (match d2 with | .struct _ | .array _ _ => true | _ => false) = true) (hi2 : (P.info? ty2).map (·.size) = some cs2.size) :
    (results fn tmps).run P w = .ok (.tuple #[.agg cs, .agg cs2]) w := by
  have hp' : tmps[p]?.getD undef = .pointer (some ⟨g, 0, none⟩) := by simpa using hp
  have hp2' : tmps[q]?.getD undef = .pointer (some ⟨g2, 0, none⟩) := by simpa using hp2
  simp [results, h, hp', hp2', asAddr, run_loadVar_row w g T ty cs (0, 0) d hg hu hd hi, run_loadVar_row w g2 T2 ty2 cs2 (0, 0) d2 hg2 hu2 hd2 hi2]
def sets6 (w : World) (g : Nat) (a b c d e f : Value) : World := (((((w.setCell ⟨g, 0, none⟩ a).setCell ⟨g, 1, none⟩ b).setCell ⟨g, 2, none⟩ c).setCell ⟨g, 3, none⟩ d).setCell ⟨g, 4, none⟩ e).setCell ⟨g, 5, none⟩ f
section
variable {w : World} {g : Nat} {a b c d e f : Value}
theorem sets6_own {T : TypeId} {x0 x1 x2 x3 x4 x5 : Value} (h : Own w g T #[x0, x1, x2, x3, x4, x5]) : Own (sets6 w g a b c d e f) g T #[a, b, c, d, e, f] := (((((h.set_ 0 a).set_ 1 b).set_ 2 c).set_ 3 d).set_ 4 e).set_ 5 f
theorem sets6_far {k : Nat} {T : TypeId} {cs : Array Value} (h : Own w k T cs) (hk : k ≠ g) : Own (sets6 w g a b c d e f) k T cs := (((((h.far (p := ⟨g, 0, none⟩) hk a).far (p := ⟨g, 1, none⟩) hk b).far (p := ⟨g, 2, none⟩) hk c).far (p := ⟨g, 3, none⟩) hk d).far (p := ⟨g, 4, none⟩) hk e).far (p := ⟨g, 5, none⟩) hk f
theorem sets6_below {w0 : World} {B : Nat} (h : Below B w0 w) (hg : B ≤ g) : Below B w0 (sets6 w g a b c d e f) := (((((h.setCell (p := ⟨g, 0, none⟩) hg a).setCell (p := ⟨g, 1, none⟩) hg b).setCell (p := ⟨g, 2, none⟩) hg c).setCell (p := ⟨g, 3, none⟩) hg d).setCell (p := ⟨g, 4, none⟩) hg e).setCell (p := ⟨g, 5, none⟩) hg f
end
/-- What Between leaves. -/
def towX (K M : List (Int × List Int)) : Value := .agg (towK K M)
set_option maxRecDepth 100000 in
set_option maxHeartbeats 6400000 in
theorem between_any (p q r : Int) (A : Option Addr) (n c : Nat) (p' q' r' : Int) (A' : Option Addr) (n' c' : Nat) (ss ts : List Cp) (w : World) (h : Caps w w.heap.size A n ss) (h' : Caps w w.heap.size A' n' ts) (hn : n ≤ 1000) (hn' : n' ≤ 1000) (hs : ∀ s ∈ ss, s.n ≤ 100000) (hs' : ∀ s ∈ ts, s.n ≤ 100000) (hf : Fams w) :
    Calls Tryd.prog 39 #[.agg #[.int .u32 p, .int .i64 q, .int .u32 r, .slice A n c], .agg #[.int .u32 p', .int .i64 q', .int .u32 r', .slice A' n' c']] w fun e w' => e = .returned (.tuple #[.agg (towK (ss.map cpK) (ts.map cpK)), .agg (towK (ts.map cpK) (ss.map cpK))]) ∧ Below w.heap.size w w' := by
  have hT1 : Hid (∀ W, Below w.heap.size w W → Calls Tryd.prog 89 #[.agg #[.int .u32 p, .int .i64 q, .int .u32 r, .slice A n c], .agg #[.int .u32 p', .int .i64 q', .int .u32 r', .slice A' n' c']] W fun e w' => e = .returned (.agg (towK (ss.map cpK) (ts.map cpK))) ∧ Below W.heap.size W w') := Lib.hid fun W hb => toward_any p q r A n c p' q' r' A' n' c' ss ts W (h.step hb) (h'.step hb) hn hn' hs hs' (hf.below hb)
  have hT2 : Hid (∀ W, Below w.heap.size w W → Calls Tryd.prog 89 #[.agg #[.int .u32 p', .int .i64 q', .int .u32 r', .slice A' n' c'], .agg #[.int .u32 p, .int .i64 q, .int .u32 r, .slice A n c]] W fun e w' => e = .returned (.agg (towK (ts.map cpK) (ss.map cpK))) ∧ Below W.heap.size W w') := Lib.hid fun W hb => toward_any p' q' r' A' n' c' p q r A n c ts ss W (h'.step hb) (h.step hb) hn' hn hs' hs (hf.below hb)
  have e1 : ∃ x0 x1 x2 x3 x4 x5 : Bool, towK (ss.map cpK) (ts.map cpK) = #[.bool x0, .bool x1, .bool x2, .bool x3, .bool x4, .bool x5] := ⟨_, _, _, _, _, _, rfl⟩
  have e2 : ∃ x0 x1 x2 x3 x4 x5 : Bool, towK (ts.map cpK) (ss.map cpK) = #[.bool x0, .bool x1, .bool x2, .bool x3, .bool x4, .bool x5] := ⟨_, _, _, _, _, _, rfl⟩
  obtain ⟨x0, x1, x2, x3, x4, x5, e1⟩ := e1
  obtain ⟨y0, y1, y2, y3, y4, y5, e2⟩ := e2
  rw [e1] at hT1 ⊢
  rw [e2] at hT2 ⊢
  clear h h' hn hn' hs hs' hf e1 e2
  obtain ⟨X, hX, oA, oB, oR, oS, hbX, hXs⟩ := four_boxesN w #[.int .u32 p, .int .i64 q, .int .u32 r, .slice A n c] #[.int .u32 p', .int .i64 q', .int .u32 r', .slice A' n' c'] #[.bool false, .bool false, .bool false, .bool false, .bool false, .bool false] #[.bool false, .bool false, .bool false, .bool false, .bool false, .bool false] 47 47 23 23
  go_enter Tryd.func39, Tryd.ntmps39
  go_wp2_with fail
  rw [← hX]
  clear hX
  refine wp_region_held_drew (S := (fun X => Own X w.heap.size 47 #[.int .u32 p, .int .i64 q, .int .u32 r, .slice A n c] ∧ Own X (w.heap.size + 1) 47 #[.int .u32 p', .int .i64 q', .int .u32 r', .slice A' n' c'])) (by kernel_rfl) ⟨oA.drew, oB.drew⟩ (fun hHeld => ?_)
  refine wpAnyH_take (i := 0) (v := ?_) rfl (by kernel_rfl) (by kernel_rfl) (by kernel_rfl) (fun _ _ _ h => h) (Or.inl ⟨by rfl, ?_⟩) (by assumption) ?_
  rotate_left
  · (intro W hSw; have s0 : Own W w.heap.size 47 #[.int .u32 p, .int .i64 q, .int .u32 r, .slice A n c] := hSw.1; have s1 : Own W (w.heap.size + 1) 47 #[.int .u32 p', .int .i64 q', .int .u32 r', .slice A' n' c'] := hSw.2; obtain ⟨e0, e1, e2, e3⟩ := own_end s0; obtain ⟨d0, d1, d2, d3⟩ := own_end s1; go_simp; try with_reducible rfl)
  simp only [Act.put, List.getElem_toArray, List.getElem_cons_zero, List.setIfInBounds_toArray, List.set_cons_zero, List.set_cons_succ]
  refine wpAnyH_take (i := 1) (v := ?_) rfl (by kernel_rfl) (by kernel_rfl) (by kernel_rfl) (fun _ _ _ h => h) (Or.inl ⟨by rfl, ?_⟩) (by assumption) ?_
  rotate_left
  · (intro W hSw; have s0 : Own W w.heap.size 47 #[.int .u32 p, .int .i64 q, .int .u32 r, .slice A n c] := hSw.1; have s1 : Own W (w.heap.size + 1) 47 #[.int .u32 p', .int .i64 q', .int .u32 r', .slice A' n' c'] := hSw.2; obtain ⟨e0, e1, e2, e3⟩ := own_end s0; obtain ⟨d0, d1, d2, d3⟩ := own_end s1; go_simp; try with_reducible rfl)
  simp only [Act.put, List.getElem_toArray, List.getElem_cons_zero, List.getElem_cons_succ, List.setIfInBounds_toArray, List.set_cons_zero, List.set_cons_succ]
  refine wpAnyH_take (i := 2) (v := ?_) rfl (by kernel_rfl) (by kernel_rfl) (by kernel_rfl) (fun _ _ _ h => h) (Or.inl ⟨by rfl, ?_⟩) (by assumption) ?_
  rotate_left
  · (intro W hSw; have s0 : Own W w.heap.size 47 #[.int .u32 p, .int .i64 q, .int .u32 r, .slice A n c] := hSw.1; have s1 : Own W (w.heap.size + 1) 47 #[.int .u32 p', .int .i64 q', .int .u32 r', .slice A' n' c'] := hSw.2; obtain ⟨e0, e1, e2, e3⟩ := own_end s0; obtain ⟨d0, d1, d2, d3⟩ := own_end s1; go_simp; try with_reducible rfl)
  simp only [Act.put, List.getElem_toArray, List.getElem_cons_zero, List.getElem_cons_succ, List.setIfInBounds_toArray, List.set_cons_zero, List.set_cons_succ]
  refine wpAnyH_take (i := 3) (v := ?_) rfl (by kernel_rfl) (by kernel_rfl) (by kernel_rfl) (fun _ _ _ h => h) (Or.inl ⟨by rfl, ?_⟩) (by assumption) ?_
  rotate_left
  · (intro W hSw; have s0 : Own W w.heap.size 47 #[.int .u32 p, .int .i64 q, .int .u32 r, .slice A n c] := hSw.1; have s1 : Own W (w.heap.size + 1) 47 #[.int .u32 p', .int .i64 q', .int .u32 r', .slice A' n' c'] := hSw.2; obtain ⟨e0, e1, e2, e3⟩ := own_end s0; obtain ⟨d0, d1, d2, d3⟩ := own_end s1; go_simp; try with_reducible rfl)
  simp only [Act.put, List.getElem_toArray, List.getElem_cons_zero, List.getElem_cons_succ, List.setIfInBounds_toArray, List.set_cons_zero, List.set_cons_succ]
  refine wpAnyH_take (i := 5) (v := ?_) rfl (by kernel_rfl) (by kernel_rfl) (by kernel_rfl) (fun _ _ _ h => h) (Or.inl ⟨by rfl, ?_⟩) (by assumption) ?_
  rotate_left
  · (intro W hSw; have s0 : Own W w.heap.size 47 #[.int .u32 p, .int .i64 q, .int .u32 r, .slice A n c] := hSw.1; have s1 : Own W (w.heap.size + 1) 47 #[.int .u32 p', .int .i64 q', .int .u32 r', .slice A' n' c'] := hSw.2; obtain ⟨e0, e1, e2, e3⟩ := own_end s0; obtain ⟨d0, d1, d2, d3⟩ := own_end s1; go_simp; try with_reducible rfl)
  simp only [Act.put, List.getElem_toArray, List.getElem_cons_zero, List.getElem_cons_succ, List.setIfInBounds_toArray, List.set_cons_zero, List.set_cons_succ]
  refine wpAnyH_take (i := 6) (v := ?_) rfl (by kernel_rfl) (by kernel_rfl) (by kernel_rfl) (fun _ _ _ h => h) (Or.inl ⟨by rfl, ?_⟩) (by assumption) ?_
  rotate_left
  · (intro W hSw; have s0 : Own W w.heap.size 47 #[.int .u32 p, .int .i64 q, .int .u32 r, .slice A n c] := hSw.1; have s1 : Own W (w.heap.size + 1) 47 #[.int .u32 p', .int .i64 q', .int .u32 r', .slice A' n' c'] := hSw.2; obtain ⟨e0, e1, e2, e3⟩ := own_end s0; obtain ⟨d0, d1, d2, d3⟩ := own_end s1; go_simp; try with_reducible rfl)
  simp only [Act.put, List.getElem_toArray, List.getElem_cons_zero, List.getElem_cons_succ, List.setIfInBounds_toArray, List.set_cons_zero, List.set_cons_succ]
  refine wpAnyH_take (i := 7) (v := ?_) rfl (by kernel_rfl) (by kernel_rfl) (by kernel_rfl) (fun _ _ _ h => h) (Or.inl ⟨by rfl, ?_⟩) (by assumption) ?_
  rotate_left
  · (intro W hSw; have s0 : Own W w.heap.size 47 #[.int .u32 p, .int .i64 q, .int .u32 r, .slice A n c] := hSw.1; have s1 : Own W (w.heap.size + 1) 47 #[.int .u32 p', .int .i64 q', .int .u32 r', .slice A' n' c'] := hSw.2; obtain ⟨e0, e1, e2, e3⟩ := own_end s0; obtain ⟨d0, d1, d2, d3⟩ := own_end s1; go_simp; try with_reducible rfl)
  simp only [Act.put, List.getElem_toArray, List.getElem_cons_zero, List.getElem_cons_succ, List.setIfInBounds_toArray, List.set_cons_zero, List.set_cons_succ]
  refine wpAnyH_take (i := 8) (v := ?_) rfl (by kernel_rfl) (by kernel_rfl) (by kernel_rfl) (fun _ _ _ h => h) (Or.inl ⟨by rfl, ?_⟩) (by assumption) ?_
  rotate_left
  · (intro W hSw; have s0 : Own W w.heap.size 47 #[.int .u32 p, .int .i64 q, .int .u32 r, .slice A n c] := hSw.1; have s1 : Own W (w.heap.size + 1) 47 #[.int .u32 p', .int .i64 q', .int .u32 r', .slice A' n' c'] := hSw.2; obtain ⟨e0, e1, e2, e3⟩ := own_end s0; obtain ⟨d0, d1, d2, d3⟩ := own_end s1; go_simp; try with_reducible rfl)
  simp only [Act.put, List.getElem_toArray, List.getElem_cons_zero, List.getElem_cons_succ, List.setIfInBounds_toArray, List.set_cons_zero, List.set_cons_succ]
  refine wpAnyH_ready (rs := [4]) (by kernel_rfl) (by simp) ?_
  refine (AllReadyH.cons rfl (fun K hK => ?_) AllReadyH.nil)
  go_simp
  go_at_call 89
  refine (hT1.out X.drew (bl_drewN hbX 1)).mono ?_
  rintro e w2 ⟨rfl, hb2⟩
  have hb3 := bl_trans (bl_drewN hbX 1) hb2
  have hb3x := bl_trans (bl_drewN (bl_refl X) 1) hb2
  have oA2 := oA.step hb3x
  have oB2 := oB.step hb3x
  have oR2 := oR.step hb3x
  have oS2 := oS.step hb3x
  clear oA oB oR oS hb2 hb3x hbX
  refine hK.out _ _ ⟨oA2, oB2⟩ (fun hHeld2 => ?_)
  clear hK K hHeld
  have hHeld := hHeld2
  clear hHeld2
  try simp only [Act.put, List.getElem_toArray, List.getElem_cons_zero, List.getElem_cons_succ, List.setIfInBounds_toArray, List.set_cons_zero, List.set_cons_succ]
  refine wpAnyH_ready (rs := [9]) (by kernel_rfl) (by simp) ?_
  refine (AllReadyH.cons rfl (fun K hK => ?_) AllReadyH.nil)
  go_simp
  go_at_call 89
  refine (hT2.out w2 hb3).mono ?_
  rintro e w4 ⟨rfl, hb4⟩
  have hb5 := bl_trans hb3 hb4
  have oA4 := oA2.step hb4
  have oB4 := oB2.step hb4
  have oR4 := oR2.step hb4
  have oS4 := oS2.step hb4
  clear oA2 oB2 oR2 oS2 hb3 hb4
  refine hK.out _ _ ⟨oA4, oB4⟩ (fun hHeld2 => ?_)
  clear hK K hHeld
  have hHeld := hHeld2
  clear hHeld2
  try simp only [Act.put, List.getElem_toArray, List.getElem_cons_zero, List.getElem_cons_succ, List.setIfInBounds_toArray, List.set_cons_zero, List.set_cons_succ]
  have oR5 := sets6_own (a := .bool x0) (b := .bool x1) (c := .bool x2) (d := .bool x3) (e := .bool x4) (f := .bool x5) oR4
  have oA5 := sets6_far (g := w.heap.size + 1 + 1) (a := .bool x0) (b := .bool x1) (c := .bool x2) (d := .bool x3) (e := .bool x4) (f := .bool x5) oA4 (by omega)
  have oB5 := sets6_far (g := w.heap.size + 1 + 1) (a := .bool x0) (b := .bool x1) (c := .bool x2) (d := .bool x3) (e := .bool x4) (f := .bool x5) oB4 (by omega)
  have oS5 := sets6_far (g := w.heap.size + 1 + 1) (a := .bool x0) (b := .bool x1) (c := .bool x2) (d := .bool x3) (e := .bool x4) (f := .bool x5) oS4 (by omega)
  have hb6 := sets6_below (g := w.heap.size + 1 + 1) (a := .bool x0) (b := .bool x1) (c := .bool x2) (d := .bool x3) (e := .bool x4) (f := .bool x5) hb5 (by omega)
  refine wpAnyH_ready (rs := [10]) (by kernel_rfl) (by simp) ?_
  refine (AllReadyH.cons rfl (fun K hK => ?_) AllReadyH.nil)
  obtain ⟨c0, c1, c2, c3, c4, c5⟩ := own_six oR4
  have z0 := oR4.frozen 0
  have z1 := oR4.frozen 1
  have z2 := oR4.frozen 2
  have z3 := oR4.frozen 3
  have z4 := oR4.frozen 4
  have z5 := oR4.frozen 5
  go_simp
  rw [show ((((((w4.setCell ⟨w.heap.size + 1 + 1, 0, none⟩ (.bool x0)).setCell ⟨w.heap.size + 1 + 1, 1, none⟩ (.bool x1)).setCell ⟨w.heap.size + 1 + 1, 2, none⟩ (.bool x2)).setCell ⟨w.heap.size + 1 + 1, 3, none⟩ (.bool x3)).setCell ⟨w.heap.size + 1 + 1, 4, none⟩ (.bool x4)).setCell ⟨w.heap.size + 1 + 1, 5, none⟩ (.bool x5)) = sets6 w4 (w.heap.size + 1 + 1) (.bool x0) (.bool x1) (.bool x2) (.bool x3) (.bool x4) (.bool x5) from rfl]
  clear c0 c1 c2 c3 c4 c5 z0 z1 z2 z3 z4 z5 oR4 oA4 oB4 oS4 hb5
  generalize sets6 w4 (w.heap.size + 1 + 1) (.bool x0) (.bool x1) (.bool x2) (.bool x3) (.bool x4) (.bool x5) = w5 at *
  refine hK.out _ _ ⟨oA5, oB5⟩ (fun hHeld2 => ?_)
  clear hK K hHeld
  have hHeld := hHeld2
  clear hHeld2
  try simp only [Act.put, List.getElem_toArray, List.getElem_cons_zero, List.getElem_cons_succ, List.setIfInBounds_toArray, List.set_cons_zero, List.set_cons_succ]
  have oS6 := sets6_own (a := .bool y0) (b := .bool y1) (c := .bool y2) (d := .bool y3) (e := .bool y4) (f := .bool y5) oS5
  have oA6 := sets6_far (g := w.heap.size + 1 + 1 + 1) (a := .bool y0) (b := .bool y1) (c := .bool y2) (d := .bool y3) (e := .bool y4) (f := .bool y5) oA5 (by omega)
  have oB6 := sets6_far (g := w.heap.size + 1 + 1 + 1) (a := .bool y0) (b := .bool y1) (c := .bool y2) (d := .bool y3) (e := .bool y4) (f := .bool y5) oB5 (by omega)
  have oR6 := sets6_far (g := w.heap.size + 1 + 1 + 1) (a := .bool y0) (b := .bool y1) (c := .bool y2) (d := .bool y3) (e := .bool y4) (f := .bool y5) oR5 (by omega)
  have hb7 := sets6_below (g := w.heap.size + 1 + 1 + 1) (a := .bool y0) (b := .bool y1) (c := .bool y2) (d := .bool y3) (e := .bool y4) (f := .bool y5) hb6 (by omega)
  refine wpAnyH_ready (rs := [11]) (by kernel_rfl) (by simp) ?_
  refine (AllReadyH.cons rfl (fun K hK => ?_) AllReadyH.nil)
  obtain ⟨c0, c1, c2, c3, c4, c5⟩ := own_six oS5
  have z0 := oS5.frozen 0
  have z1 := oS5.frozen 1
  have z2 := oS5.frozen 2
  have z3 := oS5.frozen 3
  have z4 := oS5.frozen 4
  have z5 := oS5.frozen 5
  go_simp
  rw [show ((((((w5.setCell ⟨w.heap.size + 1 + 1 + 1, 0, none⟩ (.bool y0)).setCell ⟨w.heap.size + 1 + 1 + 1, 1, none⟩ (.bool y1)).setCell ⟨w.heap.size + 1 + 1 + 1, 2, none⟩ (.bool y2)).setCell ⟨w.heap.size + 1 + 1 + 1, 3, none⟩ (.bool y3)).setCell ⟨w.heap.size + 1 + 1 + 1, 4, none⟩ (.bool y4)).setCell ⟨w.heap.size + 1 + 1 + 1, 5, none⟩ (.bool y5)) = sets6 w5 (w.heap.size + 1 + 1 + 1) (.bool y0) (.bool y1) (.bool y2) (.bool y3) (.bool y4) (.bool y5) from rfl]
  clear c0 c1 c2 c3 c4 c5 z0 z1 z2 z3 z4 z5 oR5 oA5 oB5 oS5 hb6
  generalize sets6 w5 (w.heap.size + 1 + 1 + 1) (.bool y0) (.bool y1) (.bool y2) (.bool y3) (.bool y4) (.bool y5) = w6 at *
  refine hK.out _ _ ⟨oA6, oB6⟩ (fun hHeld2 => ?_)
  clear hK K hHeld
  have hHeld := hHeld2
  clear hHeld2
  try simp only [Act.put, List.getElem_toArray, List.getElem_cons_zero, List.getElem_cons_succ, List.setIfInBounds_toArray, List.set_cons_zero, List.set_cons_succ]
  refine wpAnyH_done (by kernel_rfl) ?_ _
  go_wp2
  exact bodyPost_ret (results_twoN (p := 4) (q := 5) (fn := Tryd.f39) rfl _ _ (w.heap.size + 1 + 1) 23 _ _ (w.heap.size + 1 + 1 + 1) 23 _ _ rfl oR6 opt_descN rfl (opt_infoN _ _ _ _ _ _) rfl oS6 opt_descN rfl (opt_infoN _ _ _ _ _ _)) rfl ⟨rfl, hb7⟩
end Go.Proofs.YtniheakafkakhaaDoor

/- layer 22: Hold, Internal, Winner -/
namespace Go.Proofs.YtniheakafkakhaaDoor
open Go.RowKit Go.Sort

def holdK (q q' : Int) : Int := if q = 0 then 0 else if q' = 0 then 0 else min q q'
set_option maxRecDepth 100000 in
theorem nhold_any (p q r : Int) (A : Option Addr) (n c : Nat) (p' q' r' : Int) (A' : Option Addr) (n' c' : Nat) (w : World) : Calls Tryd.prog 44 #[.agg #[.int .u32 p, .int .i64 q, .int .u32 r, .slice A n c], .agg #[.int .u32 p', .int .i64 q', .int .u32 r', .slice A' n' c']] w fun e w' => e = .returned (.int .i64 (holdK q q')) ∧ Below w.heap.size w w' := by
  have HK : Hid (holdK q q' = if q = 0 then 0 else if q' = 0 then 0 else min q q') := Lib.hid rfl
  obtain ⟨_, rfl, oA, oB, hbX, hXs⟩ := two_boxesN w #[.int .u32 p, .int .i64 q, .int .u32 r, .slice A n c] #[.int .u32 p', .int .i64 q', .int .u32 r', .slice A' n' c'] 47 47
  obtain ⟨a0, a1, a2, a3⟩ := own_end oA
  obtain ⟨b0, b1, b2, b3⟩ := own_end oB
  by_cases h1 : q = 0
  · have hv := Lib.hid (show holdK q q' = 0 by rw [HK.out, if_pos h1])
    subst h1
    clear HK
    go_enter Tryd.func44, Tryd.ntmps44
    go_wp2
    go_ret
    exact ⟨by rw [hv.out]; first | done | rfl, hbX⟩
  · by_cases h2 : q' = 0
    · have hv := Lib.hid (show holdK q q' = 0 by rw [HK.out, if_neg h1, if_pos h2])
      have e1 : (q == 0) = false := by simpa using h1
      subst h2
      clear HK h1
      go_enter Tryd.func44, Tryd.ntmps44
      go_wp2
      go_ret
      exact ⟨by rw [hv.out]; first | done | rfl, hbX⟩
    · have e1 : (q == 0) = false := by simpa using h1
      have e2 : (q' == 0) = false := by simpa using h2
      by_cases h3 : q' < q
      · have hv := Lib.hid (show holdK q q' = q' by rw [HK.out, if_neg h1, if_neg h2]; omega)
        clear HK h1 h2
        go_enter Tryd.func44, Tryd.ntmps44
        go_wp2
        go_ret
        exact ⟨by rw [hv.out]; first | done | rfl, hbX⟩
      · have hv := Lib.hid (show holdK q q' = q by rw [HK.out, if_neg h1, if_neg h2]; omega)
        clear HK h1 h2
        go_enter Tryd.func44, Tryd.ntmps44
        go_wp2
        go_ret
        exact ⟨by rw [hv.out]; first | done | rfl, hbX⟩
set_option maxRecDepth 100000 in
theorem rhold_any (p q r : Int) (A : Option Addr) (n c : Nat) (p' q' r' : Int) (A' : Option Addr) (n' c' : Nat) (w : World) : Calls Tryd.prog 46 #[.agg #[.int .u32 p, .int .i64 q, .int .u32 r, .slice A n c], .agg #[.int .u32 p', .int .i64 q', .int .u32 r', .slice A' n' c']] w fun e w' => e = .returned (.int .i64 (holdK q q')) ∧ Below w.heap.size w w' := by
  have HK : Hid (holdK q q' = if q = 0 then 0 else if q' = 0 then 0 else min q q') := Lib.hid rfl
  obtain ⟨_, rfl, oA, oB, hbX, hXs⟩ := two_boxesN w #[.int .u32 p, .int .i64 q, .int .u32 r, .slice A n c] #[.int .u32 p', .int .i64 q', .int .u32 r', .slice A' n' c'] 41 41
  obtain ⟨a0, a1, a2, a3⟩ := own_end oA
  obtain ⟨b0, b1, b2, b3⟩ := own_end oB
  by_cases h1 : q = 0
  · have hv := Lib.hid (show holdK q q' = 0 by rw [HK.out, if_pos h1])
    subst h1
    clear HK
    go_enter Tryd.func46, Tryd.ntmps46
    go_wp2
    go_ret
    exact ⟨by rw [hv.out]; first | done | rfl, hbX⟩
  · by_cases h2 : q' = 0
    · have hv := Lib.hid (show holdK q q' = 0 by rw [HK.out, if_neg h1, if_pos h2])
      have e1 : (q == 0) = false := by simpa using h1
      subst h2
      clear HK h1
      go_enter Tryd.func46, Tryd.ntmps46
      go_wp2
      go_ret
      exact ⟨by rw [hv.out]; first | done | rfl, hbX⟩
    · have e1 : (q == 0) = false := by simpa using h1
      have e2 : (q' == 0) = false := by simpa using h2
      by_cases h3 : q' < q
      · have hv := Lib.hid (show holdK q q' = q' by rw [HK.out, if_neg h1, if_neg h2]; omega)
        clear HK h1 h2
        go_enter Tryd.func46, Tryd.ntmps46
        go_wp2
        go_ret
        exact ⟨by rw [hv.out]; first | done | rfl, hbX⟩
      · have hv := Lib.hid (show holdK q q' = q by rw [HK.out, if_neg h1, if_neg h2]; omega)
        clear HK h1 h2
        go_enter Tryd.func46, Tryd.ntmps46
        go_wp2
        go_ret
        exact ⟨by rw [hv.out]; first | done | rfl, hbX⟩
set_option maxRecDepth 100000 in
theorem ninternal_any (p q r : Int) (A : Option Addr) (n c : Nat) (p' q' r' : Int) (A' : Option Addr) (n' c' : Nat) (w : World) : Calls Tryd.prog 49 #[.agg #[.int .u32 p, .int .i64 q, .int .u32 r, .slice A n c], .agg #[.int .u32 p', .int .i64 q', .int .u32 r', .slice A' n' c']] w fun e w' => e = .returned (.bool (p == p')) ∧ Below w.heap.size w w' := by
  obtain ⟨_, rfl, oA, oB, hbX, hXs⟩ := two_boxesN w #[.int .u32 p, .int .i64 q, .int .u32 r, .slice A n c] #[.int .u32 p', .int .i64 q', .int .u32 r', .slice A' n' c'] 47 47
  obtain ⟨a0, a1, a2, a3⟩ := own_end oA
  obtain ⟨b0, b1, b2, b3⟩ := own_end oB
  go_enter Tryd.func49, Tryd.ntmps49
  go_wp2
  go_ret
  exact ⟨rfl, hbX⟩
def cmpU (x y : Int) : Int := if x < y then -1 else if y < x then 1 else 0
set_option maxRecDepth 100000 in
theorem unan_any (x : Int) (w : World) : Calls Tryd.prog 128 #[.int .u32 x] w fun e w' => e = .returned (.bool false) ∧ w = w' := by
  go_enter Tryd.func128, Tryd.ntmps128
  go_wp2
  go_ret
  exact ⟨by simp, rfl⟩
set_option maxRecDepth 100000 in
theorem ucmp_any (x y : Int) (w : World) : Calls Tryd.prog 99 #[.int .u32 x, .int .u32 y] w fun e w' => e = .returned (.int .i64 (cmpU x y)) ∧ w' = w := by
  have hc : Hid (cmpU x y = if x < y then -1 else if y < x then 1 else 0) := Lib.hid rfl
  rcases Int.lt_trichotomy x y with h | h | h
  · have h1 : decide (x < y) = true := decide_eq_true h
    have HC : Hid (cmpU x y = -1) := Lib.hid (by rw [hc.out, if_pos h])
    clear h
    go_enter Tryd.func99, Tryd.ntmps99
    go_wp2_with (go_at_call 128; refine (unan_any _ _).mono ?_; rintro e w' ⟨rfl, rfl⟩)
    go_ret
    exact ⟨by rw [HC.out]; rfl, rfl⟩
  · subst h
    have HC : Hid (cmpU x x = 0) := Lib.hid (by rw [hc.out, if_neg (by omega), if_neg (by omega)])
    have h1 : decide (x < x) = false := by simp
    go_enter Tryd.func99, Tryd.ntmps99
    go_wp2_with (go_at_call 128; refine (unan_any _ _).mono ?_; rintro e w' ⟨rfl, rfl⟩)
    go_ret
    exact ⟨by rw [HC.out]; rfl, rfl⟩
  · have h1 : decide (x < y) = false := by simp; omega
    have h2 : decide (y < x) = true := decide_eq_true h
    have HC : Hid (cmpU x y = 1) := Lib.hid (by rw [hc.out, if_neg (by omega), if_pos h])
    clear h
    go_enter Tryd.func99, Tryd.ntmps99
    go_wp2_with (go_at_call 128; refine (unan_any _ _).mono ?_; rintro e w' ⟨rfl, rfl⟩)
    go_ret
    exact ⟨by rw [HC.out]; rfl, rfl⟩
def orK (x y : Int) : Int := if x = 0 then y else x
set_option maxRecDepth 100000 in
theorem cmpor_any (x y : Int) (g : Nat) (w : World) (h : Own w g 3 #[.int .i64 x, .int .i64 y]) : Calls Tryd.prog 98 #[.slice (some ⟨g, 0, none⟩) 2 2] w fun e w' => e = .returned (.int .i64 (orK x y)) ∧ w = w' := by
  have HK : Hid (orK x y = if x = 0 then y else x) := Lib.hid rfl
  obtain ⟨c0, c1⟩ := own_twoF h
  have hlt := h.lt
  clear h
  go_enter Tryd.func98, Tryd.ntmps98
  go_wp2_with fail
  go_loopw [5, 8] (fun _ i wr => ∃ j : Nat, j ≤ 2 ∧ i = .int .i64 j ∧ w = wr ∧ Hid ((1 ≤ j → x = 0) ∧ (2 ≤ j → y = 0))) (fun _ i _ => 2 - (intOf i).toNat)
  case atStart => exact ⟨0, by omega, rfl, rfl, Lib.hid ⟨by omega, by omega⟩⟩
  case round =>
    obtain ⟨j, hj, rfl, rfl, hz⟩ := hrel
    rcases j with _ | _ | j
    · by_cases hx : x = 0
      · subst hx
        go_wp2
        go_roundw
        case rel => exact ⟨1, by omega, by go_num, (by first | rfl | trivial), Lib.hid (by simp)⟩
        case measure => simp [intOf]
      · have hv := Lib.hid (show orK x y = x by rw [HK.out, if_neg hx])
        have e1 : (x == 0) = false := by simpa using hx
        have e2 : (x != 0) = true := by simpa using hx
        clear HK hx
        go_wp2
        go_ret
        exact ⟨by rw [hv.out]; first | done | rfl, rfl⟩
    · have hx := hz.out.1 (by omega)
      subst hx
      have hv := Lib.hid (show orK 0 y = y by rw [HK.out, if_pos rfl])
      by_cases hy : y = 0
      · subst hy
        go_wp2
        go_roundw
        case rel => exact ⟨2, by omega, by go_num, (by first | rfl | trivial), Lib.hid (by simp)⟩
        case measure => simp [intOf]
      · have e1 : (y == 0) = false := by simpa using hy
        have e2 : (y != 0) = true := by simpa using hy
        clear HK hy
        go_wp2
        go_ret
        exact ⟨by rw [hv.out]; first | done | rfl, rfl⟩
    · obtain rfl : j = 0 := by omega
      have hx := hz.out.1 (by omega)
      have hy := hz.out.2 (by omega)
      subst hx hy
      have hv := Lib.hid (show orK 0 0 = 0 by rw [HK.out, if_pos rfl])
      go_wp2
      go_ret
      exact ⟨by rw [hv.out]; first | done | rfl, rfl⟩
def winV (c : Int) : Int := if c = 1 then 1 else if c = -1 then 2 else 0
def winK (p r p' r' : Int) : Int := winV (orK (cmpU r r') (cmpU p p'))
theorem cmpU_cases (x y : Int) : cmpU x y = -1 ∨ cmpU x y = 0 ∨ cmpU x y = 1 := by
  unfold cmpU
  split
  · exact .inl rfl
  · split
    · exact .inr (.inr rfl)
    · exact .inr (.inl rfl)
theorem or_cases (x y : Int) (hx : x = -1 ∨ x = 0 ∨ x = 1) (hy : y = -1 ∨ y = 0 ∨ y = 1) : orK x y = -1 ∨ orK x y = 0 ∨ orK x y = 1 := by unfold orK; split <;> assumption
set_option maxRecDepth 100000 in
set_option maxHeartbeats 3200000 in
theorem nwinner_any (p q r : Int) (A : Option Addr) (n c : Nat) (p' q' r' : Int) (A' : Option Addr) (n' c' : Nat) (w : World) : Calls Tryd.prog 47 #[.agg #[.int .u32 p, .int .i64 q, .int .u32 r, .slice A n c], .agg #[.int .u32 p', .int .i64 q', .int .u32 r', .slice A' n' c']] w fun e w' => e = .returned (.int .i64 (winK p r p' r')) ∧ Below w.heap.size w w' := by
  have HK : Hid (winK p r p' r' = winV (orK (cmpU r r') (cmpU p p'))) := Lib.hid rfl
  obtain ⟨X, hX, oA, oB, hbX, hXs⟩ := two_boxesN w #[.int .u32 p, .int .i64 q, .int .u32 r, .slice A n c] #[.int .u32 p', .int .i64 q', .int .u32 r', .slice A' n' c'] 47 47
  have hC1 := Lib.hid (fun W => ucmp_any r r' W)
  have hC2 := Lib.hid (fun W => ucmp_any p p' W)
  have hOc := Lib.hid (or_cases _ _ (cmpU_cases r r') (cmpU_cases p p'))
  generalize cmpU r r' = x at *
  generalize cmpU p p' = y at *
  go_enter Tryd.func47, Tryd.ntmps47
  go_wp2_with fail
  rw [← hX]
  clear hX
  refine wp_region_held_drew (S := (fun X => Own X w.heap.size 47 #[.int .u32 p, .int .i64 q, .int .u32 r, .slice A n c] ∧ Own X (w.heap.size + 1) 47 #[.int .u32 p', .int .i64 q', .int .u32 r', .slice A' n' c'])) (by kernel_rfl) ⟨oA.drew, oB.drew⟩ (fun hHeld => ?_)
  refine wpAnyH_take (i := 0) (v := ?_) rfl (by kernel_rfl) (by kernel_rfl) (by kernel_rfl) (fun _ _ _ h => h) (Or.inl ⟨by rfl, ?_⟩) (by assumption) ?_
  rotate_left
  · (intro W hSw; have s0 : Own W w.heap.size 47 #[.int .u32 p, .int .i64 q, .int .u32 r, .slice A n c] := hSw.1; have s1 : Own W (w.heap.size + 1) 47 #[.int .u32 p', .int .i64 q', .int .u32 r', .slice A' n' c'] := hSw.2; obtain ⟨e0, e1, e2, e3⟩ := own_end s0; obtain ⟨d0, d1, d2, d3⟩ := own_end s1; go_simp; try with_reducible rfl)
  simp only [Act.put, List.getElem_toArray, List.getElem_cons_zero, List.setIfInBounds_toArray, List.set_cons_zero, List.set_cons_succ]
  refine wpAnyH_take (i := 1) (v := ?_) rfl (by kernel_rfl) (by kernel_rfl) (by kernel_rfl) (fun _ _ _ h => h) (Or.inl ⟨by rfl, ?_⟩) (by assumption) ?_
  rotate_left
  · (intro W hSw; have s0 : Own W w.heap.size 47 #[.int .u32 p, .int .i64 q, .int .u32 r, .slice A n c] := hSw.1; have s1 : Own W (w.heap.size + 1) 47 #[.int .u32 p', .int .i64 q', .int .u32 r', .slice A' n' c'] := hSw.2; obtain ⟨e0, e1, e2, e3⟩ := own_end s0; obtain ⟨d0, d1, d2, d3⟩ := own_end s1; go_simp; try with_reducible rfl)
  simp only [Act.put, List.getElem_toArray, List.getElem_cons_zero, List.getElem_cons_succ, List.setIfInBounds_toArray, List.set_cons_zero, List.set_cons_succ]
  refine wpAnyH_take (i := 2) (v := ?_) rfl (by kernel_rfl) (by kernel_rfl) (by kernel_rfl) (fun _ _ _ h => h) (Or.inl ⟨by rfl, ?_⟩) (by assumption) ?_
  rotate_left
  · (intro W hSw; have s0 : Own W w.heap.size 47 #[.int .u32 p, .int .i64 q, .int .u32 r, .slice A n c] := hSw.1; have s1 : Own W (w.heap.size + 1) 47 #[.int .u32 p', .int .i64 q', .int .u32 r', .slice A' n' c'] := hSw.2; obtain ⟨e0, e1, e2, e3⟩ := own_end s0; obtain ⟨d0, d1, d2, d3⟩ := own_end s1; go_simp; try with_reducible rfl)
  simp only [Act.put, List.getElem_toArray, List.getElem_cons_zero, List.getElem_cons_succ, List.setIfInBounds_toArray, List.set_cons_zero, List.set_cons_succ]
  refine wpAnyH_take (i := 3) (v := ?_) rfl (by kernel_rfl) (by kernel_rfl) (by kernel_rfl) (fun _ _ _ h => h) (Or.inl ⟨by rfl, ?_⟩) (by assumption) ?_
  rotate_left
  · (intro W hSw; have s0 : Own W w.heap.size 47 #[.int .u32 p, .int .i64 q, .int .u32 r, .slice A n c] := hSw.1; have s1 : Own W (w.heap.size + 1) 47 #[.int .u32 p', .int .i64 q', .int .u32 r', .slice A' n' c'] := hSw.2; obtain ⟨e0, e1, e2, e3⟩ := own_end s0; obtain ⟨d0, d1, d2, d3⟩ := own_end s1; go_simp; try with_reducible rfl)
  simp only [Act.put, List.getElem_toArray, List.getElem_cons_zero, List.getElem_cons_succ, List.setIfInBounds_toArray, List.set_cons_zero, List.set_cons_succ]
  refine wpAnyH_take (i := 5) (v := ?_) rfl (by kernel_rfl) (by kernel_rfl) (by kernel_rfl) (fun _ _ _ h => h) (Or.inl ⟨by rfl, ?_⟩) (by assumption) ?_
  rotate_left
  · (intro W hSw; have s0 : Own W w.heap.size 47 #[.int .u32 p, .int .i64 q, .int .u32 r, .slice A n c] := hSw.1; have s1 : Own W (w.heap.size + 1) 47 #[.int .u32 p', .int .i64 q', .int .u32 r', .slice A' n' c'] := hSw.2; obtain ⟨e0, e1, e2, e3⟩ := own_end s0; obtain ⟨d0, d1, d2, d3⟩ := own_end s1; go_simp; try with_reducible rfl)
  simp only [Act.put, List.getElem_toArray, List.getElem_cons_zero, List.getElem_cons_succ, List.setIfInBounds_toArray, List.set_cons_zero, List.set_cons_succ]
  refine wpAnyH_take (i := 6) (v := ?_) rfl (by kernel_rfl) (by kernel_rfl) (by kernel_rfl) (fun _ _ _ h => h) (Or.inl ⟨by rfl, ?_⟩) (by assumption) ?_
  rotate_left
  · (intro W hSw; have s0 : Own W w.heap.size 47 #[.int .u32 p, .int .i64 q, .int .u32 r, .slice A n c] := hSw.1; have s1 : Own W (w.heap.size + 1) 47 #[.int .u32 p', .int .i64 q', .int .u32 r', .slice A' n' c'] := hSw.2; obtain ⟨e0, e1, e2, e3⟩ := own_end s0; obtain ⟨d0, d1, d2, d3⟩ := own_end s1; go_simp; try with_reducible rfl)
  simp only [Act.put, List.getElem_toArray, List.getElem_cons_zero, List.getElem_cons_succ, List.setIfInBounds_toArray, List.set_cons_zero, List.set_cons_succ]
  refine wpAnyH_take (i := 7) (v := ?_) rfl (by kernel_rfl) (by kernel_rfl) (by kernel_rfl) (fun _ _ _ h => h) (Or.inl ⟨by rfl, ?_⟩) (by assumption) ?_
  rotate_left
  · (intro W hSw; have s0 : Own W w.heap.size 47 #[.int .u32 p, .int .i64 q, .int .u32 r, .slice A n c] := hSw.1; have s1 : Own W (w.heap.size + 1) 47 #[.int .u32 p', .int .i64 q', .int .u32 r', .slice A' n' c'] := hSw.2; obtain ⟨e0, e1, e2, e3⟩ := own_end s0; obtain ⟨d0, d1, d2, d3⟩ := own_end s1; go_simp; try with_reducible rfl)
  simp only [Act.put, List.getElem_toArray, List.getElem_cons_zero, List.getElem_cons_succ, List.setIfInBounds_toArray, List.set_cons_zero, List.set_cons_succ]
  refine wpAnyH_take (i := 8) (v := ?_) rfl (by kernel_rfl) (by kernel_rfl) (by kernel_rfl) (fun _ _ _ h => h) (Or.inl ⟨by rfl, ?_⟩) (by assumption) ?_
  rotate_left
  · (intro W hSw; have s0 : Own W w.heap.size 47 #[.int .u32 p, .int .i64 q, .int .u32 r, .slice A n c] := hSw.1; have s1 : Own W (w.heap.size + 1) 47 #[.int .u32 p', .int .i64 q', .int .u32 r', .slice A' n' c'] := hSw.2; obtain ⟨e0, e1, e2, e3⟩ := own_end s0; obtain ⟨d0, d1, d2, d3⟩ := own_end s1; go_simp; try with_reducible rfl)
  simp only [Act.put, List.getElem_toArray, List.getElem_cons_zero, List.getElem_cons_succ, List.setIfInBounds_toArray, List.set_cons_zero, List.set_cons_succ]
  refine wpAnyH_ready (rs := [4]) (by kernel_rfl) (by simp) ?_
  refine (AllReadyH.cons rfl (fun K hK => ?_) AllReadyH.nil)
  go_simp
  go_at_call 99
  refine (hC1.out _).mono ?_
  rintro e w2 ⟨rfl, rfl⟩
  refine hK.out _ _ ⟨oA.drew, oB.drew⟩ (fun hHeld2 => ?_)
  clear hK K hHeld
  have hHeld := hHeld2
  clear hHeld2
  try simp only [Act.put, List.getElem_toArray, List.getElem_cons_zero, List.getElem_cons_succ, List.setIfInBounds_toArray, List.set_cons_zero, List.set_cons_succ]
  refine wpAnyH_ready (rs := [9]) (by kernel_rfl) (by simp) ?_
  refine (AllReadyH.cons rfl (fun K hK => ?_) AllReadyH.nil)
  go_simp
  go_at_call 99
  refine (hC2.out _).mono ?_
  rintro e w2 ⟨rfl, rfl⟩
  have hbD : Below w.heap.size w X.drew := bl_drewN hbX 1
  have oA1 := oA.drew
  have oB1 := oB.drew
  generalize X.drew = Y at *
  have oC := Own.new Y 3 #[.int .i64 x, .int .i64 y]
  have hbC := bl_alloc hbD (.cells #[.int .i64 x, .int .i64 y] 3)
  have oA2 := oA1.alloc (.cells #[.int .i64 x, .int .i64 y] 3)
  have oB2 := oB1.alloc (.cells #[.int .i64 x, .int .i64 y] 3)
  refine hK.out _ _ ⟨oA1, oB1⟩ (fun hHeld2 => ?_)
  clear hK K hHeld
  have hHeld := hHeld2
  clear hHeld2
  try simp only [Act.put, List.getElem_toArray, List.getElem_cons_zero, List.getElem_cons_succ, List.setIfInBounds_toArray, List.set_cons_zero, List.set_cons_succ]
  refine wpAnyH_ready (rs := [10]) (by kernel_rfl) (by simp) ?_
  refine (AllReadyH.cons rfl (fun K hK => ?_) AllReadyH.nil)
  go_simp
  refine hK.out _ _ ⟨oA2, oB2⟩ (fun hHeld2 => ?_)
  clear hK K hHeld
  have hHeld := hHeld2
  clear hHeld2
  try simp only [Act.put, List.getElem_toArray, List.getElem_cons_zero, List.getElem_cons_succ, List.setIfInBounds_toArray, List.set_cons_zero, List.set_cons_succ]
  refine wpAnyH_ready (rs := [11]) (by kernel_rfl) (by simp) ?_
  refine (AllReadyH.cons rfl (fun K hK => ?_) AllReadyH.nil)
  go_simp
  go_at_call 98
  refine (cmpor_any x y Y.heap.size _ oC).mono ?_
  rintro e w2 ⟨rfl, rfl⟩
  refine hK.out _ _ ⟨oA2, oB2⟩ (fun hHeld2 => ?_)
  clear hK K hHeld
  have hHeld := hHeld2
  clear hHeld2
  try simp only [Act.put, List.getElem_toArray, List.getElem_cons_zero, List.getElem_cons_succ, List.setIfInBounds_toArray, List.set_cons_zero, List.set_cons_succ]
  refine wpAnyH_done (by kernel_rfl) ?_ _
  clear oA oB oA1 oB1 oA2 oB2 oC hC1 hC2
  generalize orK x y = o at *
  rcases hOc.out with ho | ho | ho
  · subst ho
    go_wp2
    go_ret
    exact ⟨by rw [HK.out]; rfl, hbC⟩
  · subst ho
    go_wp2
    go_ret
    exact ⟨by rw [HK.out]; rfl, hbC⟩
  · subst ho
    go_wp2
    go_ret
    exact ⟨by rw [HK.out]; rfl, hbC⟩
theorem win_eq (p r p' r' : Int) : winK p r p' r' = if r = r' then (if p = p' then 0 else if p' < p then 1 else 2) else if r' < r then 1 else 2 := by
  unfold winK winV orK cmpU
  by_cases h1 : r = r'
  · subst h1
    simp only [Int.lt_irrefl, if_false, if_true]
    by_cases h2 : p = p'
    · subst h2; simp
    · rcases Int.lt_or_gt_of_ne h2 with h3 | h3
      · simp only [if_pos h3, if_neg h2, if_neg (show ¬ p' < p by omega)]; rfl
      · simp only [if_neg (show ¬ p < p' by omega), if_pos (show p' < p from h3), if_neg h2]; rfl
  · rcases Int.lt_or_gt_of_ne h1 with h3 | h3
    · simp only [if_pos h3, if_neg h1, if_neg (show ¬ r' < r by omega)]; rfl
    · simp only [if_neg (show ¬ r < r' by omega), if_pos (show r' < r from h3), if_neg h1]; rfl
set_option maxRecDepth 100000 in
set_option maxHeartbeats 3200000 in
theorem rwinner_any (p q r : Int) (A : Option Addr) (n c : Nat) (p' q' r' : Int) (A' : Option Addr) (n' c' : Nat) (w : World) : Calls Tryd.prog 48 #[.agg #[.int .u32 p, .int .i64 q, .int .u32 r, .slice A n c], .agg #[.int .u32 p', .int .i64 q', .int .u32 r', .slice A' n' c']] w fun e w' => e = .returned (.int .i64 (winK p r p' r')) ∧ Below w.heap.size w w' := by
  have HK := Lib.hid (win_eq p r p' r')
  obtain ⟨_, rfl, oA, oB, hbX, hXs⟩ := two_boxesN w #[.int .u32 p, .int .i64 q, .int .u32 r, .slice A n c] #[.int .u32 p', .int .i64 q', .int .u32 r', .slice A' n' c'] 41 41
  obtain ⟨a0, a1, a2, a3⟩ := own_end oA
  obtain ⟨b0, b1, b2, b3⟩ := own_end oB
  by_cases h1 : r = r'
  · by_cases h2 : p = p'
    · have hv := Lib.hid (show winK p r p' r' = 0 by rw [HK.out, if_pos h1, if_pos h2])
      subst h1 h2
      clear HK
      go_enter Tryd.func48, Tryd.ntmps48
      go_wp2
      go_ret
      exact ⟨by rw [hv.out]; first | done | rfl, hbX⟩
    · by_cases h3 : p' < p
      · have hv := Lib.hid (show winK p r p' r' = 1 by rw [HK.out, if_pos h1, if_neg h2, if_pos h3])
        have e1 : (p == p') = false := by simpa using h2
        have e2 : (p != p') = true := by simpa using h2
        have e3 : decide (p' < p) = true := decide_eq_true h3
        subst h1
        clear HK h2 h3
        go_enter Tryd.func48, Tryd.ntmps48
        go_wp2
        go_ret
        exact ⟨by rw [hv.out]; first | done | rfl, hbX⟩
      · have hv := Lib.hid (show winK p r p' r' = 2 by rw [HK.out, if_pos h1, if_neg h2, if_neg h3])
        have e1 : (p == p') = false := by simpa using h2
        have e2 : (p != p') = true := by simpa using h2
        have e3 : decide (p' < p) = false := decide_eq_false h3
        subst h1
        clear HK h2 h3
        go_enter Tryd.func48, Tryd.ntmps48
        go_wp2
        go_ret
        exact ⟨by rw [hv.out]; first | done | rfl, hbX⟩
  · by_cases h3 : r' < r
    · have hv := Lib.hid (show winK p r p' r' = 1 by rw [HK.out, if_neg h1, if_pos h3])
      have e1 : (r == r') = false := by simpa using h1
      have e2 : (r != r') = true := by simpa using h1
      have e3 : decide (r' < r) = true := decide_eq_true h3
      clear HK h1 h3
      go_enter Tryd.func48, Tryd.ntmps48
      go_wp2
      go_ret
      exact ⟨by rw [hv.out]; first | done | rfl, hbX⟩
    · have hv := Lib.hid (show winK p r p' r' = 2 by rw [HK.out, if_neg h1, if_neg h3])
      have e1 : (r == r') = false := by simpa using h1
      have e2 : (r != r') = true := by simpa using h1
      have e3 : decide (r' < r) = false := decide_eq_false h3
      clear HK h1 h3
      go_enter Tryd.func48, Tryd.ntmps48
      go_wp2
      go_ret
      exact ⟨by rw [hv.out]; first | done | rfl, hbX⟩
end Go.Proofs.YtniheakafkakhaaDoor

/- layer 22: peerageref22.One -/
namespace Go.Proofs.YtniheakafkakhaaDoor
open Go.RowKit Go.Sort

set_option maxRecDepth 100000 in
theorem rsends_any (m : Int) (w : World) : Calls Tryd.prog 93 #[.int .i64 m] w fun e w' => e = .returned (.bool (givesB m)) ∧ w = w' := by
  have HK : Hid (givesB m = (m == 2 || m == 3)) := Lib.hid rfl
  by_cases h1 : m = 2
  · have hv := Lib.hid (show givesB m = true by rw [HK.out, h1]; rfl)
    subst h1
    clear HK
    go_enter Tryd.func93, Tryd.ntmps93
    go_wp2
    go_ret
    exact ⟨by rw [hv.out]; first | done | rfl, rfl⟩
  · have e1 : (m == 2) = false := by simpa using h1
    have hv := Lib.hid (show givesB m = (m == 3) by rw [HK.out, e1]; rfl)
    clear HK h1
    go_enter Tryd.func93, Tryd.ntmps93
    go_wp2
    go_ret
    exact ⟨by rw [hv.out]; first | done | rfl, rfl⟩
set_option maxRecDepth 100000 in
theorem rreceives_any (m : Int) (w : World) : Calls Tryd.prog 95 #[.int .i64 m] w fun e w' => e = .returned (.bool (takesB m)) ∧ w = w' := by
  have HK : Hid (takesB m = (m == 1 || m == 3)) := Lib.hid rfl
  by_cases h1 : m = 1
  · have hv := Lib.hid (show takesB m = true by rw [HK.out, h1]; rfl)
    subst h1
    clear HK
    go_enter Tryd.func95, Tryd.ntmps95
    go_wp2
    go_ret
    exact ⟨by rw [hv.out]; first | done | rfl, rfl⟩
  · have e1 : (m == 1) = false := by simpa using h1
    have hv := Lib.hid (show takesB m = (m == 3) by rw [HK.out, e1]; rfl)
    clear HK h1
    go_enter Tryd.func95, Tryd.ntmps95
    go_wp2
    go_ret
    exact ⟨by rw [hv.out]; first | done | rfl, rfl⟩
theorem three_boxesN (w : World) (c0 c1 c2 : Array Value) (t0 t1 t2 : TypeId) : ∃ W, W = (((w.alloc (.cells c0 t0)).alloc (.cells c1 t1)).alloc (.cells c2 t2)) ∧ Own W w.heap.size t0 c0 ∧ Own W (w.heap.size + 1) t1 c1 ∧ Own W (w.heap.size + 1 + 1) t2 c2 ∧ Below w.heap.size w W ∧ W.heap.size = w.heap.size + 1 + 1 + 1 := by
  have s1 : (w.alloc (.cells c0 t0)).heap.size = w.heap.size + 1 := by simp
  have s2 : ((w.alloc (.cells c0 t0)).alloc (.cells c1 t1)).heap.size = w.heap.size + 1 + 1 := by simp
  have o1 := Own.new (w.alloc (.cells c0 t0)) t1 c1
  have o2 := Own.new ((w.alloc (.cells c0 t0)).alloc (.cells c1 t1)) t2 c2
  rw [s1] at o1
  rw [s2] at o2
  exact ⟨_, rfl, (((Own.new w t0 c0).alloc _).alloc _), (o1.alloc _), o2, bl_alloc (bl_alloc (bl_alloc (bl_refl w) _) _) _, by simp⟩
/-- What One has found so far. -/
structure OneS (w W : World) (a b z o : Array Value) : Prop where
  lo : Below w.heap.size w W
  A : Own W w.heap.size 41 a
  B : Own W (w.heap.size + 1) 41 b
  R : Own W (w.heap.size + 1 + 1) 23 z
  O : Own W (w.heap.size + 1 + 1 + 1) 23 o
theorem OneS.step {w W W' : World} {a b z o : Array Value} (h : OneS w W a b z o) (hb : Below W.heap.size W W') : OneS w W' a b z o := ⟨bl_trans h.lo hb, h.A.step hb, h.B.step hb, h.R.step hb, h.O.step hb⟩
theorem OneS.setO {w W : World} {a b z o : Array Value} (h : OneS w W a b z o) (i : Nat) (v : Value) : OneS w (W.setCell ⟨w.heap.size + 1 + 1 + 1, i, none⟩ v) a b z (o.setIfInBounds i v) :=
  ⟨h.lo.setCell (by show w.heap.size ≤ w.heap.size + 1 + 1 + 1; omega) v, h.A.far (p := ⟨w.heap.size + 1 + 1 + 1, i, none⟩) (by show w.heap.size ≠ w.heap.size + 1 + 1 + 1; omega) v, h.B.far (p := ⟨w.heap.size + 1 + 1 + 1, i, none⟩) (by show w.heap.size + 1 ≠ w.heap.size + 1 + 1 + 1; omega) v, h.R.far (p := ⟨w.heap.size + 1 + 1 + 1, i, none⟩) (by show w.heap.size + 1 + 1 ≠ w.heap.size + 1 + 1 + 1; omega) v, h.O.set_ i v⟩
theorem one6_ext {w W : World} {a b z o o' : Array Value} (h : OneS w W a b z o) (e : o = o') : OneS w W a b z o' := e ▸ h
set_option maxRecDepth 100000 in
set_option maxHeartbeats 12800000 in
theorem rone_any (p q r : Int) (A : Option Addr) (n c : Nat) (p' q' r' : Int) (A' : Option Addr) (n' c' : Nat) (ss ts : List Cp) (w : World) (h : Caps w w.heap.size A n ss) (h' : Caps w w.heap.size A' n' ts) (hn : n ≤ 1000) (hn' : n' ≤ 1000) (hs : ∀ s ∈ ss, s.n ≤ 100000) (hs' : ∀ s ∈ ts, s.n ≤ 100000) :
    Calls Tryd.prog 40 #[.agg #[.int .u32 p, .int .i64 q, .int .u32 r, .slice A n c], .agg #[.int .u32 p', .int .i64 q', .int .u32 r', .slice A' n' c']] w fun e w' => e = .returned (.agg (towK (ss.map cpK) (ts.map cpK))) ∧ Below w.heap.size w w' := by
  have hSa : Hid (∀ W, Below w.heap.size w W → Calls Tryd.prog 90 #[.slice A n c] W fun e w' => e = .returned (.tuple #[.int .u32 ((sysK (ss.map cpK)).getD 0), .bool (sysK (ss.map cpK)).isSome]) ∧ W = w') := Lib.hid fun W hb => rcsys_any A n c ss W (h.step hb) (by omega)
  have hHa : Hid (∀ W, Below w.heap.size w W → Calls Tryd.prog 91 #[.int .i64 6, .int .i64 0, .slice A n c] W fun e w' => e = .returned (.bool (hasK 6 0 (ss.map cpK))) ∧ W = w') := Lib.hid fun W hb => rchas_any 6 0 A n c ss W (h.step hb) (by omega)
  have hF1a : Hid (∀ W, Below w.heap.size w W → Calls Tryd.prog 92 #[.int .i64 1, .slice A n c] W fun e w' => e = .returned (.bool (famK 1 (ss.map cpK))) ∧ Below W.heap.size W w') := Lib.hid fun W hb => rcfam_any 1 (by decide) A n c ss W (h.step hb) (by omega)
  have hM1a : Hid (∀ W, Below w.heap.size w W → Calls Tryd.prog 94 #[.int .i64 1, .slice A n c] W fun e w' => e = .returned (.int .i64 (modK 1 (ss.map cpK))) ∧ Below W.heap.size W w') := Lib.hid fun W hb => rcmode_any 1 (by decide) A n c ss W (h.step hb) (by omega) hs
  have hF2a : Hid (∀ W, Below w.heap.size w W → Calls Tryd.prog 92 #[.int .i64 2, .slice A n c] W fun e w' => e = .returned (.bool (famK 2 (ss.map cpK))) ∧ Below W.heap.size W w') := Lib.hid fun W hb => rcfam_any 2 (by decide) A n c ss W (h.step hb) (by omega)
  have hM2a : Hid (∀ W, Below w.heap.size w W → Calls Tryd.prog 94 #[.int .i64 2, .slice A n c] W fun e w' => e = .returned (.int .i64 (modK 2 (ss.map cpK))) ∧ Below W.heap.size W w') := Lib.hid fun W hb => rcmode_any 2 (by decide) A n c ss W (h.step hb) (by omega) hs
  have hR1a := Lib.hid (fun W => rsends_any (modK 1 (ss.map cpK)) W)
  have hR2a := Lib.hid (fun W => rsends_any (modK 2 (ss.map cpK)) W)
  have hSb : Hid (∀ W, Below w.heap.size w W → Calls Tryd.prog 90 #[.slice A' n' c'] W fun e w' => e = .returned (.tuple #[.int .u32 ((sysK (ts.map cpK)).getD 0), .bool (sysK (ts.map cpK)).isSome]) ∧ W = w') := Lib.hid fun W hb => rcsys_any A' n' c' ts W (h'.step hb) (by omega)
  have hHb : Hid (∀ W, Below w.heap.size w W → Calls Tryd.prog 91 #[.int .i64 6, .int .i64 0, .slice A' n' c'] W fun e w' => e = .returned (.bool (hasK 6 0 (ts.map cpK))) ∧ W = w') := Lib.hid fun W hb => rchas_any 6 0 A' n' c' ts W (h'.step hb) (by omega)
  have hF1b : Hid (∀ W, Below w.heap.size w W → Calls Tryd.prog 92 #[.int .i64 1, .slice A' n' c'] W fun e w' => e = .returned (.bool (famK 1 (ts.map cpK))) ∧ Below W.heap.size W w') := Lib.hid fun W hb => rcfam_any 1 (by decide) A' n' c' ts W (h'.step hb) (by omega)
  have hM1b : Hid (∀ W, Below w.heap.size w W → Calls Tryd.prog 94 #[.int .i64 1, .slice A' n' c'] W fun e w' => e = .returned (.int .i64 (modK 1 (ts.map cpK))) ∧ Below W.heap.size W w') := Lib.hid fun W hb => rcmode_any 1 (by decide) A' n' c' ts W (h'.step hb) (by omega) hs'
  have hF2b : Hid (∀ W, Below w.heap.size w W → Calls Tryd.prog 92 #[.int .i64 2, .slice A' n' c'] W fun e w' => e = .returned (.bool (famK 2 (ts.map cpK))) ∧ Below W.heap.size W w') := Lib.hid fun W hb => rcfam_any 2 (by decide) A' n' c' ts W (h'.step hb) (by omega)
  have hM2b : Hid (∀ W, Below w.heap.size w W → Calls Tryd.prog 94 #[.int .i64 2, .slice A' n' c'] W fun e w' => e = .returned (.int .i64 (modK 2 (ts.map cpK))) ∧ Below W.heap.size W w') := Lib.hid fun W hb => rcmode_any 2 (by decide) A' n' c' ts W (h'.step hb) (by omega) hs'
  have hR1b := Lib.hid (fun W => rreceives_any (modK 1 (ts.map cpK)) W)
  have hR2b := Lib.hid (fun W => rreceives_any (modK 2 (ts.map cpK)) W)
  unfold towK
  generalize (sysK (ss.map cpK)).isSome = l0 at *
  generalize hasK 6 0 (ss.map cpK) = l1 at *
  generalize famK 1 (ss.map cpK) = l2 at *
  generalize famK 2 (ss.map cpK) = l3 at *
  generalize givesB (modK 1 (ss.map cpK)) = l4 at *
  generalize givesB (modK 2 (ss.map cpK)) = l5 at *
  generalize (sysK (ss.map cpK)).getD 0 = ls at *
  generalize modK 1 (ss.map cpK) = l6 at *
  generalize modK 2 (ss.map cpK) = l7 at *
  generalize (sysK (ts.map cpK)).isSome = r0 at *
  generalize hasK 6 0 (ts.map cpK) = r1 at *
  generalize famK 1 (ts.map cpK) = r2 at *
  generalize famK 2 (ts.map cpK) = r3 at *
  generalize takesB (modK 1 (ts.map cpK)) = r4 at *
  generalize takesB (modK 2 (ts.map cpK)) = r5 at *
  generalize (sysK (ts.map cpK)).getD 0 = rs at *
  generalize modK 1 (ts.map cpK) = r6 at *
  generalize modK 2 (ts.map cpK) = r7 at *
  clear h h' hn hn' hs hs'
  obtain ⟨X, hX, oA, oB, oR, hbX, hXs⟩ := three_boxesN w #[.int .u32 p, .int .i64 q, .int .u32 r, .slice A n c] #[.int .u32 p', .int .i64 q', .int .u32 r', .slice A' n' c'] #[.bool false, .bool false, .bool false, .bool false, .bool false, .bool false] 41 41 23
  obtain ⟨a0, a1, a2, a3⟩ := own_end oA
  obtain ⟨b0, b1, b2, b3⟩ := own_end oB
  go_enter Tryd.func40, Tryd.ntmps40
  go_upto_region 1 with fail
  rw [← hX]
  clear hX
  go_wp2_with fail
  refine (hSa.out _ hbX).mono ?_
  rintro e w2 ⟨rfl, rfl⟩
  go_wp2_with fail
  refine (hSb.out _ hbX).mono ?_
  rintro e w3 ⟨rfl, rfl⟩
  clear hSa hSb a0 a1 a2 a3 b0 b1 b2 b3
  go_upto_region 3 with fail
  go_cut [9] (fun v9 wx => v9 = .pointer (some ⟨w.heap.size + 1 + 1 + 1, 0, none⟩) ∧ OneS w wx #[.int .u32 p, .int .i64 q, .int .u32 r, .slice A n c] #[.int .u32 p', .int .i64 q', .int .u32 r', .slice A' n' c'] #[.bool false, .bool false, .bool false, .bool false, .bool false, .bool false] #[.bool (l0 && r0), .bool false, .bool false, .bool false, .bool false, .bool false])
  case first =>
    have hN : OneS w (X.alloc (.cells #[.bool (l0 && r0), .bool false, .bool false, .bool false, .bool false, .bool false] 23)) #[.int .u32 p, .int .i64 q, .int .u32 r, .slice A n c] #[.int .u32 p', .int .i64 q', .int .u32 r', .slice A' n' c'] #[.bool false, .bool false, .bool false, .bool false, .bool false, .bool false] #[.bool (l0 && r0), .bool false, .bool false, .bool false, .bool false, .bool false] :=
      ⟨bl_alloc hbX _, oA.alloc _, oB.alloc _, oR.alloc _, by have := Own.new X 23 #[.bool (l0 && r0), .bool false, .bool false, .bool false, .bool false, .bool false]; rwa [hXs] at this⟩
    cases l0
    · go_wp2_with fail
      go_meet
      exact ⟨by simp, hN⟩
    · go_wp2_with fail
      go_meet
      exact ⟨by simp, hN⟩
  case rest =>
  obtain ⟨rfl, hO⟩ := hcut
  clear oA oB oR hbX hXs
  go_upto_region 4 with fail
  go_cut [] (fun wx => OneS w wx #[.int .u32 p, .int .i64 q, .int .u32 r, .slice A n c] #[.int .u32 p', .int .i64 q', .int .u32 r', .slice A' n' c'] #[.bool false, .bool false, .bool false, .bool false, .bool false, .bool false] #[.bool (l0 && r0), .bool (l1 && r1), .bool false, .bool false, .bool false, .bool false])
  case first =>
    obtain ⟨a0, a1, a2, a3⟩ := own_end hO.A
    obtain ⟨b0, b1, b2, b3⟩ := own_end hO.B
    obtain ⟨c0, c1, c2, c3, c4, c5⟩ := own_six hO.O
    have z0 := hO.O.frozen 1
    go_wp2_with fail
    refine (hHa.out _ hO.lo).mono ?_
    rintro e w5 ⟨rfl, rfl⟩
    cases l1
    · skip
      go_wp2_with fail
      go_meet
      have hN := one6_ext (o' := #[.bool (l0 && r0), .bool (false && r1), .bool false, .bool false, .bool false, .bool false]) (hO.setO 1 (.bool false)) (by first | rfl | (simp; try rfl))
      exact hN
    · skip
      go_wp2_with fail
      refine (hHb.out _ hO.lo).mono ?_
      rintro e w5 ⟨rfl, rfl⟩
      go_wp2_with fail
      go_meet
      have hN := one6_ext (o' := #[.bool (l0 && r0), .bool (true && r1), .bool false, .bool false, .bool false, .bool false]) (hO.setO 1 (.bool r1)) (by first | rfl | (simp; try rfl))
      exact hN
  case rest =>
  have hO := hcut
  clear hcut
  go_upto_region 5 with fail
  go_cut [] (fun wx => OneS w wx #[.int .u32 p, .int .i64 q, .int .u32 r, .slice A n c] #[.int .u32 p', .int .i64 q', .int .u32 r', .slice A' n' c'] #[.bool false, .bool false, .bool false, .bool false, .bool false, .bool false] #[.bool (l0 && r0), .bool (l1 && r1), .bool (l2 && r2), .bool false, .bool false, .bool false])
  case first =>
    obtain ⟨a0, a1, a2, a3⟩ := own_end hO.A
    obtain ⟨b0, b1, b2, b3⟩ := own_end hO.B
    obtain ⟨c0, c1, c2, c3, c4, c5⟩ := own_six hO.O
    have z0 := hO.O.frozen 2
    go_wp2_with fail
    refine (hF1a.out _ hO.lo).mono ?_
    rintro e w5 ⟨rfl, hb5⟩
    replace hO := hO.step hb5
    clear a0 a1 a2 a3 b0 b1 b2 b3 c0 c1 c2 c3 c4 c5 z0
    obtain ⟨a0, a1, a2, a3⟩ := own_end hO.A
    obtain ⟨b0, b1, b2, b3⟩ := own_end hO.B
    obtain ⟨c0, c1, c2, c3, c4, c5⟩ := own_six hO.O
    have z0 := hO.O.frozen 2
    cases l2
    · skip
      go_wp2_with fail
      go_meet
      have hN := one6_ext (o' := #[.bool (l0 && r0), .bool (l1 && r1), .bool (false && r2), .bool false, .bool false, .bool false]) (hO.setO 2 (.bool false)) (by first | rfl | (simp; try rfl))
      exact hN
    · skip
      go_wp2_with fail
      refine (hF1b.out _ hO.lo).mono ?_
      rintro e w5 ⟨rfl, hb5⟩
      replace hO := hO.step hb5
      clear a0 a1 a2 a3 b0 b1 b2 b3 c0 c1 c2 c3 c4 c5 z0
      obtain ⟨a0, a1, a2, a3⟩ := own_end hO.A
      obtain ⟨b0, b1, b2, b3⟩ := own_end hO.B
      obtain ⟨c0, c1, c2, c3, c4, c5⟩ := own_six hO.O
      have z0 := hO.O.frozen 2
      go_wp2_with fail
      go_meet
      have hN := one6_ext (o' := #[.bool (l0 && r0), .bool (l1 && r1), .bool (true && r2), .bool false, .bool false, .bool false]) (hO.setO 2 (.bool r2)) (by first | rfl | (simp; try rfl))
      exact hN
  case rest =>
  have hO := hcut
  clear hcut
  go_upto_region 6 with fail
  go_cut [] (fun wx => OneS w wx #[.int .u32 p, .int .i64 q, .int .u32 r, .slice A n c] #[.int .u32 p', .int .i64 q', .int .u32 r', .slice A' n' c'] #[.bool false, .bool false, .bool false, .bool false, .bool false, .bool false] #[.bool (l0 && r0), .bool (l1 && r1), .bool (l2 && r2), .bool (l3 && r3), .bool false, .bool false])
  case first =>
    obtain ⟨a0, a1, a2, a3⟩ := own_end hO.A
    obtain ⟨b0, b1, b2, b3⟩ := own_end hO.B
    obtain ⟨c0, c1, c2, c3, c4, c5⟩ := own_six hO.O
    have z0 := hO.O.frozen 3
    go_wp2_with fail
    refine (hF2a.out _ hO.lo).mono ?_
    rintro e w5 ⟨rfl, hb5⟩
    replace hO := hO.step hb5
    clear a0 a1 a2 a3 b0 b1 b2 b3 c0 c1 c2 c3 c4 c5 z0
    obtain ⟨a0, a1, a2, a3⟩ := own_end hO.A
    obtain ⟨b0, b1, b2, b3⟩ := own_end hO.B
    obtain ⟨c0, c1, c2, c3, c4, c5⟩ := own_six hO.O
    have z0 := hO.O.frozen 3
    cases l3
    · skip
      go_wp2_with fail
      go_meet
      have hN := one6_ext (o' := #[.bool (l0 && r0), .bool (l1 && r1), .bool (l2 && r2), .bool (false && r3), .bool false, .bool false]) (hO.setO 3 (.bool false)) (by first | rfl | (simp; try rfl))
      exact hN
    · skip
      go_wp2_with fail
      refine (hF2b.out _ hO.lo).mono ?_
      rintro e w5 ⟨rfl, hb5⟩
      replace hO := hO.step hb5
      clear a0 a1 a2 a3 b0 b1 b2 b3 c0 c1 c2 c3 c4 c5 z0
      obtain ⟨a0, a1, a2, a3⟩ := own_end hO.A
      obtain ⟨b0, b1, b2, b3⟩ := own_end hO.B
      obtain ⟨c0, c1, c2, c3, c4, c5⟩ := own_six hO.O
      have z0 := hO.O.frozen 3
      go_wp2_with fail
      go_meet
      have hN := one6_ext (o' := #[.bool (l0 && r0), .bool (l1 && r1), .bool (l2 && r2), .bool (true && r3), .bool false, .bool false]) (hO.setO 3 (.bool r3)) (by first | rfl | (simp; try rfl))
      exact hN
  case rest =>
  have hO := hcut
  clear hcut
  go_upto_region 7 with fail
  go_cut [] (fun wx => OneS w wx #[.int .u32 p, .int .i64 q, .int .u32 r, .slice A n c] #[.int .u32 p', .int .i64 q', .int .u32 r', .slice A' n' c'] #[.bool false, .bool false, .bool false, .bool false, .bool false, .bool false] #[.bool (l0 && r0), .bool (l1 && r1), .bool (l2 && r2), .bool (l3 && r3), .bool (l4 && r4), .bool false])
  case first =>
    obtain ⟨a0, a1, a2, a3⟩ := own_end hO.A
    obtain ⟨b0, b1, b2, b3⟩ := own_end hO.B
    obtain ⟨c0, c1, c2, c3, c4, c5⟩ := own_six hO.O
    have z0 := hO.O.frozen 4
    go_wp2_with fail
    refine (hM1a.out _ hO.lo).mono ?_
    rintro e w5 ⟨rfl, hb5⟩
    replace hO := hO.step hb5
    clear a0 a1 a2 a3 b0 b1 b2 b3 c0 c1 c2 c3 c4 c5 z0
    obtain ⟨a0, a1, a2, a3⟩ := own_end hO.A
    obtain ⟨b0, b1, b2, b3⟩ := own_end hO.B
    obtain ⟨c0, c1, c2, c3, c4, c5⟩ := own_six hO.O
    have z0 := hO.O.frozen 4
    go_wp2_with fail
    refine (hR1a.out _).mono ?_
    rintro e w5 ⟨rfl, rfl⟩
    cases l4
    · skip
      go_wp2_with fail
      go_meet
      have hN := one6_ext (o' := #[.bool (l0 && r0), .bool (l1 && r1), .bool (l2 && r2), .bool (l3 && r3), .bool (false && r4), .bool false]) (hO.setO 4 (.bool false)) (by first | rfl | (simp; try rfl))
      exact hN
    · skip
      go_wp2_with fail
      refine (hM1b.out _ hO.lo).mono ?_
      rintro e w5 ⟨rfl, hb5⟩
      replace hO := hO.step hb5
      clear a0 a1 a2 a3 b0 b1 b2 b3 c0 c1 c2 c3 c4 c5 z0
      obtain ⟨a0, a1, a2, a3⟩ := own_end hO.A
      obtain ⟨b0, b1, b2, b3⟩ := own_end hO.B
      obtain ⟨c0, c1, c2, c3, c4, c5⟩ := own_six hO.O
      have z0 := hO.O.frozen 4
      go_wp2_with fail
      refine (hR1b.out _).mono ?_
      rintro e w5 ⟨rfl, rfl⟩
      go_wp2_with fail
      go_meet
      have hN := one6_ext (o' := #[.bool (l0 && r0), .bool (l1 && r1), .bool (l2 && r2), .bool (l3 && r3), .bool (true && r4), .bool false]) (hO.setO 4 (.bool r4)) (by first | rfl | (simp; try rfl))
      exact hN
  case rest =>
  have hO := hcut
  clear hcut
  go_upto_region 8 with fail
  go_cut [] (fun wx => OneS w wx #[.int .u32 p, .int .i64 q, .int .u32 r, .slice A n c] #[.int .u32 p', .int .i64 q', .int .u32 r', .slice A' n' c'] #[.bool false, .bool false, .bool false, .bool false, .bool false, .bool false] #[.bool (l0 && r0), .bool (l1 && r1), .bool (l2 && r2), .bool (l3 && r3), .bool (l4 && r4), .bool ((l5 && r5) && (l3 && r3))])
  case first =>
    obtain ⟨a0, a1, a2, a3⟩ := own_end hO.A
    obtain ⟨b0, b1, b2, b3⟩ := own_end hO.B
    obtain ⟨c0, c1, c2, c3, c4, c5⟩ := own_six hO.O
    have z0 := hO.O.frozen 5
    have hb3 : Hid ((l3 && r3) = true ∨ (l3 && r3) = false) := Lib.hid (by cases (l3 && r3) <;> simp)
    generalize hv3 : (l3 && r3) = m3 at *
    cases m3
    · skip
      go_wp2_with fail
      go_meet
      have hN := one6_ext (o' := #[.bool (l0 && r0), .bool (l1 && r1), .bool (l2 && r2), .bool (false), .bool (l4 && r4), .bool ((l5 && r5) && (false))]) (hO.setO 5 (.bool false)) (by first | rfl | (simp; try rfl))
      exact hN
    · skip
      go_wp2_with fail
      refine (hM2a.out _ hO.lo).mono ?_
      rintro e w5 ⟨rfl, hb5⟩
      replace hO := hO.step hb5
      clear a0 a1 a2 a3 b0 b1 b2 b3 c0 c1 c2 c3 c4 c5 z0
      obtain ⟨a0, a1, a2, a3⟩ := own_end hO.A
      obtain ⟨b0, b1, b2, b3⟩ := own_end hO.B
      obtain ⟨c0, c1, c2, c3, c4, c5⟩ := own_six hO.O
      have z0 := hO.O.frozen 5
      go_wp2_with fail
      refine (hR2a.out _).mono ?_
      rintro e w5 ⟨rfl, rfl⟩
      cases l5
      · skip
        go_wp2_with fail
        go_meet
        have hN := one6_ext (o' := #[.bool (l0 && r0), .bool (l1 && r1), .bool (l2 && r2), .bool (true), .bool (l4 && r4), .bool ((false && r5) && (true))]) (hO.setO 5 (.bool false)) (by first | rfl | (simp; try rfl))
        exact hN
      · skip
        go_wp2_with fail
        refine (hM2b.out _ hO.lo).mono ?_
        rintro e w5 ⟨rfl, hb5⟩
        replace hO := hO.step hb5
        clear a0 a1 a2 a3 b0 b1 b2 b3 c0 c1 c2 c3 c4 c5 z0
        obtain ⟨a0, a1, a2, a3⟩ := own_end hO.A
        obtain ⟨b0, b1, b2, b3⟩ := own_end hO.B
        obtain ⟨c0, c1, c2, c3, c4, c5⟩ := own_six hO.O
        have z0 := hO.O.frozen 5
        go_wp2_with fail
        refine (hR2b.out _).mono ?_
        rintro e w5 ⟨rfl, rfl⟩
        go_wp2_with fail
        go_meet
        have hN := one6_ext (o' := #[.bool (l0 && r0), .bool (l1 && r1), .bool (l2 && r2), .bool (true), .bool (l4 && r4), .bool ((true && r5) && (true))]) (hO.setO 5 (.bool r5)) (by first | rfl | (simp; try rfl))
        exact hN
  case rest =>
  have hO := hcut
  clear hcut
  obtain ⟨c0, c1, c2, c3, c4, c5⟩ := own_six hO.O
  obtain ⟨d0, d1, d2, d3, d4, d5⟩ := own_six hO.R
  have f0 := hO.R.frozen 0
  have f1 := hO.R.frozen 1
  have f2 := hO.R.frozen 2
  have f3 := hO.R.frozen 3
  have f4 := hO.R.frozen 4
  have f5 := hO.R.frozen 5
  have hbz : w.heap.size ≤ w.heap.size + 1 + 1 := by omega
  have oZ := ((((((hO.R.set_ 0 (.bool (l0 && r0))).set_ 1 (.bool (l1 && r1))).set_ 2 (.bool (l2 && r2))).set_ 3 (.bool (l3 && r3))).set_ 4 (.bool (l4 && r4))).set_ 5 (.bool ((l5 && r5) && (l3 && r3))))
  have hbZ := ((((((hO.lo.setCell (p := ⟨w.heap.size + 1 + 1, 0, none⟩) hbz (.bool (l0 && r0))).setCell (p := ⟨w.heap.size + 1 + 1, 1, none⟩) hbz (.bool (l1 && r1))).setCell (p := ⟨w.heap.size + 1 + 1, 2, none⟩) hbz (.bool (l2 && r2))).setCell (p := ⟨w.heap.size + 1 + 1, 3, none⟩) hbz (.bool (l3 && r3))).setCell (p := ⟨w.heap.size + 1 + 1, 4, none⟩) hbz (.bool (l4 && r4))).setCell (p := ⟨w.heap.size + 1 + 1, 5, none⟩) hbz (.bool ((l5 && r5) && (l3 && r3))))
  clear hO hHa hHb hF1a hF1b hF2a hF2b hM1a hM1b hM2a hM2b hR1a hR1b hR2a hR2b
  go_wp2
  exact bodyPost_ret (results_cell1N (p := 4) (fn := Tryd.f40) rfl _ _ (w.heap.size + 1 + 1) 23 #[.bool (l0 && r0), .bool (l1 && r1), .bool (l2 && r2), .bool (l3 && r3), .bool (l4 && r4), .bool ((l5 && r5) && (l3 && r3))] _ rfl oZ opt_descN rfl (opt_infoN _ _ _ _ _ _)) rfl ⟨rfl, hbZ⟩
end Go.Proofs.YtniheakafkakhaaDoor
