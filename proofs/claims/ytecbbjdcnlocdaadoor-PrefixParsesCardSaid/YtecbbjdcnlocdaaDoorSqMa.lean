/- XSqMa: XSpP, XSpQ, XSpR in one text -/
import Derived.Lib.ItoaNum
import Derived.Lib.Split
import Derived.Lib.ParseIntB
/- texts of segments: what the reference's lax reading makes of them (no memory) -/
namespace Go.Proofs.YtecbbjdcnlocdaaDoor
/-- One more digit. -/
def rlaxN (n : Int) (c : UInt8) : Int := min (max n 0 * 10 + ((c.toNat : Int) - 48)) 1099511627776
/-- A number more in the last segment. -/
def pushL : List (Int × List Int) → Int → List (Int × List Int)
  | [], _ => []
  | [(k, xs)], n => [(k, xs ++ [n])]
  | p :: q :: r, n => p :: pushL (q :: r) n
def rlax1 (out : List (Int × List Int)) (n : Int) (c : UInt8) : Option (List (Int × List Int) × Int) :=
  if c.toNat = 91 ∨ c.toNat = 123 then some (out ++ [(if c.toNat = 123 then 1 else 2, [])], n)
  else if 48 ≤ c.toNat ∧ c.toNat ≤ 57 then some (out, rlaxN n c)
  else if 0 ≤ n ∧ out ≠ [] then (if 4294967295 < n then none else some (pushL out n, -1))
  else some (out, -1)
/-- The reference's reading of a text: a byte after the other. -/
def rlax : List UInt8 → List (Int × List Int) → Int → Option (List (Int × List Int) × Int)
  | [], out, n => some (out, n)
  | c :: r, out, n => (rlax1 out n c).bind fun p => rlax r p.1 p.2
theorem rlax_append : ∀ (a b : List UInt8) (out : List (Int × List Int)) (n : Int), rlax (a ++ b) out n = (rlax a out n).bind fun p => rlax b p.1 p.2
  | [], _, _, _ => rfl
  | c :: a, b, out, n => by
    show (rlax1 out n c).bind (fun p => rlax (a ++ b) p.1 p.2) = ((rlax1 out n c).bind fun p => rlax a p.1 p.2).bind _
    cases rlax1 out n c with
    | none => rfl
    | some p => exact rlax_append a b p.1 p.2
theorem pushL_last : ∀ (out : List (Int × List Int)) (k : Int) (xs : List Int) (n : Int), pushL (out ++ [(k, xs)]) n = out ++ [(k, xs ++ [n])]
  | [], _, _, _ => rfl
  | [p], k, xs, n => by obtain ⟨a, b⟩ := p; rfl
  | p :: q :: r, k, xs, n => by
    show p :: pushL ((q :: r) ++ [(k, xs)]) n = _
    rw [pushL_last (q :: r)]
    rfl
theorem digit_nat {d : Nat} (h : d < 10) : (UInt8.ofNat (48 + d)).toNat = 48 + d := by
  rw [UInt8.toNat_ofNat']
  omega
theorem rlax1_digit (out : List (Int × List Int)) (n : Int) {d : Nat} (h : d < 10) : rlax1 out n (UInt8.ofNat (48 + d)) = some (out, min (max n 0 * 10 + d) 1099511627776) := by
  unfold rlax1 rlaxN
  rw [digit_nat h, if_neg (by omega), if_pos (by omega)]
  have e : ((48 + d : Nat) : Int) - 48 = (d : Int) := by omega
  rw [e]
theorem rlax_dec (out : List (Int × List Int)) : ∀ (x : Nat), x ≤ 4294967295 → rlax (Lib.decDigits x) out (-1) = some (out, (x : Int)) := by
  intro x
  induction x using Nat.strongRecOn with
  | ind x ih =>
    intro hx
    rw [Lib.decDigits]
    by_cases h : x < 10
    · rw [dif_pos h]
      show (rlax1 out (-1) (UInt8.ofNat (48 + x))).bind _ = _
      rw [rlax1_digit out (-1) h]
      show some (out, _) = _
      congr 2
      omega
    · rw [dif_neg h, rlax_append, ih (x / 10) (by omega) (by omega)]
      show (rlax1 out ((x / 10 : Nat) : Int) (UInt8.ofNat (48 + x % 10))).bind _ = _
      rw [rlax1_digit out _ (by omega)]
      show some (out, _) = _
      congr 2
      omega
/-- Numbers with a space in front of each. -/
def numT (xs : List Nat) : List UInt8 := (xs.map fun x => (32 : UInt8) :: Lib.decDigits x).flatten
theorem rlax1_push (out : List (Int × List Int)) (k : Int) (acc : List Int) (n : Nat) (hn : n ≤ 4294967295) {c : UInt8} (hc : c.toNat = 32 ∨ c.toNat = 93 ∨ c.toNat = 125) : rlax1 (out ++ [(k, acc)]) (n : Int) c = some (out ++ [(k, acc ++ [(n : Int)])], -1) := by
  unfold rlax1
  rw [if_neg (by omega), if_neg (by omega), if_pos ⟨by omega, by simp⟩, if_neg (by omega), pushL_last]
theorem rlax_nums (out : List (Int × List Int)) (k : Int) {c : UInt8} (hc : c.toNat = 93 ∨ c.toNat = 125) : ∀ (ys : List Nat) (acc : List Int) (n : Nat), n ≤ 4294967295 → (∀ y ∈ ys, y ≤ 4294967295) → rlax (numT ys ++ [c]) (out ++ [(k, acc)]) (n : Int) = some (out ++ [(k, acc ++ ((n : Int) :: ys.map (fun y : Nat => (y : Int))))], -1)
  | [], acc, n, hn, _ => by
    show (rlax1 (out ++ [(k, acc)]) (n : Int) c).bind _ = _
    rw [rlax1_push out k acc n hn (by omega)]
    rfl
  | y :: ys, acc, n, hn, hy => by
    have e : numT (y :: ys) ++ [c] = (32 : UInt8) :: (Lib.decDigits y ++ (numT ys ++ [c])) := by
      unfold numT
      rw [List.map_cons, List.flatten_cons, List.append_assoc]
      rfl
    rw [e]
    show (rlax1 (out ++ [(k, acc)]) (n : Int) 32).bind _ = _
    rw [rlax1_push out k acc n hn (by left; rfl)]
    show rlax (Lib.decDigits y ++ (numT ys ++ [c])) (out ++ [(k, acc ++ [(n : Int)])]) (-1) = _
    rw [rlax_append, rlax_dec _ y (hy y List.mem_cons_self)]
    show rlax (numT ys ++ [c]) _ _ = _
    rw [rlax_nums out k hc ys (acc ++ [(n : Int)]) y (hy y List.mem_cons_self) (fun z hz => hy z (List.mem_cons_of_mem _ hz))]
    simp
/-- The text of one segment. -/
def segT (k : Int) (xs : List Nat) : List UInt8 := match xs with
  | [] => []
  | x :: r => (if k = 1 then (123 : UInt8) else 91) :: (Lib.decDigits x ++ (numT r ++ [if k = 1 then (125 : UInt8) else 93]))
theorem rlax_seg (out : List (Int × List Int)) (k : Int) (hk : k = 1 ∨ k = 2) {xs : List Nat} (h0 : xs ≠ []) (hx : ∀ x ∈ xs, x ≤ 4294967295) : rlax (segT k xs) out (-1) = some (out ++ [(k, xs.map (fun y : Nat => (y : Int)))], -1) := by
  match xs, h0 with
  | x :: r, _ =>
    have ho : rlax1 out (-1) (if k = 1 then (123 : UInt8) else 91) = some (out ++ [(k, [])], -1) := by
      rcases hk with rfl | rfl
      · rfl
      · rfl
    show (rlax1 out (-1) (if k = 1 then (123 : UInt8) else 91)).bind _ = _
    rw [ho]
    show rlax (Lib.decDigits x ++ (numT r ++ [_])) (out ++ [(k, [])]) (-1) = _
    rw [rlax_append, rlax_dec _ x (hx x List.mem_cons_self)]
    show rlax (numT r ++ [_]) _ _ = _
    rw [rlax_nums out k (by rcases hk with rfl | rfl <;> decide) r [] x (hx x List.mem_cons_self) (fun z hz => hx z (List.mem_cons_of_mem _ hz))]
    rfl
/-- Segments with a space in front of each. -/
def segsT (ss : List (Int × List Nat)) : List UInt8 := (ss.map fun s => (32 : UInt8) :: segT s.1 s.2).flatten
def segGood (s : Int × List Nat) : Prop := (s.1 = 1 ∨ s.1 = 2) ∧ s.2 ≠ [] ∧ ∀ x ∈ s.2, x ≤ 4294967295
def segI (s : Int × List Nat) : Int × List Int := (s.1, s.2.map (fun y : Nat => (y : Int)))
theorem rlax_segs : ∀ (ss : List (Int × List Nat)) (out : List (Int × List Int)), (∀ s ∈ ss, segGood s) → rlax (segsT ss) out (-1) = some (out ++ ss.map segI, -1)
  | [], out, _ => by show some (out, _) = _; simp
  | s :: ss, out, h => by
    obtain ⟨h1, h2, h3⟩ := h s List.mem_cons_self
    have e : segsT (s :: ss) = (32 : UInt8) :: (segT s.1 s.2 ++ segsT ss) := by
      unfold segsT
      rw [List.map_cons, List.flatten_cons]
      rfl
    rw [e]
    have hs : rlax1 out (-1) 32 = some (out, -1) := by
      unfold rlax1
      rw [if_neg (by decide), if_neg (by decide), if_neg (by omega)]
    show (rlax1 out (-1) 32).bind _ = _
    rw [hs]
    show rlax (segT s.1 s.2 ++ segsT ss) out (-1) = _
    rw [rlax_append, rlax_seg out s.1 h1 h2 h3]
    show rlax (segsT ss) _ _ = _
    rw [rlax_segs ss _ (fun z hz => h z (List.mem_cons_of_mem _ hz))]
    simp [segI]
/-- The text of segments. -/
def txtT : List (Int × List Nat) → List UInt8
  | [] => []
  | s :: ss => segT s.1 s.2 ++ segsT ss
/-- The text of valid segments is read to them. -/
theorem rlax_txt (ss : List (Int × List Nat)) (h : ∀ s ∈ ss, segGood s) : rlax (txtT ss) [] (-1) = some (ss.map segI, -1) := by
  cases ss with
  | nil => rfl
  | cons s ss =>
    obtain ⟨h1, h2, h3⟩ := h s List.mem_cons_self
    show rlax (segT s.1 s.2 ++ segsT ss) [] (-1) = _
    rw [rlax_append, rlax_seg [] s.1 h1 h2 h3]
    show rlax (segsT ss) _ _ = _
    rw [rlax_segs ss _ (fun z hz => h z (List.mem_cons_of_mem _ hz))]
    simp [segI]
end Go.Proofs.YtecbbjdcnlocdaaDoor

/- texts of segments: what the program's lax reading makes of them (no memory); both readings accept the same -/
namespace Go.Proofs.YtecbbjdcnlocdaaDoor
theorem pre_one (d b : UInt8) (l : List UInt8) : ([d] : List UInt8).isPrefixOf (b :: l) = (d == b) := by simp [List.isPrefixOf]
theorem idx_free (d : UInt8) : ∀ (a : List UInt8), d ∉ a → Lib.index a [d] = -1
  | [], _ => rfl
  | b :: l, h => by
    have ih := idx_free d l (fun hm => h (List.mem_cons_of_mem _ hm))
    have hb : (d == b) = false := by
      rw [beq_eq_false_iff_ne]
      intro e
      exact h (by rw [e]; exact List.mem_cons_self)
    unfold Lib.index
    rw [pre_one, hb, ih]
    rfl
theorem idx_hit (d : UInt8) : ∀ (a r : List UInt8), d ∉ a → Lib.index (a ++ d :: r) [d] = (a.length : Int)
  | [], r, _ => by
    show Lib.index (d :: r) [d] = 0
    unfold Lib.index
    rw [pre_one]
    simp
  | b :: l, r, h => by
    have ih := idx_hit d l r (fun hm => h (List.mem_cons_of_mem _ hm))
    have hb : (d == b) = false := by
      rw [beq_eq_false_iff_ne]
      intro e
      exact h (by rw [e]; exact List.mem_cons_self)
    show Lib.index (b :: (l ++ d :: r)) [d] = _
    unfold Lib.index
    rw [pre_one, hb, ih]
    have hne : (((l.length : Int)) == -1) = false := by rw [beq_eq_false_iff_ne]; omega
    rw [hne]
    simp
theorem split_free (d : UInt8) (a : List UInt8) (h : d ∉ a) : Lib.split a [d] = [a] := by
  unfold Lib.split
  rw [Lib.count_miss (idx_free d a h)]
  rfl
theorem split_hit (d : UInt8) (a r : List UInt8) (h : d ∉ a) : Lib.split (a ++ d :: r) [d] = a :: Lib.split r [d] := by
  have hi := idx_hit d a r h
  have hd : (a ++ d :: r).drop (a.length + ([d] : List UInt8).length) = r := by
    show (a ++ d :: r).drop (a.length + 1) = r
    rw [← List.drop_drop, List.drop_left]
    rfl
  unfold Lib.split
  rw [Lib.count_hit (by simp) hi, hd, Nat.add_comm 1]
  show (if Lib.index (a ++ d :: r) [d] == -1 then _ else _) = _
  have hne : (Lib.index (a ++ d :: r) [d] == -1) = false := by rw [hi, beq_eq_false_iff_ne]; omega
  rw [hne, hi]
  simp only [Bool.false_eq_true, if_false, Int.toNat_natCast, Nat.add_zero, hd]
  rw [List.take_left]
theorem cut_hit (d : UInt8) (a r : List UInt8) (h : d ∉ a) : Lib.cut (a ++ d :: r) [d] = (a, r, true) := by
  have hi := idx_hit d a r h
  have hd : (a ++ d :: r).drop (a.length + ([d] : List UInt8).length) = r := by
    show (a ++ d :: r).drop (a.length + 1) = r
    rw [← List.drop_drop, List.drop_left]
    rfl
  unfold Lib.cut
  rw [hi, if_pos (by omega), Int.toNat_natCast, hd, List.take_left]
theorem uint_dec (M : Nat) (hM : M ≤ 4294967295) : ∀ (x : Nat) (r : List UInt8), x ≤ M → Lib.parseUintM M 0 (Lib.decDigits x ++ r) = Lib.parseUintM M x r := by
  intro x
  induction x using Nat.strongRecOn with
  | ind x ih =>
    intro r hx
    rw [Lib.decDigits]
    by_cases h : x < 10
    · rw [dif_pos h]
      show Lib.parseUintM M 0 (UInt8.ofNat (48 + x) :: r) = _
      rw [Lib.parseUintM, digit_nat h, if_pos (by omega), if_neg (by omega), if_neg (by omega)]
      congr 1
      omega
    · rw [dif_neg h, List.append_assoc, ih (x / 10) (by omega) _ (by omega)]
      show Lib.parseUintM M (x / 10) (UInt8.ofNat (48 + x % 10) :: r) = _
      rw [Lib.parseUintM, digit_nat (show x % 10 < 10 by omega), if_pos (by omega), if_neg (by omega), if_neg (by omega)]
      congr 1
      omega
theorem dec_ne (x : Nat) : Lib.decDigits x ≠ [] := by
  rw [Lib.decDigits]
  split
  · simp
  · simp
theorem dec_mem : ∀ (x : Nat) (c : UInt8), c ∈ Lib.decDigits x → 48 ≤ c.toNat ∧ c.toNat ≤ 57 := by
  intro x
  induction x using Nat.strongRecOn with
  | ind x ih =>
    intro c hc
    rw [Lib.decDigits] at hc
    by_cases h : x < 10
    · rw [dif_pos h, List.mem_singleton] at hc
      rw [hc, digit_nat h]; omega
    · rw [dif_neg h, List.mem_append, List.mem_singleton] at hc
      rcases hc with hc | hc
      · exact ih (x / 10) (by omega) c hc
      · rw [hc, digit_nat (show x % 10 < 10 by omega)]; omega
/-- The numbers of some words. -/
def wordsP : List (List UInt8) → Option (List Nat)
  | [] => some []
  | w :: ws => match Lib.parseUintB 32 w with
    | .ok n => (wordsP ws).map (n :: ·)
    | _ => none
theorem split_nums : ∀ (x : Nat) (ys : List Nat), Lib.split (Lib.decDigits x ++ numT ys) [32] = Lib.decDigits x :: ys.map Lib.decDigits
  | x, [] => by
    show Lib.split (Lib.decDigits x ++ []) [32] = _
    rw [List.append_nil, split_free 32 _ (fun h => by have := dec_mem x _ h; simp at this)]
    rfl
  | x, y :: ys => by
    have e : Lib.decDigits x ++ numT (y :: ys) = Lib.decDigits x ++ 32 :: (Lib.decDigits y ++ numT ys) := by
      unfold numT
      rw [List.map_cons, List.flatten_cons]
      rfl
    rw [e, split_hit 32 _ _ (fun h => by have := dec_mem x _ h; simp at this), split_nums y ys]
    rfl
theorem wordsP_dec : ∀ (ys : List Nat), (∀ y ∈ ys, y ≤ 4294967295) → wordsP (ys.map Lib.decDigits) = some ys
  | [], _ => rfl
  | y :: ys, h => by
    have hu := uint_dec 4294967295 (by omega) y [] (h y List.mem_cons_self)
    rw [List.append_nil] at hu
    have hb : Lib.parseUintB 32 (Lib.decDigits y) = .ok y := by
      unfold Lib.parseUintB
      rw [if_neg (dec_ne y)]
      exact hu
    rw [List.map_cons, wordsP, hb]
    show (wordsP (ys.map Lib.decDigits)).map (y :: ·) = _
    rw [wordsP_dec ys (fun z hz => h z (List.mem_cons_of_mem _ hz))]
    rfl
/-- What the first segment of a text is. -/
def firstP (s : List UInt8) : Option ((Int × List Nat) × List UInt8) := match s with
  | [] => none
  | c :: r => if c = 123 then (if (Lib.cut r [125]).2.2 = true then (wordsP (Lib.split (Lib.cut r [125]).1 [32])).map fun N => ((1, N), (Lib.cut r [125]).2.1) else none)
    else if c = 91 then (if (Lib.cut r [93]).2.2 = true then (wordsP (Lib.split (Lib.cut r [93]).1 [32])).map fun N => ((2, N), (Lib.cut r [93]).2.1) else none) else none
/-- The program's reading of a text. -/
def parseP : Nat → List UInt8 → Option (List (Int × List Nat))
  | 0, _ => none
  | f + 1, s => if s = [] then some [] else (firstP s).bind fun x => (parseP f (Lib.trimPrefix x.2 [32])).map (x.1 :: ·)
theorem num_mem (x : Nat) (ys : List Nat) (c : UInt8) (h : c ∈ Lib.decDigits x ++ numT ys) : c.toNat = 32 ∨ 48 ≤ c.toNat ∧ c.toNat ≤ 57 := by
  rcases List.mem_append.1 h with h | h
  · exact .inr (dec_mem x c h)
  · unfold numT at h
    obtain ⟨l, hl, hc⟩ := List.mem_flatten.1 h
    obtain ⟨y, _, rfl⟩ := List.mem_map.1 hl
    rcases List.mem_cons.1 hc with rfl | hc
    · exact .inl rfl
    · exact .inr (dec_mem y c hc)
theorem firstP_seg (k : Int) (hk : k = 1 ∨ k = 2) {xs : List Nat} (h0 : xs ≠ []) (hx : ∀ x ∈ xs, x ≤ 4294967295) (rest : List UInt8) : firstP (segT k xs ++ rest) = some ((k, xs), rest) := by
  match xs, h0 with
  | x :: r, _ =>
    have hw : wordsP (Lib.split (Lib.decDigits x ++ numT r) [32]) = some (x :: r) := by
      rw [split_nums]
      exact wordsP_dec (x :: r) hx
    rcases hk with rfl | rfl
    · have e : segT 1 (x :: r) ++ rest = 123 :: ((Lib.decDigits x ++ numT r) ++ 125 :: rest) := by
        show (123 :: (Lib.decDigits x ++ (numT r ++ [125]))) ++ rest = _
        simp
      rw [e]
      unfold firstP
      dsimp only
      rw [if_pos rfl, cut_hit 125 _ _ (fun h => by have := num_mem x r _ h; simp at this)]
      rw [if_pos rfl]
      dsimp only
      rw [hw]
      rfl
    · have e : segT 2 (x :: r) ++ rest = 91 :: ((Lib.decDigits x ++ numT r) ++ 93 :: rest) := by
        show (91 :: (Lib.decDigits x ++ (numT r ++ [93]))) ++ rest = _
        simp
      rw [e]
      unfold firstP
      dsimp only
      rw [if_neg (by decide), if_pos rfl, cut_hit 93 _ _ (fun h => by have := num_mem x r _ h; simp at this)]
      rw [if_pos rfl]
      dsimp only
      rw [hw]
      rfl
theorem segT_ne {k : Int} {xs : List Nat} (h0 : xs ≠ []) (r : List UInt8) : segT k xs ++ r ≠ [] := by
  match xs, h0 with
  | x :: t, _ => intro h; cases h
theorem parseP_go : ∀ (ss : List (Int × List Nat)) (s : Int × List Nat) (f : Nat), ss.length + 1 < f → segGood s → (∀ z ∈ ss, segGood z) → parseP f (segT s.1 s.2 ++ segsT ss) = some (s :: ss)
  | ss, s, 0, hf, _, _ => by omega
  | [], s, f + 1, hf, hs, _ => by
    rw [parseP, if_neg (segT_ne hs.2.1 _), firstP_seg s.1 hs.1 hs.2.1 hs.2.2]
    show (parseP f (Lib.trimPrefix (segsT []) [32])).map _ = _
    have e : Lib.trimPrefix (segsT []) [32] = [] := rfl
    rw [e]
    cases f with
    | zero => simp at hf
    | succ f => rw [parseP, if_pos rfl]; rfl
  | t :: ss, s, f + 1, hf, hs, hz => by
    rw [parseP, if_neg (segT_ne hs.2.1 _), firstP_seg s.1 hs.1 hs.2.1 hs.2.2]
    have e : segsT (t :: ss) = (32 : UInt8) :: (segT t.1 t.2 ++ segsT ss) := by
      unfold segsT
      rw [List.map_cons, List.flatten_cons]
      rfl
    show (parseP f (Lib.trimPrefix (segsT (t :: ss)) [32])).map _ = _
    have e2 : Lib.trimPrefix ((32 : UInt8) :: (segT t.1 t.2 ++ segsT ss)) [32] = segT t.1 t.2 ++ segsT ss := by
      unfold Lib.trimPrefix Lib.hasPrefix
      rw [pre_one]
      rfl
    rw [e, e2]
    rw [parseP_go ss t f (by simp at hf ⊢; omega) (hz t List.mem_cons_self) (fun z hm => hz z (List.mem_cons_of_mem _ hm))]
    rfl
/-- The text of valid segments is read to them. -/
theorem parseP_txt (ss : List (Int × List Nat)) (h : ∀ s ∈ ss, segGood s) (f : Nat) (hf : ss.length + 1 < f) : parseP f (txtT ss) = some ss := by
  cases ss with
  | nil =>
    cases f with
    | zero => omega
    | succ f => show parseP (f + 1) [] = _; rw [parseP, if_pos rfl]
  | cons s ss => exact parseP_go ss s f (by simp at hf ⊢; omega) (h s List.mem_cons_self) (fun z hm => h z (List.mem_cons_of_mem _ hm))
end Go.Proofs.YtecbbjdcnlocdaaDoor

/- texts of segments: both readings accept the same (no memory) -/
namespace Go.Proofs.YtecbbjdcnlocdaaDoor
/-- Whether a segment is valid at four bytes a number. -/
def okN (z : Int × List Nat) : Bool := (decide (z.1 = 1 ∨ z.1 = 2) && decide (1 ≤ z.2.length ∧ z.2.length ≤ 255)) && z.2.all fun x => decide (x ≤ 4294967295)
theorem okN_good {z : Int × List Nat} (h : okN z = true) : segGood z := by
  unfold okN at h
  rw [Bool.and_eq_true, Bool.and_eq_true, decide_eq_true_iff, decide_eq_true_iff, List.all_eq_true] at h
  refine ⟨h.1.1, ?_, fun x hx => of_decide_eq_true (h.2 x hx)⟩
  intro e
  have := h.1.2.1
  rw [e] at this
  simp at this
theorem segsT_len : ∀ (ss : List (Int × List Nat)), ss.length ≤ (segsT ss).length
  | [] => Nat.zero_le _
  | s :: ss => by
    have ih := segsT_len ss
    unfold segsT at ih ⊢
    rw [List.map_cons, List.flatten_cons, List.length_append]
    simp only [List.length_cons] at ih ⊢
    omega
theorem txtT_len (ss : List (Int × List Nat)) (h : ∀ s ∈ ss, segGood s) : ss.length ≤ (txtT ss).length := by
  cases ss with
  | nil => exact Nat.zero_le _
  | cons s ss =>
    have h1 := segsT_len ss
    have h2 : 1 ≤ (segT s.1 s.2).length := by
      have := (h s List.mem_cons_self).2.1
      cases hs : s.2 with
      | nil => exact absurd hs this
      | cons x r => show 1 ≤ ((if s.1 = 1 then (123 : UInt8) else 91) :: _).length; simp
    show ss.length + 1 ≤ (segT s.1 s.2 ++ segsT ss).length
    rw [List.length_append]
    omega
/-- What both ends say of a reading: the segments, if they are valid and have that text. -/
def accN (s : List UInt8) (l : List (Int × List Nat)) : Option (List (Int × List Nat)) := if l.all okN = true ∧ txtT l = s then some l else none
/-- What the program's Parse gives. -/
def pAcc (s : List UInt8) : Option (List (Int × List Nat)) := (parseP (s.length + 2) s).bind (accN s)
def segN (z : Int × List Int) : Int × List Nat := (z.1, z.2.map Int.toNat)
/-- What the reference's Parse gives. -/
def rAcc (s : List UInt8) : Option (List (Int × List Nat)) := (rlax s [] (-1)).bind fun p => accN s (p.1.map segN)
theorem segN_I (l : List (Int × List Nat)) : (l.map segI).map segN = l := by
  rw [List.map_map]
  have e : ∀ z : Int × List Nat, (segN ∘ segI) z = z := fun z => by
    obtain ⟨k, xs⟩ := z
    show (k, (xs.map (fun y : Nat => (y : Int))).map Int.toNat) = (k, xs)
    rw [List.map_map]
    have e2 : (Int.toNat ∘ fun y : Nat => (y : Int)) = id := by funext y; exact Int.toNat_natCast y
    rw [e2, List.map_id]
  rw [show (segN ∘ segI) = id from funext e, List.map_id]
theorem accN_iff {s : List UInt8} {l m : List (Int × List Nat)} (h : accN s l = some m) : m = l ∧ l.all okN = true ∧ txtT l = s := by
  unfold accN at h
  split at h
  · rename_i hh
    cases h
    exact ⟨rfl, hh⟩
  · cases h
theorem pAcc_txt {l : List (Int × List Nat)} (h : l.all okN = true) : pAcc (txtT l) = some l ∧ rAcc (txtT l) = some l := by
  have hg : ∀ s ∈ l, segGood s := fun s hs => okN_good (List.all_eq_true.1 h s hs)
  have hl := txtT_len l hg
  constructor
  · unfold pAcc
    rw [parseP_txt l hg _ (by omega)]
    show accN (txtT l) l = some l
    unfold accN
    rw [if_pos ⟨h, rfl⟩]
  · unfold rAcc
    rw [rlax_txt l hg]
    show accN (txtT l) ((l.map segI).map segN) = some l
    rw [segN_I]
    unfold accN
    rw [if_pos ⟨h, rfl⟩]
/-- Both ends give the same. -/
theorem acc_same (s : List UInt8) : pAcc s = rAcc s := by
  cases hp : pAcc s with
  | some m =>
    have h2 := hp
    unfold pAcc at h2
    obtain ⟨l, _, h3⟩ := Option.bind_eq_some_iff.1 h2
    obtain ⟨rfl, h4, h5⟩ := accN_iff h3
    rw [← h5]
    exact (pAcc_txt h4).2.symm
  | none =>
    cases hr : rAcc s with
    | none => rfl
    | some m =>
      have h2 := hr
      unfold rAcc at h2
      obtain ⟨p, _, h3⟩ := Option.bind_eq_some_iff.1 h2
      obtain ⟨rfl, h4, h5⟩ := accN_iff h3
      rw [← h5, (pAcc_txt h4).1] at hp
      cases hp
/-- What is given has that text. -/
theorem pAcc_says {s : List UInt8} {l : List (Int × List Nat)} (h : pAcc s = some l) : l.all okN = true ∧ txtT l = s := by
  unfold pAcc at h
  obtain ⟨m, _, h3⟩ := Option.bind_eq_some_iff.1 h
  obtain ⟨rfl, h4, h5⟩ := accN_iff h3
  exact ⟨h4, h5⟩
theorem pre_cons (d : UInt8) : ∀ (l : List UInt8), Lib.hasPrefix l [d] = true → ∃ r, l = d :: r ∧ Lib.trimPrefix l [d] = r
  | [], h => by cases h
  | b :: r, h => by
    unfold Lib.hasPrefix at h
    rw [pre_one, beq_iff_eq] at h
    subst h
    refine ⟨r, rfl, ?_⟩
    unfold Lib.trimPrefix Lib.hasPrefix
    rw [pre_one]
    simp
theorem pre_ne {d : UInt8} {b : UInt8} {r : List UInt8} (h : Lib.hasPrefix (b :: r) [d] = false) : ¬ b = d := by
  unfold Lib.hasPrefix at h
  rw [pre_one, beq_eq_false_iff_ne] at h
  exact fun e => h e.symm
theorem firstP_1 {l : List UInt8} (h : Lib.hasPrefix l [123] = true) : firstP l = if (Lib.cut (Lib.trimPrefix l [123]) [125]).2.2 = true then (wordsP (Lib.split (Lib.cut (Lib.trimPrefix l [123]) [125]).1 [32])).map fun N => ((1, N), (Lib.cut (Lib.trimPrefix l [123]) [125]).2.1) else none := by
  obtain ⟨r, e, ht⟩ := pre_cons 123 l h
  rw [ht, e]
  unfold firstP
  dsimp only
  rw [if_pos rfl]
theorem firstP_2 {l : List UInt8} (_h1 : Lib.hasPrefix l [123] = false) (h : Lib.hasPrefix l [91] = true) : firstP l = if (Lib.cut (Lib.trimPrefix l [91]) [93]).2.2 = true then (wordsP (Lib.split (Lib.cut (Lib.trimPrefix l [91]) [93]).1 [32])).map fun N => ((2, N), (Lib.cut (Lib.trimPrefix l [91]) [93]).2.1) else none := by
  obtain ⟨r, e, ht⟩ := pre_cons 91 l h
  rw [ht, e]
  unfold firstP
  dsimp only
  rw [if_neg (by decide), if_pos rfl]
theorem firstP_0 {l : List UInt8} (h1 : Lib.hasPrefix l [123] = false) (h2 : Lib.hasPrefix l [91] = false) : firstP l = none := by
  cases l with
  | nil => rfl
  | cons b r =>
    unfold firstP
    dsimp only
    rw [if_neg (pre_ne h1), if_neg (pre_ne h2)]
theorem cut_len {s : List UInt8} {d : UInt8} (h : (Lib.cut s [d]).2.2 = true) : (Lib.cut s [d]).1.length ≤ s.length ∧ (Lib.cut s [d]).2.1.length + 1 ≤ s.length := by
  have hr := Lib.index_room s [d]
  unfold Lib.cut at h ⊢
  split at h
  · rename_i h0
    rw [if_pos h0]
    have h1 := hr h0
    have h2 : (([d] : List UInt8).length : Int) = 1 := rfl
    refine ⟨by show (s.take _).length ≤ _; rw [List.length_take]; omega, ?_⟩
    show (s.drop ((Lib.index s [d]).toNat + 1)).length + 1 ≤ s.length
    rw [List.length_drop]
    omega
  · cases h
theorem trim_len (l p : List UInt8) : (Lib.trimPrefix l p).length ≤ l.length := by
  unfold Lib.trimPrefix
  split
  · rw [List.length_drop]; omega
  · exact Nat.le_refl _
end Go.Proofs.YtecbbjdcnlocdaaDoor
