/- Texts that several proofs of this seat share, one behind the other: BLawP HRng TSeq HRows BRef HBlocks. -/
import Derived.Test.YtlicchblafodaaaDoorPk1
import Derived.Test.YtlicchblafodaaaDoorPk7
import Derived.RangeFuncNested
import Derived.RangeFuncLeaves
import Derived.Test.YtlicchblafodaaaDoorPk2
import Derived.WalkMore
import Derived.BigRegion
import Derived.Test.YtlicchblafodaaaDoorPk3
/- Blocks of steps, plain: what they are, that each may be, how many there are. -/
namespace Go.Proofs.YtlicchblafodaaaDoor
open Go.RowKit Go.Shelf

/-- A block: what was read, what it should have been, how often. -/
abbrev Blk := ByteArray × ByteArray × Int
def mkB (l : List UInt8) : ByteArray := ⟨l.toArray⟩
theorem mkB_data (l : List UInt8) : (mkB l).data.toList = l := by simp [mkB]
def blkOf (r : List St) : Blk := (mkB (readA r), mkB (readB r), 1)
def longB (r : List St) : Bool := decide (3 < (stA r).length ∨ 3 < (stB r).length)
def diffB (r : List St) : Bool := decide (stA r ≠ stB r)
/-- The blocks of steps, and how many are too long. -/
def ofS (l : List St) : List Blk := if l.all stGood then ((rowsP l).filter (fun r => !longB r && diffB r)).map blkOf else []
def longS (l : List St) : Nat := if l.all stGood then ((rowsP l).filter longB).length else 0
/-- Whether a block may be. -/
def chkS (b : Blk) : Int :=
  if Lib.validD b.1.data.toList && Lib.validD b.2.1.data.toList then
    if 3 < (items b.1.data.toList).length ∨ 3 < (items b.2.1.data.toList).length then 5 else if b.1 = b.2.1 then 7 else if b.2.2 < 1 ∨ 1073741824 < b.2.2 then 2 else 0
  else 3

theorem rows_good {l : List St} (h : l.all stGood = true) : ∀ r ∈ rowsP l, r.all stGood = true := by
  intro r hr
  obtain ⟨_, _, X, Y, e⟩ := rowsP_each l r hr
  rw [e, List.all_append, List.all_append, Bool.and_eq_true, Bool.and_eq_true] at h
  exact h.1.2
/-- A good row's two texts. -/
theorem row_texts {r : List St} (h : r.all stGood = true) : readA r = encL (stA r) ∧ readB r = encL (stB r) ∧ items (readA r) = stA r ∧ items (readB r) = stB r ∧ Lib.validD (readA r) = true ∧ Lib.validD (readB r) = true := by
  have hok := good_ok r h
  have hf : r.all stForm = true := List.all_eq_true.2 (fun q hq => form_ok q (hok q hq))
  have hg := good_all r hf
  rw [h] at hg
  have hg' : allRunes (stA r) = true ∧ allRunes (stB r) = true := by simpa using hg.symm
  have ea : readA r = encL (stA r) := by rw [readA, if_pos h, encS, if_pos hg'.1]
  have eb : readB r = encL (stB r) := by rw [readB, if_pos h, encS, if_pos hg'.2]
  have ia := items_of_enc (stA r) (List.all_eq_true.1 hg'.1)
  have ib := items_of_enc (stB r) (List.all_eq_true.1 hg'.2)
  exact ⟨ea, eb, by rw [ea]; exact ia.1, by rw [eb]; exact ib.1, by rw [ea]; exact ia.2, by rw [eb]; exact ib.2⟩
theorem row_differ {r : List St} (h : r.all stGood = true) : (readA r = readB r) ↔ (stA r = stB r) := by
  obtain ⟨ea, eb, ia, ib, _, _⟩ := row_texts h
  constructor
  · intro e
    rw [← ia, ← ib, e]
  · intro e
    rw [ea, eb, e]
/-- Each block may be, once. -/
theorem ofS_may {l : List St} : ∀ b ∈ ofS l, chkS b = 0 ∧ b.2.2 = 1 ∧ ∃ r ∈ rowsP l, b = blkOf r ∧ (items b.1.data.toList).length = (stA r).length ∧ (items b.2.1.data.toList).length = (stB r).length ∧ Lib.validD b.1.data.toList = true ∧ Lib.validD b.2.1.data.toList = true := by
  intro b hb
  unfold ofS at hb
  split at hb
  · rename_i hg
    obtain ⟨r, hr, rfl⟩ := List.mem_map.1 hb
    obtain ⟨hr1, hr2⟩ := List.mem_filter.1 hr
    rw [Bool.and_eq_true] at hr2
    have hg' := rows_good hg r hr1
    obtain ⟨ea, eb, ia, ib, va, vb⟩ := row_texts hg'
    have hd : stA r ≠ stB r := of_decide_eq_true hr2.2
    have hl : ¬ (3 < (stA r).length ∨ 3 < (stB r).length) := by
      have := hr2.1
      unfold longB at this
      simpa using this
    refine ⟨?_, rfl, r, hr1, rfl, ?_, ?_, ?_, ?_⟩
    · unfold chkS blkOf
      simp only [mkB_data, va, vb, ia, ib, Bool.and_self, if_true]
      rw [if_neg hl]
      have hne : mkB (readA r) ≠ mkB (readB r) := fun e => hd ((row_differ hg').1 (by rw [← mkB_data (readA r), e, mkB_data]))
      rw [if_neg hne, if_neg (by omega)]
    · show (items (mkB (readA r)).data.toList).length = _
      rw [mkB_data, ia]
    · show (items (mkB (readB r)).data.toList).length = _
      rw [mkB_data, ib]
    · show Lib.validD (mkB (readA r)).data.toList = true
      rw [mkB_data]; exact va
    · show Lib.validD (mkB (readB r)).data.toList = true
      rw [mkB_data]; exact vb
  · simp at hb

theorem sum_filter_le {α : Type} (f : α → Nat) (p : α → Bool) (l : List α) : ((l.filter p).map f).sum ≤ (l.map f).sum := by
  induction l with
  | nil => simp
  | cons a l ih =>
    rw [List.filter_cons]
    split
    · simp only [List.map_cons, List.sum_cons]; omega
    · simp only [List.map_cons, List.sum_cons]; omega
theorem sum_map_le {α : Type} (f g : α → Nat) (l : List α) (h : ∀ a ∈ l, f a ≤ g a) : (l.map f).sum ≤ (l.map g).sum := by
  induction l with
  | nil => simp
  | cons a l ih =>
    have h1 := h a (by simp)
    have h2 := ih (fun b hb => h b (by simp [hb]))
    simp only [List.map_cons, List.sum_cons]; omega
theorem len_two_filters {α : Type} (p q : α → Bool) (l : List α) (h : ∀ a, p a = true → q a = true → False) : (l.filter p).length + (l.filter q).length ≤ l.length := by
  induction l with
  | nil => simp
  | cons a l ih =>
    rw [List.filter_cons, List.filter_cons]
    cases hp : p a <;> cases hq : q a
    · simp; omega
    · simp; omega
    · simp; omega
    · exact absurd hq (fun hq => h a hp hq)
/-- The runes of all blocks: no more than aren't matches. -/
theorem ofS_runes (l : List St) : ((ofS l).map (fun b => max (items b.1.data.toList).length (items b.2.1.data.toList).length)).sum ≤ stC l := by
  unfold ofS
  split
  · rename_i hg
    rw [List.map_map, ← rowsP_sum l]
    refine Nat.le_trans (sum_map_le _ List.length _ (fun r hr => ?_)) (sum_filter_le _ _ _)
    obtain ⟨hr1, _⟩ := List.mem_filter.1 hr
    obtain ⟨_, _, ia, ib, _, _⟩ := row_texts (rows_good hg r hr1)
    show max (items (mkB (readA r)).data.toList).length (items (mkB (readB r)).data.toList).length ≤ r.length
    rw [mkB_data, mkB_data, ia, ib]
    have := stA_len r
    have := stB_len r
    omega
  · simp
theorem rows_le_C (l : List St) : (rowsP l).length ≤ stC l := by
  rw [← rowsP_sum l]
  have : ((rowsP l).map (fun _ => 1)).sum ≤ ((rowsP l).map List.length).sum := sum_map_le _ _ _ (fun r hr => by
    have := (rowsP_each l r hr).1
    have := List.length_pos_iff.2 this
    omega)
  have h1 : ∀ z : List (List St), (z.map (fun _ => 1)).sum = z.length := fun z => by
    induction z with
    | nil => rfl
    | cons a z ih => simp only [List.map_cons, List.sum_cons, List.length_cons, ih]; omega
  rwa [h1] at this
theorem ofS_count (l : List St) : (ofS l).length + longS l ≤ stC l := by
  unfold ofS longS
  split
  · rw [List.length_map]
    refine Nat.le_trans (len_two_filters _ _ _ (fun r h1 h2 => ?_)) (rows_le_C l)
    rw [h2] at h1
    simp at h1
  · simp
theorem stC_zero_rows {l : List St} (h : rowsP l = []) : stC l = 0 := by rw [← rowsP_sum, h]; rfl

/-- In an alignment of as few as there may be no row is of two texts that are the same. -/
theorem least_differ (l : List St) (hok : ∀ s ∈ l, stOK s) (hc : stC l ≤ levR (stA l) (stB l)) : ∀ r ∈ rowsP l, stA r ≠ stB r := by
  intro r hr e
  obtain ⟨hne, hrun, X, Y, hl⟩ := rowsP_each l r hr
  have hL : ∀ s ∈ X ++ (stA r).map (fun a => ((0, a, a) : St)) ++ Y, stOK s := by
    intro s hs
    rcases List.mem_append.1 hs with hs | hs
    · rcases List.mem_append.1 hs with hs | hs
      · exact hok s (by rw [hl]; simp [hs])
      · obtain ⟨a, _, rfl⟩ := List.mem_map.1 hs
        exact .inl ⟨rfl, rfl⟩
    · exact hok s (by rw [hl]; simp [hs])
  have hmA : ∀ z : List Int, stA (z.map (fun a => ((0, a, a) : St))) = z := by
    intro z; induction z with
    | nil => rfl
    | cons a z ih => simp [stA] at ih ⊢; exact ih
  have hmB : ∀ z : List Int, stB (z.map (fun a => ((0, a, a) : St))) = z := by
    intro z; induction z with
    | nil => rfl
    | cons a z ih => simp [stB] at ih ⊢; exact ih
  have hmC : ∀ z : List Int, stC (z.map (fun a => ((0, a, a) : St))) = 0 := by
    intro z; induction z with
    | nil => rfl
    | cons a z ih => simp [stC] at ih ⊢; exact ih
  have hge := stC_ge _ hL
  rw [stA_append, stA_append, stB_append, stB_append, hmA, hmB, stC_append, stC_append, hmC] at hge
  rw [hl, stA_append, stA_append, stB_append, stB_append, stC_append, stC_append] at hc
  rw [e] at hge hc
  have hr2 := stC_run r hrun
  have := List.length_pos_iff.2 hne
  omega

theorem levR_rev_le (x y : List Int) : levR x y ≤ levR x.reverse y.reverse := by
  have p := pathR_all x.reverse y.reverse
  have h := stC_ge (pathR x.reverse y.reverse).reverse (fun s hs => p.2.2.2 s (List.mem_reverse.1 hs))
  rwa [stA_rev, stB_rev, stC_rev, p.1, p.2.1, p.2.2.1, List.reverse_reverse, List.reverse_reverse] at h
theorem levR_rev (x y : List Int) : levR x.reverse y.reverse = levR x y := by
  have h1 := levR_rev_le x y
  have h2 := levR_rev_le x.reverse y.reverse
  rw [List.reverse_reverse, List.reverse_reverse] at h2
  omega

/-- All of two tokens' blocks. -/
theorem pair_facts (s t : List UInt8) (h : tokErr2 s t = 0) : (stepsS s t).all stGood = true ∧ ((ofS (stepsS s t)).length = 0 → longS (stepsS s t) = 0 → stC (stepsS s t) = 0) ∧ (s = t → ofS (stepsS s t) = []) := by
  obtain ⟨f1, f2, f3, f4, _, _, _⟩ := steps_facts s t h
  have hg : (stepsS s t).all stGood = true := by
    cases hg : (stepsS s t).all stGood with
    | true => rfl
    | false => rw [stErr, hg] at f3; cases f3
  refine ⟨hg, fun h1 h2 => ?_, fun e => ?_⟩
  · have hL : (ofS (stepsS s t)) = [] := List.eq_nil_of_length_eq_zero h1
    by_cases hr : rowsP (stepsS s t) = []
    · exact stC_zero_rows hr
    · exfalso
      obtain ⟨r, hr⟩ := List.exists_mem_of_ne_nil _ hr
      have p := pathR_all (tokRunes s).reverse (tokRunes t).reverse
      have hs : stepsS s t = (pathR (tokRunes s).reverse (tokRunes t).reverse).reverse := by rw [stepsS, if_pos h]
      have hd := least_differ (stepsS s t) (good_ok _ hg) (by
        have a1 : stA (stepsS s t) = tokRunes s := by rw [hs, stA_rev, p.1, List.reverse_reverse]
        have a2 : stB (stepsS s t) = tokRunes t := by rw [hs, stB_rev, p.2.1, List.reverse_reverse]
        rw [f4, a1, a2, distS, if_pos h]
        exact Nat.le_of_eq (levR_rev _ _)) r hr
      unfold ofS at hL
      rw [if_pos hg, List.map_eq_nil_iff, List.filter_eq_nil_iff] at hL
      unfold longS at h2
      rw [if_pos hg] at h2
      have h3 := List.filter_eq_nil_iff.1 (List.eq_nil_of_length_eq_zero h2) r hr
      have h4 := hL r hr
      have h5 : diffB r = true := decide_eq_true hd
      have h6 : longB r = false := by simpa using h3
      rw [h5, h6] at h4
      exact h4 rfl
  · subst e
    have h0 : stC (stepsS s s) = 0 := by rw [f4, distS, if_pos h, levR_self]
    have := ofS_count (stepsS s s)
    exact List.eq_nil_of_length_eq_zero (by omega)
/-- Two rows of steps, a match between. -/
theorem ofS_parts (l r : List St) (m : St) (hm : m.1 = 0) (hmg : stGood m = true) (hl : l.all stGood = true) (hr : r.all stGood = true) : ofS (l ++ m :: r) = ofS l ++ ofS r := by
  have h : (l ++ m :: r).all stGood = true := by rw [List.all_append, List.all_cons, hl, hmg, hr]; rfl
  rw [ofS, if_pos h, ofS, if_pos hl, ofS, if_pos hr, rowsP_parts l r m hm, List.filter_append, List.map_append]
end Go.Proofs.YtlicchblafodaaaDoor

/- The ranges of the longest rows of steps that aren't matches, plain. -/
namespace Go.Proofs.YtlicchblafodaaaDoor
open Go.RowKit Go.Shelf

/-- The ranges of rows: f where the row under way began, k where the rest begins. -/
def rng (f k : Nat) : List St → List (Nat × Nat)
  | [] => if f < k then [(f, k)] else []
  | s :: t => if s.1 = 0 then (if f < k then [(f, k)] else []) ++ rng (k + 1) (k + 1) t else rng f (k + 1) t
def cutR (l : List St) (p : Nat × Nat) : List St := (l.drop p.1).take (p.2 - p.1)
theorem cutR_none (l : List St) (f : Nat) : cutR l (f, f) = [] := by simp [cutR]
theorem cutR_len (l : List St) (p : Nat × Nat) (h : p.2 ≤ l.length) : (cutR l p).length = p.2 - p.1 := by simp [cutR]; omega
theorem cutR_drop (l : List St) (f k : Nat) (h : f ≤ k) : l.drop f = cutR l (f, k) ++ l.drop k := by
  have e : l.drop k = (l.drop f).drop (k - f) := by rw [List.drop_drop]; congr 1; omega
  rw [e]; exact (List.take_append_drop _ _).symm
theorem cutR_snoc (l : List St) (f k : Nat) (s : St) (t : List St) (h : f ≤ k) (hd : l.drop k = s :: t) : cutR l (f, k + 1) = cutR l (f, k) ++ [s] := by
  have hs : (l.drop f)[k - f]? = some s := by
    rw [List.getElem?_drop, show f + (k - f) = k by omega]
    have h0 := congrArg (fun z => z[0]?) hd
    simpa [List.getElem?_drop] using h0
  show (l.drop f).take (k + 1 - f) = (l.drop f).take (k - f) ++ [s]
  rw [show k + 1 - f = (k - f) + 1 by omega, List.take_add_one, hs]; rfl
theorem cutR_getD (l : List St) (p : Nat × Nat) (j : Nat) (hj : j < p.2 - p.1) : (cutR l p).getD j (0, 0, 0) = l.getD (p.1 + j) (0, 0, 0) := by
  simp only [cutR, List.getD_eq_getElem?_getD, List.getElem?_take, List.getElem?_drop, if_pos hj]
theorem cutR_mem (l : List St) (p : Nat × Nat) : ∀ s ∈ cutR l p, s ∈ l := fun _ hs => List.mem_of_mem_drop (List.mem_of_mem_take hs)
theorem run_take {r : List St} (h : ∀ s ∈ r, s.1 ≠ 0) : r.takeWhile ne0 = r ∧ r.dropWhile ne0 = [] := by
  induction r with
  | nil => exact ⟨rfl, rfl⟩
  | cons a r ih =>
    have ha := ne0_true.2 (h a (by simp))
    obtain ⟨i1, i2⟩ := ih (fun s hs => h s (by simp [hs]))
    exact ⟨by rw [List.takeWhile_cons, ha, i1]; rfl, by rw [List.dropWhile_cons, ha, i2]; rfl⟩
theorem rowsP_one {r : List St} (h : ∀ s ∈ r, s.1 ≠ 0) (hr : r ≠ []) : rowsP r = [r] := by
  cases r with
  | nil => exact absurd rfl hr
  | cons a r =>
    obtain ⟨i1, i2⟩ := run_take (fun s hs => h s (List.mem_cons_of_mem a hs))
    rw [rowsP_row (h a (by simp)), i1, i2, rowsP_nil]
theorem rng_rows (l : List St) : ∀ (t : List St) (f k : Nat), l.drop k = t → f ≤ k → k ≤ l.length → (∀ s ∈ cutR l (f, k), s.1 ≠ 0) → (rng f k t).map (cutR l) = rowsP (l.drop f) := by
  intro t
  induction t with
  | nil =>
    intro f k hd hf hk hr
    rw [cutR_drop l f k hf, hd, List.append_nil, rng]
    by_cases hfk : f < k
    · rw [if_pos hfk, rowsP_one hr (by intro e; have := cutR_len l (f, k) hk; rw [e] at this; simp at this; omega)]; rfl
    · obtain rfl : f = k := by omega
      rw [if_neg hfk, cutR_none, rowsP_nil]; rfl
  | cons s t ih =>
    intro f k hd hf hk hr
    have hlt : k < l.length := by
      have := congrArg List.length hd
      simp at this; omega
    have hd' : l.drop (k + 1) = t := by rw [← List.drop_drop, hd]; rfl
    rw [rng]
    by_cases hs : s.1 = 0
    · rw [if_pos hs, List.map_append, ih (k + 1) (k + 1) hd' (Nat.le_refl _) hlt (by rw [cutR_none]; simp), hd', cutR_drop l f k hf, hd, rowsP_parts _ _ _ hs]
      congr 1
      by_cases hfk : f < k
      · rw [if_pos hfk, rowsP_one hr (by intro e; have := cutR_len l (f, k) hk; rw [e] at this; simp at this; omega)]; rfl
      · obtain rfl : f = k := by omega
        rw [if_neg hfk, cutR_none, rowsP_nil]; rfl
    · rw [if_neg hs, ih f (k + 1) hd' (by omega) hlt (by
        rw [cutR_snoc l f k s t hf hd]
        intro z hz
        rcases List.mem_append.1 hz with hz | hz
        · exact hr z hz
        · obtain rfl : z = s := by simpa using hz
          exact hs)]
theorem rng_all (l : List St) : (rng 0 0 l).map (cutR l) = rowsP l := by
  have := rng_rows l l 0 0 rfl (Nat.le_refl _) (Nat.zero_le _) (by rw [cutR_none]; simp)
  exact this

/-- A range within so many steps. -/
abbrev RgI (n : Nat) := { p : Nat × Nat // p.1 < p.2 ∧ p.2 ≤ n }
def rgL {n : Nat} (l : List (RgI n)) : List (Nat × Nat) := l.map (·.val)
theorem rgL_snoc {n : Nat} (l : List (RgI n)) (x : RgI n) : rgL (l ++ [x]) = rgL l ++ [x.val] := by simp [rgL]
theorem rgL_len {n : Nat} (l : List (RgI n)) : (rgL l).length = l.length := by simp [rgL]

/-- Check's answer at a good row's block. -/
theorem chk_blk {r : List St} (hg : r.all stGood = true) : chkS (blkOf r) = if longB r then 5 else if diffB r then 0 else 7 := by
  obtain ⟨ea, eb, ia, ib, va, vb⟩ := row_texts hg
  unfold chkS blkOf
  simp only [mkB_data, va, vb, ia, ib, Bool.and_self, if_true]
  by_cases hl : 3 < (stA r).length ∨ 3 < (stB r).length
  · have hL : longB r = true := decide_eq_true hl
    rw [if_pos hl, hL]; rfl
  · have hL : longB r = false := decide_eq_false hl
    rw [if_neg hl, hL]
    by_cases hd : stA r = stB r
    · have hD : diffB r = false := decide_eq_false (fun h => h hd)
      have he : readA r = readB r := (row_differ hg).2 hd
      rw [hD, if_pos (by rw [he])]; rfl
    · have hD : diffB r = true := decide_eq_true hd
      have hne : mkB (readA r) ≠ mkB (readB r) := fun e => hd ((row_differ hg).1 (by rw [← mkB_data (readA r), e, mkB_data]))
      rw [hD, if_neg hne, if_neg (by omega)]; rfl
/-- The blocks among all that Check lets by are those that aren't too long, and differ. -/
theorem of_filter {l : List St} (hg : l.all stGood = true) : ((rowsP l).map blkOf).filter (fun b => decide (chkS b = 0)) = ofS l := by
  rw [ofS, if_pos hg, List.filter_map]
  congr 1
  refine List.filter_congr (fun r hr => ?_)
  show decide (chkS (blkOf r) = 0) = _
  rw [chk_blk (rows_good hg r hr)]
  cases longB r <;> cases diffB r <;> rfl
theorem long_filter {l : List St} (hg : l.all stGood = true) : (((rowsP l).map blkOf).filter (fun b => decide (chkS b = 5))).length = longS l := by
  rw [longS, if_pos hg, List.filter_map, List.length_map]
  congr 1
  refine List.filter_congr (fun r hr => ?_)
  show decide (chkS (blkOf r) = 5) = _
  rw [chk_blk (rows_good hg r hr)]
  cases longB r <;> cases diffB r <;> rfl
end Go.Proofs.YtlicchblafodaaaDoor

/- A loop over an iterator that itself loops over another one and hands its elements on: what such an iterator promises, and the law of the loop over it. -/
namespace Go.Proofs.YtlicchblafodaaaDoor
open Go.RowKit Go.Shelf

/-- What such an iterator does between two rounds: whatever lay below B lies as it lay; of what lies from B on it turns its own two boxes and what holds no cells. -/
def Priv (B : Nat) (W1 W2 : World) : Prop := Below B W1 W2 ∧ ∀ k o, B + 2 ≤ k → W1.heap[k]? = some o → o.isCells = true → W2.heap[k]? = some o
theorem Priv.of_below {B : Nat} {W1 W2 : World} (h : Below W1.heap.size W1 W2) (hB : B ≤ W1.heap.size) : Priv B W1 W2 :=
  ⟨h.mono hB, fun k _ _ hk _ => (h.block k (Array.getElem?_eq_some_iff.1 hk).1).trans hk⟩
theorem Priv.of_grown {B : Nat} {W1 W2 : World} {row : Option Nat} (h : W1.grownBy W2 row) (hr : ∀ r, row = some r → B + 2 ≤ r ∧ ∃ o : Obj, W1.heap[r]? = some o ∧ o.isCells = false) (hB : B ≤ W1.heap.size) : Priv B W1 W2 :=
  ⟨⟨h.os, h.tape, h.output, h.size, fun k hk => h.block k (Nat.lt_of_lt_of_le hk hB) (fun e => by have := (hr k e.symm).1; omega)⟩,
   fun k _ _ hk ho => (h.block k (Array.getElem?_eq_some_iff.1 hk).1 (fun e => by
     obtain ⟨_, o', ho', hc⟩ := hr k e.symm
     rw [hk] at ho'; cases ho'; rw [ho] at hc; cases hc)).trans hk⟩

/-- The two boxes are kept. -/
def KeepsTwo (B : Nat) (W W' : World) : Prop := ∀ k, B ≤ k → k < B + 2 → W'.heap[k]? = W.heap[k]?

/-- The contract of such an iterator, where no round leaves early. -/
def SeqT {α : Type} (n : Nat) (P : Program) (g : Nat) (lb : Array Value) (encs : α → Array Value) (Kp : World → World → Prop) (S : List α → Prop) (N : Nat) (w : World) : Prop :=
  ∀ (l : Nat) (J : List α → World → Prop) (W : World), Below w.heap.size w W → (∀ pre W1 W2, J pre W1 → W.heap.size ≤ W1.heap.size → Priv W.heap.size W1 W2 → J pre W2) →
    (∀ pre x W1, J pre W1 → pre.length < N → W.heap.size + 2 ≤ W1.heap.size → YieldAt Fence.wide (n - 1) P l (encs x) W1 fun e W' =>
      e = .returned (.bool true) ∧ J (pre ++ [x]) W' ∧ Kp W1 W' ∧ KeepsFrom W.heap.size W1 W' ∧ KeepsTwo W.heap.size W1 W') →
    J [] W →
    CallsIn Fence.wide n P g (#[.func (.yield l) #[] #[]] ++ lb) W fun e W' => (∃ v, e = .returned v) ∧ ∃ xs, S xs ∧ J xs W'

theorem yield_deep {m m' l l' : Nat} {P : Program} {args : Array Value} {W : World} {R : Ending → World → Prop} (h : YieldAt Fence.wide m P l args W R) : YieldAt (Fence.wide.inRound l') m' P l args W R := by
  obtain ⟨fn, tmps, assign, body, hy, hR⟩ := h
  exact ⟨fn, tmps, assign, body, hy, hR.1, fun c cs _ => hR.2 c cs (room_wide _)⟩

/-- How the body of a round is left. -/
def privPost {α : Type} (b : Nat) (Kp : World → World → Prop) (I : List α → World → Prop) (xs : List α) (W : World) : Exit → Act → World → Prop
  | .normal, _, W' => KeepsFrom b W W' ∧ KeepsTwo (b + 2) W W' ∧ Kp W W' ∧ I xs W'
  | _, _, _ => False

theorem wp_range_priv {α : Type} {n : Nat} {P : Program} {g : Operand} {ps : Array Tmp} {assign body : Code} {Q : Exit → Act → World → Prop} {a : Act} {w : World}
    (h1 : 1 ≤ n) {gf : Nat} {lb : Array Value} (hg : a.eval g = .func (.func gf) #[] lb) (eg : ∀ args w, (callFunc gf args).run P w = .ok (.enter gf args) w)
    {encs : α → Array Value} {Kp : World → World → Prop} {S : List α → Prop} {N : Nat} {w0 : World} (hseq : SeqT (n - 1) P gf lb encs Kp S N w0)
    (hKt : ∀ {A B C : World}, Kp A B → Kp B C → Kp A C) (hKb : ∀ (W : World) (l : Nat) (o o' : Obj), w.heap.size ≤ l → W.heap[l]? = some o → o.isCells = false → o.isWalk = false → Kp W (W.putObj l o')) (hb0 : Below w0.heap.size w0 w) (hps : ∀ x, (encs x).size = ps.size)
    (I : List α → World → Prop) (hI : OwnFrom w.heap.size I) (hIp : ∀ pre W1 W2, I pre W1 → w.heap.size + 2 ≤ W1.heap.size → Priv (w.heap.size + 2) W1 W2 → I pre W2) (h0 : I [] w) (a₁ : α → Act)
    (hassign : ∀ (l : Nat) (x : α) (W : World) (K : Act → World → Prop), K (a₁ x) W →
      assign.wpIn (Fence.wide.inRound l) (n - 1 - 1) P (Exit.then K (fun _ _ _ => False)) { tmps := (ps.zip (encs x)).foldl (fun t (p, v) => t.setIfInBounds p v) a.tmps, defers := [] } W)
    (hbody : ∀ (l : Nat) (pre : List α) (x : α) (W : World), w.heap.size + 4 ≤ W.heap.size → I pre W → pre.length < N → body.wpIn (Fence.wide.inRound l) (n - 1 - 1) P (privPost w.heap.size Kp I (pre ++ [x]) W) (a₁ x) W)
    (hdone : ∀ (D : Nat) (xs : List α) (W : World), w.heap.size ≤ D → S xs → I xs W → W.heap[D]? = some (.deferred (some [])) → Q .normal { a with defers := { target := .collected D, args := #[] } :: a.defers } W) :
    (Code.rangeFunc g ps assign body).wpIn Fence.wide n P Q a w := by
  refine wpIn_rangeFunc fun fn hfn => ?_
  obtain ⟨b, hb⟩ : ∃ b, w.heap.size = b := ⟨_, rfl⟩
  obtain ⟨rc, hrc⟩ : ∃ rc : LoopState → Loop, rc = fun st => { state := st, pending := none, fn, tmps := a.tmps, params := ps, assign, body, defers := b } := ⟨_, rfl⟩
  obtain ⟨V, hV⟩ : ∃ V, (w.alloc (.deferred (some []))).alloc (.loop (rc .ready)) = V := ⟨_, rfl⟩
  have hVs : V.heap.size = b + 2 := by rw [← hV]; simp [hb]
  have hL : V.heap[b + 1]? = some (.loop (rc .ready)) := by
    rw [← hV]; have := World.alloc_heap_new (w.alloc (.deferred (some []))) (.loop (rc .ready)); rwa [World.size_alloc, hb] at this
  have hD : V.heap[b]? = some (.deferred (some [])) := by
    rw [← hV, ← hb]; exact (Below.heap_alloc _ _ _ (by simp)).trans (World.alloc_heap_new w _)
  have hI0 : I [] V := by rw [← hV]; exact hI.alloc _ (hI.alloc _ h0)
  have hbV : Below w0.heap.size w0 V := by
    rw [← hV]; exact hb0.trans ((((Below.refl _ w).alloc (Nat.le_refl _) _).alloc (by simp) _).mono hb0.size)
  rw [hb] at hKb hI hIp hbody hdone
  refine ⟨b + 1, [{ target := .collected b, args := #[] }], V, { target := .fn (.func gf) lb, args := #[.func (.yield (b + 1)) #[] #[]] }, V, gf, #[.func (.yield (b + 1)) #[] #[]] ++ lb, V, ?_, ?_, ?_, ?_, fun _ => h1, ?_⟩
  · rw [← hV, hrc, ← hb]; exact run_enterLoop_outer _ _ _ _ _
  · simp only [resolve, hg]; simp [go_sem]
  · intro f' _; trivial
  · simp [invoke, go_sem, eg]
  refine (hseq (b + 1) (fun pre W => I pre W ∧ W.heap[b + 1]? = some (.loop (rc .ready)) ∧ W.heap[b]? = some (.deferred (some []))) V hbV
    (fun pre A B hJ hs hp => by
      rw [hVs] at hp hs
      exact ⟨hIp pre A B hJ.1 hs hp, (hp.1.block _ (by omega)).trans hJ.2.1, (hp.1.block _ (by omega)).trans hJ.2.2⟩) ?_ ⟨hI0, hL, hD⟩).mono ?_
  · rintro pre x W ⟨hi, hl, hk⟩ hlen hsz
    rw [hVs] at hsz ⊢
    have hlt : b + 1 < W.heap.size := by omega
    have hy := run_yield (P := P) (args := encs x) hl (by rw [hrc]; exact hps x)
    rw [hrc] at hy
    obtain ⟨W2, hW2⟩ : ∃ W2, W.putObj (b + 1) (.loop { rc .ready with state := .busy }) = W2 := ⟨_, rfl⟩
    have hl2 : W2.heap[b + 1]? = some (.loop { rc .ready with state := .busy }) := by rw [← hW2]; exact World.putObj_heap_same hlt
    have ho2 : ∀ k, k ≠ b + 1 → W2.heap[k]? = W.heap[k]? := fun k hne => by rw [← hW2]; exact World.putObj_heap_other hne
    have hs2 : W2.heap.size = W.heap.size := by rw [← hW2]; simp
    have hkp2 : Kp W W2 := by rw [← hW2]; exact hKb _ _ _ _ (by omega) hl rfl rfl
    have hi2 : I pre W2 := by rw [← hW2]; exact hI.putObj _ hi (by omega) hl rfl
    refine ⟨fn, _, assign, body, hy, roundIn_of_wpIn hfn (hassign _ x W _ ⟨W2, by rw [← hW2]; exact run_beginRound hl (by rw [hrc]), ?_⟩)⟩
    refine wpIn_mono (hbody _ pre x W2 (by omega) hi2 hlen) ?_
    rintro e a3 W3 hp
    cases e with
    | normal =>
      obtain ⟨hk3, ht3, hkp3, hi3⟩ := hp
      have hl3 := hk3.same _ _ (by omega) hl2 rfl
      have he := run_endRound (P := P) none hl3
      refine ⟨_, _, he, rfl, ⟨hI.putObj _ hi3 (by omega) hl3 rfl, ?_, ?_⟩, hKt (hKt hkp2 hkp3) (hKb _ _ _ _ (by omega) hl3 rfl rfl), ?_, ?_⟩
      · rw [World.putObj_heap_same (Array.getElem?_eq_some_iff.1 hl3).1, hrc]; rfl
      · exact (World.putObj_heap_other (by omega)).trans (hk3.same _ _ (Nat.le_refl _) ((ho2 b (by omega)).trans hk) rfl)
      · refine ⟨by simp; have := hk3.size; omega, fun k _ hB hk0 ho => ?_⟩
        exact (World.putObj_heap_other (by omega)).trans (hk3.same _ _ (by omega) ((ho2 k (by omega)).trans hk0) ho)
      · intro k hB1 hB2
        exact (World.putObj_heap_other (by omega)).trans ((ht3 k hB1 hB2).trans (ho2 k (by omega)))
    | ret => exact hp.elim
    | exit id => exact hp.elim
    | goto t => exact hp.elim
    | panic ch => exact hp.elim
    | outgrown => exact hp.elim
  · rintro e W2 ⟨⟨v, rfl⟩, xs, hS, hi, hl, hk⟩
    have he := run_endLoop (P := P) hl (by rw [hrc]; simp)
    refine ⟨none, _, by rw [hrc] at he; exact he, hdone _ xs _ (Nat.le_refl _) hS (hI.putObj _ hi (by omega) hl rfl) ((World.putObj_heap_other (by omega)).trans hk)⟩
end Go.Proofs.YtlicchblafodaaaDoor

/- The longest rows of steps that aren't matches, as block.rows hands them on: the iterator's contract. -/
namespace Go.Proofs.YtlicchblafodaaaDoor
open Go.RowKit Go.Shelf
attribute [local go_sem] Oper.semAt_some

/-- A row as a value: a part of the steps' own slice. -/
def rowV (b o c : Nat) (p : Nat × Nat) : Value := .slice (some ⟨b, o + p.1 * 3, none⟩) (p.2 - p.1) (c - p.1)
/-- A part of steps reads as a part of the list. -/
theorem StRuns.cut {w : World} {b o c n : Nat} {l : List St} (h : StRuns w (.slice (some ⟨b, o, none⟩) n c) l) (hn : l.length = n) (p : Nat × Nat) (h1 : p.1 < p.2) (h2 : p.2 ≤ n) : StRuns w (rowV b o c p) (cutR l p) := by
  obtain ⟨A, c', e, hc, ⟨hm, _⟩, hx⟩ := h
  obtain ⟨rfl, _, rfl⟩ := Value.slice.inj e
  obtain ⟨b', o', e2, hlt, hcell⟩ := hx (by omega)
  have e3 := Option.some.inj e2
  simp only [Addr.mk.injEq] at e3
  obtain ⟨rfl, rfl, _⟩ := e3
  have hl := cutR_len l p (by omega)
  refine ⟨some ⟨b, o + p.1 * 3, none⟩, c - p.1, by rw [hl, rowV], by omega, ⟨by omega, fun h => by cases h⟩, fun _ => ⟨b, o + p.1 * 3, rfl, hlt, fun j hj => ?_⟩⟩
  rw [hl] at hj
  have := hcell (p.1 + j) (by omega)
  rw [cutR_getD l p j hj]
  rwa [show o + p.1 * 3 + j * 3 = o + (p.1 + j) * 3 by omega]
theorem rng_nil_end (f : Nat) : rng f f [] = [] := by rw [rng, if_neg (by omega)]

set_option maxRecDepth 100000 in
set_option maxHeartbeats 8000000 in
theorem riter_in (n : Nat) (hn : 1 ≤ n) (l Bs n₀ : Nat) (A : Option Addr) (N c b o : Nat) (L : List St) (hN : L.length = N) (hL : N ≤ 1000000) (hA : 0 < N → A = some ⟨b, o, none⟩) (w0 : World) (hw0 : w0.heap.size = n₀) (hx : StRuns w0 (.slice A N c) L) (J Jx : List (RgI N) → World → Prop)
    (W : World) (hJ : AbidesFrom W.heap.size J)
    (hY : ∀ pre x W1, J pre W1 → pre.length < N → YieldAt Fence.wide (n - 1) Tryd.prog l #[rowV b o c x.val] W1 fun e W' =>
      (e = .returned (.bool true) ∧ J (pre ++ [x]) W' ∧ Keep n₀ Bs W1 W') ∨ (e = .returned (.bool false) ∧ Jx (pre ++ [x]) W'))
    (_ : n₀ ≤ W.heap.size) (hW0 : Below n₀ w0 W) (_ : Bs < W.heap.size)
    (hc : W.cell? ⟨Bs, 0, none⟩ = some (.slice A N c)) (h0 : J [] W) :
    CallsIn Fence.wide n Tryd.prog 53 #[.func (.yield l) #[] #[], .pointer (some ⟨Bs, 0, none⟩)] W fun e W' => (∃ v, e = .returned v) ∧
      ((∃ ys, rgL ys = rng 0 0 L ∧ J ys W') ∨ (∃ pre, rgL pre <+: rng 0 0 L ∧ Jx pre W')) := by
  have HN := Lib.hid hN; clear hN
  have HX := Lib.hid hx; clear hx
  have HW0 := Lib.hid hw0; clear hw0
  have hcm : N ≤ c ∧ c ≤ 9223372036854775807 := by
    obtain ⟨A', c', e, h1, ⟨h2, _⟩, _⟩ := HX.out
    obtain ⟨rfl, _, rfl⟩ := Value.slice.inj e
    unfold maxLen at h2
    exact ⟨HN.out ▸ h1, h2⟩
  obtain ⟨R0, hR0⟩ : ∃ R0, rng 0 0 L = R0 := ⟨_, rfl⟩
  rw [hR0]
  have HR0 : Hid (R0 = rgL ([] : List (RgI N)) ++ rng 0 0 (L.drop 0)) := Lib.hid (by rw [← hR0]; rfl)
  clear hR0
  refine callsIn_of_wp Tryd.func53 rfl trivial ?_ rfl
  simp only [Tryd.ntmps53, List.size_toArray, List.length_cons, List.length_nil, Nat.reduceAdd, Nat.reduceSub, Array.replicate_succ, Array.replicate_zero, List.push_toArray, List.append_toArray, List.nil_append, List.cons_append]
  refine wpIn_wide.2 (wp_scope_straight ((wpIn_wide (n := n)).1 ?_))
  gi_wp2_with (refine wpIn_label ?_)
  gi_loopw [3, 8] (fun s3 s8 wr => ∃ (f k : Nat) (pre : List (RgI N)), s3 = .int .i64 f ∧ s8 = .int .i64 k ∧ f ≤ k ∧ k ≤ N + 1 ∧ (k = N + 1 → f = k) ∧ pre.length ≤ f ∧ Hid (R0 = rgL pre ++ rng f k (L.drop k)) ∧ J pre wr ∧ Keep n₀ Bs W wr)
    (fun _ s8 _ => N + 1 - (intOf s8).toNat)
  case atStart => exact ⟨0, 0, [], rfl, rfl, Nat.le_refl _, by omega, by omega, by simp, HR0, h0, Keep.refl _ _ _⟩
  case round =>
    clear HR0 h0
    obtain ⟨f, k, pre, rfl, rfl, hfk, hkN, hkf, hpf, HR, hJs, hKB⟩ := hrel
    have hcell : wr.cell? ⟨Bs, 0, none⟩ = some (.slice A N c) := (World.cell?_of_block hKB.2).trans hc
    have BL : Hid (Below n₀ w0 wr) := Lib.hid (hW0.trans hKB.1)
    by_cases hend : k = N + 1
    · obtain rfl := hkf hend
      subst hend
      have HE : Hid (rgL pre = R0) := Lib.hid (by rw [HR.out, List.drop_of_length_le (by rw [HN.out]; omega), rng_nil_end, List.append_nil])
      gi_wp2
      go_end0
      exact ⟨⟨_, rfl⟩, .inl ⟨pre, HE.out, hJs⟩⟩
    have k1 : (k : Int) < (N : Int) + 1 := by omega
    by_cases hk : k < N
    · obtain rfl := hA (by omega)
      have hcs : wr.cell? ⟨b, o + k * 3, none⟩ = some (.int .i64 (L.getD k (0, 0, 0)).1) := by
        obtain ⟨A', c', e, _, _, hx⟩ := HX.out.below (HW0.out.symm ▸ BL.out)
        obtain ⟨e1, _, rfl⟩ := Value.slice.inj e
        obtain ⟨b', o', e2, _, hc⟩ := hx (by rw [HN.out]; omega)
        have e3 := Option.some.inj (e1.trans e2)
        simp only [Addr.mk.injEq] at e3
        obtain ⟨rfl, rfl, _⟩ := e3
        exact (hc k (by rw [HN.out]; exact hk)).1
      obtain ⟨s, hs⟩ : ∃ s, L.getD k (0, 0, 0) = s := ⟨_, rfl⟩
      have hd : L.drop k = s :: L.drop (k + 1) := by
        rw [List.drop_eq_getElem_cons (by rw [HN.out]; exact hk), ← hs, List.getD_eq_getElem?_getD, List.getElem?_eq_getElem (by rw [HN.out]; exact hk)]; rfl
      rw [hs] at hcs
      have HR' : Hid (R0 = rgL pre ++ rng f k (s :: L.drop (k + 1))) := Lib.hid (by rw [HR.out, hd])
      clear hd hs HR
      obtain ⟨kd, hkd⟩ : ∃ kd, s.1 = kd := ⟨_, rfl⟩
      rw [hkd] at hcs
      have k2 : (k : Int) < (N : Int) := by omega
      by_cases hz : kd = 0
      · subst hz
        by_cases hlt : f < k
        · have k3 : (f : Int) < (k : Int) := by omega
          obtain ⟨X, hX⟩ : ∃ X : RgI N, X.val = (f, k) := ⟨⟨(f, k), hlt, by show k ≤ N; omega⟩, rfl⟩
          have HRn : Hid (R0 = rgL (pre ++ [X]) ++ rng (k + 1) (k + 1) (L.drop (k + 1))) := Lib.hid (by rw [HR'.out, rng, if_pos hkd, if_pos hlt, rgL_snoc, hX]; simp)
          obtain ⟨fn, tmps, assign, body, hy, hR⟩ := hY pre X wr hJs (by omega)
          rw [hX, rowV] at hy
          simp only at hy
          clear hX hkd HR'
          gi_wp2
          refine hR.mono ?_
          rintro e W3 (⟨rfl, hJ3, hk3⟩ | ⟨rfl, hJx3⟩)
          · gi_wp2
            go_roundw
            case rel => exact ⟨k + 1, k + 1, pre ++ [X], by go_num, by go_num, Nat.le_refl _, by omega, fun _ => rfl, by simp; omega, HRn, hJ3, hKB.trans hk3⟩
            case measure => simp [intOf] <;> omega
          · gi_wp2
            rw [Exit.noGoto_normal]
            go_end0
            exact ⟨⟨_, rfl⟩, .inr ⟨pre ++ [X], by rw [HRn.out]; exact List.prefix_append _ _, hJx3⟩⟩
        · have k3 : ¬ (f : Int) < (k : Int) := by omega
          obtain rfl : f = k := by omega
          have HRn : Hid (R0 = rgL pre ++ rng (f + 1) (f + 1) (L.drop (f + 1))) := Lib.hid (by rw [HR'.out, rng, if_pos hkd, if_neg hlt]; simp)
          clear hkd HR'
          gi_wp2
          refine ⟨fun _ _ => trivial, ?_⟩
          gi_wp2
          go_roundw
          case rel => exact ⟨f + 1, f + 1, pre, by go_num, by go_num, Nat.le_refl _, by omega, fun _ => rfl, by omega, HRn, hJs, hKB⟩
          case measure => simp [intOf] <;> omega
      · have hz' : (kd == 0) = false := by simpa using hz
        have hz2 : (kd != 0) = true := by simpa using hz
        have HRn : Hid (R0 = rgL pre ++ rng f (k + 1) (L.drop (k + 1))) := Lib.hid (by rw [HR'.out, rng, if_neg (by rw [hkd]; exact hz)])
        clear hkd HR'
        gi_wp2
        go_roundw
        case rel => exact ⟨f, k + 1, pre, by go_num, by go_num, by omega, by omega, by omega, hpf, HRn, hJs, hKB⟩
        case measure => simp [intOf] <;> omega
    · obtain rfl : k = N := by omega
      have HR' : Hid (R0 = rgL pre ++ rng f k []) := Lib.hid (by rw [HR.out, List.drop_of_length_le (Nat.le_of_eq HN.out)])
      have hdn : L.drop (k + 1) = [] := List.drop_of_length_le (by rw [HN.out]; omega)
      by_cases hlt : f < k
      · have k3 : (f : Int) < (k : Int) := by omega
        obtain rfl := hA (by omega)
        obtain ⟨X, hX⟩ : ∃ X : RgI k, X.val = (f, k) := ⟨⟨(f, k), hlt, Nat.le_refl _⟩, rfl⟩
        have HRn : Hid (R0 = rgL (pre ++ [X]) ++ rng (k + 1) (k + 1) (L.drop (k + 1))) := Lib.hid (by rw [HR'.out, rng, if_pos hlt, rgL_snoc, hX, hdn, rng_nil_end]; simp)
        obtain ⟨fn, tmps, assign, body, hy, hR⟩ := hY pre X wr hJs (by omega)
        rw [hX, rowV] at hy
        simp only at hy
        clear hX HR' HR hdn
        gi_wp2
        refine hR.mono ?_
        rintro e W3 (⟨rfl, hJ3, hk3⟩ | ⟨rfl, hJx3⟩)
        · gi_wp2
          go_roundw
          case rel => exact ⟨k + 1, k + 1, pre ++ [X], by go_num, by go_num, Nat.le_refl _, by omega, fun _ => rfl, by simp; omega, HRn, hJ3, hKB.trans hk3⟩
          case measure => simp [intOf] <;> omega
        · gi_wp2
          rw [Exit.noGoto_normal]
          go_end0
          exact ⟨⟨_, rfl⟩, .inr ⟨pre ++ [X], by rw [HRn.out]; exact List.prefix_append _ _, hJx3⟩⟩
      · have k3 : ¬ (f : Int) < (k : Int) := by omega
        obtain rfl : f = k := by omega
        have HRn : Hid (R0 = rgL pre ++ rng (f + 1) (f + 1) (L.drop (f + 1))) := Lib.hid (by rw [HR'.out, rng, if_neg hlt, hdn, rng_nil_end])
        clear HR' HR hdn
        gi_wp2
        refine ⟨fun _ _ => trivial, ?_⟩
        gi_wp2
        go_roundw
        case rel => exact ⟨f + 1, f + 1, pre, by go_num, by go_num, Nat.le_refl _, by omega, fun _ => rfl, by omega, HRn, hJs, hKB⟩
        case measure => simp [intOf] <;> omega
end Go.Proofs.YtlicchblafodaaaDoor

/- errataref05.Size, Check, Less: what each answers. -/
namespace Go.Proofs.YtlicchblafodaaaDoor
open Go.RowKit Go.Shelf

set_option maxRecDepth 100000 in
set_option maxHeartbeats 2000000 in
theorem refSize_any (s : ByteArray) (w : World) (hs : s.size * 4 ≤ 140737488355328) :
    Calls Tryd.prog 30 #[.string s] w fun e w' => e = .returned (.int .i64 ((decRunes s.data.toList).length : Nat)) ∧ Below w.heap.size w w' := by
  have c := refDecode_runs s w hs
  obtain ⟨n, hn⟩ : ∃ n, (decRunes s.data.toList).length = n := ⟨_, rfl⟩
  obtain ⟨er, he⟩ : ∃ n, decErr s.data.toList = n := ⟨_, rfl⟩
  simp only [hn, he] at c
  rw [hn]
  clear hn he
  have C := Lib.hid c; clear c
  go_enter Tryd.func30, Tryd.ntmps30
  go_wp2_with fail
  refine C.out.mono ?_
  rintro e w1 ⟨A, cc, rfl, r1, b1⟩
  have B1 := Lib.hid b1; clear b1 r1
  go_wp2
  go_ret
  exact ⟨rfl, B1.out⟩

/-- A block as a value, and its cells. -/
def blkV (b : Blk) : Value := .agg #[.string b.1, .string b.2.1, .int .i64 b.2.2]
def blkCell (b : Blk) : List Value := [.string b.1, .string b.2.1, .int .i64 b.2.2]

set_option maxRecDepth 100000 in
set_option maxHeartbeats 4000000 in
theorem refCheck5_any (a b : ByteArray) (N : Int) (w : World) (ha : a.size * 4 ≤ 140737488355328) (hb : b.size * 4 ≤ 140737488355328) :
    Calls Tryd.prog 19 #[.agg #[.string a, .string b, .int .i64 N]] w fun e w' => e = .returned (.int .i64 (chkS (a, b, N))) ∧ Below w.heap.size w w' := by
  obtain ⟨res, hres⟩ : ∃ r, chkS (a, b, N) = r := ⟨_, rfl⟩
  rw [hres]
  have c1 := refDecode_runs a (w.alloc (.cells #[.string a, .string b, .int .i64 N] 35)) ha
  have c2 := fun w => refDecode_runs b w hb
  unfold chkS at hres
  simp only at hres
  have hal : Below w.heap.size w (w.alloc (.cells #[.string a, .string b, .int .i64 N] 35)) := (Below.refl _ _).alloc (Nat.le_refl _) _
  have HAL := Lib.hid hal; clear hal
  have key : ∀ (n m : Nat) (ea eb : Int), (decRunes a.data.toList).length = n → (decRunes b.data.toList).length = m → decErr a.data.toList = ea → decErr b.data.toList = eb →
      ((ea != 0) = true ∧ res = 3) ∨ ((ea != 0) = false ∧ (eb != 0) = true ∧ res = 3) ∨ ((ea != 0) = false ∧ (eb != 0) = false ∧ ((3 < n ∧ res = 5) ∨ (¬ 3 < n ∧ 3 < m ∧ res = 5) ∨ (¬ 3 < n ∧ ¬ 3 < m ∧ ((a = b ∧ res = 7) ∨ (a ≠ b ∧ ((N < 1 ∧ res = 2) ∨ (¬ N < 1 ∧ 1073741824 < N ∧ res = 2) ∨ (¬ N < 1 ∧ ¬ 1073741824 < N ∧ res = 0))))))) := by
    intro n m ea eb hn hm hea heb
    unfold decErr at hea heb
    unfold decRunes at hn hm
    cases va : Lib.validD a.data.toList with
    | false =>
      rw [va] at hea hres
      left
      exact ⟨by rw [← hea]; rfl, by rw [← hres]; rfl⟩
    | true =>
      rw [va] at hea hn hres
      have hea0 : ea = 0 := hea.symm
      cases vb : Lib.validD b.data.toList with
      | false =>
        rw [vb] at heb hres
        right; left
        exact ⟨by rw [hea0]; rfl, by rw [← heb]; rfl, by rw [← hres]; rfl⟩
      | true =>
        rw [vb] at heb hm hres
        have heb0 : eb = 0 := heb.symm
        right; right
        refine ⟨by rw [hea0]; rfl, by rw [heb0]; rfl, ?_⟩
        simp only [Bool.and_self, if_true] at hres hn hm
        rw [hn, hm] at hres
        by_cases h1 : 3 < n
        · left; exact ⟨h1, by rw [← hres, if_pos (.inl h1)]⟩
        · right
          by_cases h2 : 3 < m
          · left; exact ⟨h1, h2, by rw [← hres, if_pos (.inr h2)]⟩
          · right
            rw [if_neg (by omega)] at hres
            refine ⟨h1, h2, ?_⟩
            by_cases h3 : a = b
            · left; exact ⟨h3, by rw [← hres, if_pos h3]⟩
            · right
              rw [if_neg h3] at hres
              refine ⟨h3, ?_⟩
              by_cases h4 : N < 1
              · left; exact ⟨h4, by rw [← hres, if_pos (.inl h4)]⟩
              · right
                by_cases h5 : 1073741824 < N
                · left; exact ⟨h4, h5, by rw [← hres, if_pos (.inr h5)]⟩
                · right; exact ⟨h4, h5, by rw [← hres, if_neg (by omega)]⟩
  obtain ⟨n, hn⟩ : ∃ n, (decRunes a.data.toList).length = n := ⟨_, rfl⟩
  obtain ⟨m, hm⟩ : ∃ n, (decRunes b.data.toList).length = n := ⟨_, rfl⟩
  obtain ⟨ea, hea⟩ : ∃ n, decErr a.data.toList = n := ⟨_, rfl⟩
  obtain ⟨eb, heb⟩ : ∃ n, decErr b.data.toList = n := ⟨_, rfl⟩
  have hcs := key n m ea eb hn hm hea heb
  simp only [hn, hea] at c1
  simp only [hm, heb] at c2
  clear key hres hn hm hea heb
  have C1 := Lib.hid c1; have C2 := Lib.hid c2
  clear c1 c2
  have fin : ∀ w1 w2 : World, Below (w.alloc (.cells #[.string a, .string b, .int .i64 N] 35)).heap.size (w.alloc (.cells #[.string a, .string b, .int .i64 N] 35)) w1 → Below w1.heap.size w1 w2 →
      w1.cell? ⟨w.heap.size, 1, none⟩ = some (.string b) ∧ w2.cell? ⟨w.heap.size, 0, none⟩ = some (.string a) ∧ w2.cell? ⟨w.heap.size, 1, none⟩ = some (.string b) ∧ w2.cell? ⟨w.heap.size, 2, none⟩ = some (.int .i64 N) ∧ Below w.heap.size w w2 := fun w1 w2 h1 h2 => by
    have h12 := h1.trans (h2.mono h1.size)
    exact ⟨(h1.cell (p := ⟨w.heap.size, 1, none⟩) (by simp)).trans (by simp), (h12.cell (p := ⟨w.heap.size, 0, none⟩) (by simp)).trans (by simp), (h12.cell (p := ⟨w.heap.size, 1, none⟩) (by simp)).trans (by simp), (h12.cell (p := ⟨w.heap.size, 2, none⟩) (by simp)).trans (by simp), HAL.out.trans (h12.mono HAL.out.size)⟩
  have FIN := Lib.hid fin; clear fin
  rcases hcs with ⟨z1, rfl⟩ | ⟨z1, z2, rfl⟩ | ⟨z1, z2, ⟨h1, rfl⟩ | ⟨h1, h2, rfl⟩ | ⟨h1, h2, ⟨rfl, rfl⟩ | ⟨h3, ⟨h4, rfl⟩ | ⟨h4, h5, rfl⟩ | ⟨h4, h5, rfl⟩⟩⟩⟩
  all_goals
    try have i1 : (3 : Int) < (n : Int) := by omega
    try have i1 : ¬ (3 : Int) < (n : Int) := by omega
    try have i2 : (3 : Int) < (m : Int) := by omega
    try have i2 : ¬ (3 : Int) < (m : Int) := by omega
    try have s1 : (a.toList == b.toList) = false := beq_eq_false_iff_ne.2 (fun e => h3 (by cases a; cases b; congr 1; exact Array.toList_inj.1 (by simpa [Lib.toList_data] using e)))
    go_enter Tryd.func19, Tryd.ntmps19
    go_wp2_with fail
    refine C1.out.mono ?_
    rintro e w1 ⟨A1, c1, rfl, r1, b1⟩
    obtain ⟨p1, _, _, _, _⟩ := FIN.out w1 w1 b1 (Below.refl _ _)
    have B1 := Lib.hid b1; clear b1 r1
    go_wp2_with fail
    refine (C2.out _).mono ?_
    rintro e w2 ⟨A2, c2, rfl, r2, b2⟩
    obtain ⟨_, q0, q1, q2, bb⟩ := FIN.out w1 w2 B1.out b2
    have BB := Lib.hid bb
    clear b2 r2 bb p1
    go_wp2
    go_ret
    exact ⟨rfl, BB.out⟩
end Go.Proofs.YtlicchblafodaaaDoor

/- All blocks of steps that may be, as block.blocks hands them on: the iterator's contract. -/
namespace Go.Proofs.YtlicchblafodaaaDoor
open Go.RowKit Go.Shelf
attribute [local go_sem] Oper.semAt_some

theorem kf_below {B : Nat} {W W' : World} (h : Below W.heap.size W W') : KeepsFrom B W W' := ⟨h.size, fun k _ _ hk _ => (h.block k (Array.getElem?_eq_some_iff.1 hk).1).trans hk⟩
theorem kf_up {B C : Nat} {W W' : World} (h : KeepsFrom B W W') (hB : B ≤ C) : KeepsFrom C W W' := ⟨h.size, fun k o hk h0 ho => h.same k o (Nat.le_trans hB hk) h0 ho⟩

theorem riter_stops (n : Nat) (hn : 1 ≤ n) (Bs n₀ : Nat) (A : Option Addr) (N c b o : Nat) (L : List St) (hN : L.length = N) (hL : N ≤ 1000000) (hA : 0 < N → A = some ⟨b, o, none⟩) (w0 : World) (hw0 : w0.heap.size = n₀) (hx : StRuns w0 (.slice A N c) L)
    (w : World) (hn0 : n₀ ≤ w.heap.size) (hW0 : Below n₀ w0 w) (hBs : Bs < w.heap.size) (hc : w.cell? ⟨Bs, 0, none⟩ = some (.slice A N c)) :
    SeqStopsK Fence.wide n Tryd.prog 53 #[.pointer (some ⟨Bs, 0, none⟩)] (fun x : RgI N => #[rowV b o c x.val]) (Keep n₀ Bs) (fun ys => rgL ys = rng 0 0 L) (fun pre => rgL pre <+: rng 0 0 L) N w :=
  fun l J Jx W hW hJ _ hY h0 => riter_in n hn l Bs n₀ A N c b o L hN hL hA w0 hw0 hx J Jx W hJ hY (Nat.le_trans hn0 hW.size) (hW0.trans (hW.mono hn0)) (Nat.lt_of_lt_of_le hBs hW.size) ((hW.cell (p := ⟨Bs, 0, none⟩) hBs).trans hc) h0

/-- rows(l): l is boxed, and the function value captures the box. -/
theorem rowsFn_any (A : Option Addr) (n c : Nat) (w : World) :
    Calls Tryd.prog 39 #[.slice A n c] w fun e w' => e = .returned (.func (.func 53) #[] #[.pointer (some ⟨w.heap.size, 0, none⟩)]) ∧ w' = w.alloc (.cells #[.slice A n c] 22) := by
  go_enter Tryd.func39, Tryd.ntmps39
  go_wp2
  go_ret
  exact ⟨rfl, rfl⟩
theorem blocksFn_any (A : Option Addr) (n c : Nat) (w : World) :
    Calls Tryd.prog 26 #[.slice A n c] w fun e w' => e = .returned (.func (.func 38) #[] #[.pointer (some ⟨w.heap.size, 0, none⟩)]) ∧ w' = w.alloc (.cells #[.slice A n c] 22) := by
  go_enter Tryd.func26, Tryd.ntmps26
  go_wp2
  go_ret
  exact ⟨rfl, rfl⟩

/-- A block of texts that aren't too great. -/
abbrev BkI := { b : Blk // b.1.size ≤ 8000000 ∧ b.2.1.size ≤ 8000000 }
def bkL (l : List BkI) : List Blk := l.map (·.val)
theorem bkL_snoc (l : List BkI) (x : BkI) : bkL (l ++ [x]) = bkL l ++ [x.val] := by simp [bkL]
theorem cut_small (L : List St) (N : Nat) (hN : L.length = N) (hL : N ≤ 1000000) (p : RgI N) : (blkOf (cutR L p.val)).1.size ≤ 8000000 ∧ (blkOf (cutR L p.val)).2.1.size ≤ 8000000 := by
  have h1 := cutR_len L p.val (by rw [hN]; exact p.property.2)
  have h2 := p.property.2
  obtain ⟨h3, h4⟩ := read_size (cutR L p.val)
  refine ⟨?_, ?_⟩
  · show (mkB (readA (cutR L p.val))).size ≤ _
    rw [Lib.size_eq, mkB_data]; omega
  · show (mkB (readB (cutR L p.val))).size ≤ _
    rw [Lib.size_eq, mkB_data]; omega
def mkI (L : List St) (N : Nat) (hN : L.length = N) (hL : N ≤ 1000000) (p : RgI N) : BkI := ⟨blkOf (cutR L p.val), cut_small L N hN hL p⟩
theorem mkI_all (L : List St) (N : Nat) (hN : L.length = N) (hL : N ≤ 1000000) (ys : List (RgI N)) (h : rgL ys = rng 0 0 L) : bkL (ys.map (mkI L N hN hL)) = (rowsP L).map blkOf := by
  rw [← rng_all, ← h, bkL, rgL, List.map_map, List.map_map, List.map_map]
  rfl

set_option maxRecDepth 100000 in
set_option maxHeartbeats 4000000 in
theorem biter5 (Bs n₀ : Nat) (A : Option Addr) (N c b o : Nat) (L : List St) (hN : L.length = N) (hL : N ≤ 1000000) (hA : 0 < N → A = some ⟨b, o, none⟩) (hfit : stFit L) (w0 : World) (hO : Okw w0) (hw0 : w0.heap.size = n₀) (hx : StRuns w0 (.slice A N c) L)
    (w : World) (hn0 : n₀ ≤ w.heap.size) (hW0 : Below n₀ w0 w) (hBs : Bs < w.heap.size) (hc : w.cell? ⟨Bs, 0, none⟩ = some (.slice A N c)) :
    SeqT 5 Tryd.prog 38 #[.pointer (some ⟨Bs, 0, none⟩)] (fun x : BkI => #[blkV x.val]) (Keep n₀ Bs) (fun ys => bkL ys = (rowsP L).map blkOf) N w := by
  intro l J W hW hJ hY h0
  have hcW : W.cell? ⟨Bs, 0, none⟩ = some (.slice A N c) := (hW.cell (p := ⟨Bs, 0, none⟩) hBs).trans hc
  have hBW : Bs < W.heap.size := Nat.lt_of_lt_of_le hBs hW.size
  have hnW : n₀ ≤ W.heap.size := Nat.le_trans hn0 hW.size
  have hbW : Below n₀ w0 W := hW0.trans (hW.mono hn0)
  have hcA : (W.alloc (.cells #[.func (.yield l) #[] #[]] 70)).cell? ⟨Bs, 0, none⟩ = some (.slice A N c) := (((Below.refl _ W).alloc (Nat.le_refl _) _).cell (p := ⟨Bs, 0, none⟩) hBW).trans hcW
  refine callsIn_of_wp_marks Tryd.func38 rfl trivial ?_ rfl
  simp only [Tryd.ntmps38, List.size_toArray, List.length_cons, List.length_nil, Nat.reduceAdd, Nat.reduceSub, Array.replicate_succ, Array.replicate_zero, List.push_toArray, List.append_toArray, List.nil_append, List.cons_append]
  gi_wp2_with (refine ⟨trivial, ?_⟩; gi_at_call 39; refine (callsIn_wide.2 (rowsFn_any _ _ _ _)).mono ?_; rintro e w' ⟨rfl, rfl⟩)
  have bY := Boxed.new W 70 (.func (.yield l) #[] #[])
  have bS := Boxed.new (W.alloc (.cells #[.func (.yield l) #[] #[]] 70)) 22 (.slice A N c)
  rw [World.size_alloc] at bS
  have hB0 : Below W.heap.size W ((W.alloc (.cells #[.func (.yield l) #[] #[]] 70)).alloc (.cells #[.slice A N c] 22)) := ((Below.refl _ W).alloc (Nat.le_refl _) _).alloc (by simp) _
  refine wpIn_rangeFunc_ownH rfl (by decide) (gf := 53) (lb := #[.pointer (some ⟨W.heap.size + 1, 0, none⟩)]) rfl trivial (enters_of Tryd.func53 (by kernel_rfl) rfl)
    (riter_stops 4 (by decide) (W.heap.size + 1) n₀ A N c b o L hN hL hA w0 hw0 hx _ (by simp; omega) (hbW.trans (hB0.mono hnW)) (by simp) bS.cell) Keep.trans (keepK_b (by simp; omega) (by simp)) (Below.refl _ _) (fun _ => rfl)
    (fun (pre : List (RgI N)) W' => J (pre.map (mkI L N hN hL)) W' ∧ Boxed W' W.heap.size 70 (.func (.yield l) #[] #[]) ∧ Boxed W' (W.heap.size + 1) 22 (.slice A N c) ∧ W'.heap[Bs]? = W.heap[Bs]? ∧ Below n₀ w0 W')
    (fun _ _ _ => False)
    (fun pre X Y row hx hg hr => by
      obtain ⟨hj, y1, y2, y3, y4⟩ := hx
      have hsz := y2.lt
      have hr' : ∀ r, row = some r → W.heap.size + 2 ≤ r ∧ ∃ o : Obj, X.heap[r]? = some o ∧ o.isCells = false := fun r e => ⟨by have := (hr r e).1; simp at this; omega, (hr r e).2⟩
      have hne : ∀ k, k < W.heap.size + 2 → some k ≠ row := fun k hk e => by have := (hr' k e.symm).1; omega
      exact ⟨hJ _ X Y hj (by omega) (Priv.of_grown hg hr' (by omega)), y1.kept hg (hne _ (by omega)), y2.kept hg (hne _ (by omega)), (hg.block Bs (by omega) (hne _ (by omega))).trans y3, y4.trans ⟨hg.os, hg.tape, hg.output, hg.size, fun k hk => hg.block k (by omega) (hne _ (by omega))⟩⟩)
    (fun c => ownFrom_pure _ (fun _ => False))
    ⟨hJ _ _ _ h0 (Nat.le_refl _) (Priv.of_below hB0 (Nat.le_refl _)), bY.alloc _, bS, hB0.block Bs hBW, hbW.trans (hB0.mono hnW)⟩
    (fun x a' W' => a' = { tmps := #[.func (.yield l) #[] #[], .pointer (some ⟨Bs, 0, none⟩), .pointer (some ⟨W.heap.size, 0, none⟩), rowV b o c x.val, undef, undef, undef, .slice A N c, .func (.func 53) #[] #[.pointer (some ⟨W.heap.size + 1, 0, none⟩)], rowV b o c x.val, undef, undef, undef, undef, undef, undef, undef, undef, undef, undef, undef, undef], defers := [] })
    (fun x a' s X Y row hx hg hr => hx)
    ?assign ?body ?done ?stop
  case assign =>
    rintro l' pre x W' K ⟨hj, y1, y2, y3, y4⟩ hK
    have hsz := y2.lt
    gi_wp2
    exact hK _ _ (kf_below (Below.refl _ _)) (Keep.refl _ _ _) ⟨hj, y1, y2, y3, y4⟩ rfl
  case body =>
    rintro l' pre x a' W' hl' _ ⟨hj, y1, y2, y3, y4⟩ rfl hlt
    have hsz := y2.lt
    have hcy := y1.cell
    obtain ⟨q1, q2⟩ := x.property
    obtain rfl := hA (by omega)
    have hrow : StRuns W' (rowV b o c x.val) (cutR L x.val) := (hx.below (hw0.symm ▸ y4)).cut hN x.val q1 q2
    have hlen : (cutR L x.val).length ≤ 1000000 := by rw [cutR_len L x.val (by rw [hN]; exact q2)]; omega
    have cR := read_any (cutR L x.val) hlen (fun s hs => hfit s (cutR_mem L x.val s hs)) W' _ (hO.below (hw0.symm ▸ y4)) hrow
    obtain ⟨ra, hra⟩ : ∃ z, (⟨(readA (cutR L x.val)).toArray⟩ : ByteArray) = z := ⟨_, rfl⟩
    obtain ⟨rb, hrb⟩ : ∃ z, (⟨(readB (cutR L x.val)).toArray⟩ : ByteArray) = z := ⟨_, rfl⟩
    obtain ⟨er, her⟩ : ∃ z, stErr (cutR L x.val) = z := ⟨_, rfl⟩
    have hb : blkOf (cutR L x.val) = (ra, rb, 1) := by rw [← hra, ← hrb]; rfl
    rw [hra, hrb, her] at cR
    have CR := Lib.hid cR
    have HB := Lib.hid hb
    clear cR hra hrb her hb hrow hlen
    rw [rowV] at CR ⊢
    gi_wp2_with (refine ⟨trivial, ?_⟩; gi_at_call 37; refine (CallsIn.inRound l' (callsIn_wide.2 CR.out)).mono ?_; rintro e w1 ⟨rfl, hb1⟩; have hcy1 : w1.cell? ⟨W.heap.size, 0, none⟩ = some (.func (.yield l) #[] #[]) := (hb1.cell (p := ⟨W.heap.size, 0, none⟩) y1.lt).trans hcy; obtain ⟨fn, tmps, assign, body, hy, hR⟩ := yield_deep (l' := l') (m' := 2) (hY (pre.map (mkI L N hN hL)) (mkI L N hN hL x) w1 (hJ _ _ _ hj (by omega) (Priv.of_below hb1 (by omega))) (by simpa using hlt) (Nat.le_trans hsz hb1.size)); have hy' := hy; rw [show (mkI L N hN hL x).val = (ra, rb, 1) from HB.out, blkV] at hy'; simp only at hy'; clear hy)
    refine hR.mono ?_
    rintro e W3 ⟨rfl, hj3, hkp3, hkf3, hk23⟩
    gi_wp2
    exact ⟨(kf_below hb1).trans (kf_up hkf3 (by simp; omega)), (Keep.of_below hb1 (by omega) hsz).trans ⟨hkp3.1, hk23 _ (by omega) (by omega)⟩, by rw [List.map_append]; exact hj3, (hk23 _ (by omega) (by omega)).trans ((hb1.block _ (by omega)).trans y1), (hk23 _ (by omega) (by omega)).trans ((hb1.block _ (by omega)).trans y2), hkp3.2.trans ((hb1.block _ (by omega)).trans y3), (y4.trans (hb1.mono (by omega))).trans hkp3.1⟩
  case done =>
    rintro D ys W' hD hys ⟨hj, y1, y2, y3, y4⟩ hK
    gi_wp2
    refine ⟨by simp, .inl ⟨_, _, rfl, run_takeDeferred hK, ?_⟩⟩
    refine ⟨_, results_none rfl _ _ _, ⟨_, rfl⟩, _, mkI_all L N hN hL ys hys, ?_⟩
    have hsz := y2.lt
    exact hJ _ _ _ hj (by omega) (Priv.of_grown (grownBy_putObj' W' D (.deferred none)) (fun r e => by cases e; exact ⟨by simp at hD; omega, _, hK, rfl⟩) (by omega))
  case stop => exact fun D c pre W hD hp hF _ => hF.elim
end Go.Proofs.YtlicchblafodaaaDoor

