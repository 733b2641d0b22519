/- Two texts between two matches, plain: their blocks are parts of them. -/
import Derived.Test.YtlicchblafodaaaDoorPk8
namespace Go.Proofs.YtlicchblafodaaaDoor
open Go.RowKit Go.Shelf

/-- How many are matches. -/
def stM : List St → Nat
  | [] => 0
  | s :: l => (if s.1 = 0 then 1 else 0) + stM l
theorem stM_append (a b : List St) : stM (a ++ b) = stM a + stM b := by
  induction a with
  | nil => simp [stM]
  | cons s a ih => simp only [List.cons_append, stM, ih]; omega
theorem stM_zero {l : List St} (h : stM l = 0) : ∀ s ∈ l, s.1 ≠ 0 := by
  induction l with
  | nil => simp
  | cons s l ih =>
    simp only [stM] at h
    intro t ht
    rcases List.mem_cons.1 ht with rfl | ht
    · intro e; rw [if_pos e] at h; omega
    · exact ih (by omega) t ht
theorem stM_run {l : List St} (h : ∀ s ∈ l, s.1 ≠ 0) : stM l = 0 := by
  induction l with
  | nil => rfl
  | cons s l ih => rw [stM, if_neg (h s (by simp)), ih (fun t ht => h t (by simp [ht]))]
/-- What is read in all rows, and the matches, are all that is read. -/
theorem rowsP_A (l : List St) : ((rowsP l).map (fun r => (stA r).length)).sum + stM l = (stA l).length ∧ ((rowsP l).map (fun r => (stB r).length)).sum + stM l = (stB l).length := by
  match l with
  | [] => rw [rowsP_nil]; simp [stM, stA, stB]
  | a :: l =>
    by_cases ha : a.1 = 0
    · have ih := rowsP_A l
      rw [rowsP_match ha, stM, if_pos ha]
      simp only [stA, stB, ha]
      simp
      omega
    · have ih := rowsP_A (l.dropWhile ne0)
      have hrun : ∀ s ∈ a :: l.takeWhile ne0, s.1 ≠ 0 := fun s hs => by
        rcases List.mem_cons.1 hs with rfl | hs
        · exact ha
        · exact ne0_true.1 (List.all_eq_true.1 (List.all_takeWhile) s hs)
      have e : a :: l = (a :: l.takeWhile ne0) ++ l.dropWhile ne0 := by rw [List.cons_append, List.takeWhile_append_dropWhile]
      rw [rowsP_row ha, List.map_cons, List.map_cons, List.sum_cons, List.sum_cons, e, stM_append, stA_append, stB_append, List.length_append, List.length_append, stM_run hrun]
      omega
termination_by l.length
decreasing_by
  · simp
  · have := drop_le l
    simp; omega
theorem mem_sum_le {α : Type} (f : α → Nat) (l : List α) (a : α) (h : a ∈ l) : f a ≤ (l.map f).sum := by
  induction l with
  | nil => simp at h
  | cons b l ih =>
    simp only [List.map_cons, List.sum_cons]
    rcases List.mem_cons.1 h with rfl | h
    · omega
    · have := ih h; omega

theorem lone_matches (x y : List Int) : 2 ≤ stM (pathR (60 :: (x ++ [62])).reverse (60 :: (y ++ [62])).reverse).reverse := by
  have e1 : ∀ z : List Int, (60 :: (z ++ [62])).reverse = 62 :: (60 :: z).reverse := fun z => by simp
  rw [e1, e1, pathR_same, List.reverse_cons, stM_append]
  have h1 : stM [((0 : Int), (62 : Int), (62 : Int))] = 1 := rfl
  rw [h1]
  have p := pathR_all (60 :: x).reverse (60 :: y).reverse
  by_cases h : stM (pathR (60 :: x).reverse (60 :: y).reverse).reverse = 0
  · exfalso
    have hr := stM_zero h
    have hc := stC_run _ hr
    have hA := stA_len (pathR (60 :: x).reverse (60 :: y).reverse).reverse
    have hB := stB_len (pathR (60 :: x).reverse (60 :: y).reverse).reverse
    rw [stA_rev, p.1, List.reverse_reverse, List.length_cons] at hA
    rw [stB_rev, p.2.1, List.reverse_reverse, List.length_cons] at hB
    rw [stC_rev, p.2.2.1, levR_rev, levR_same] at hc
    have := levR_max x y
    omega
  · omega

/-- The blocks of two short texts that differ, between two matches. -/
theorem lone_facts (s t : List UInt8) (x y : List Int) (h : tokErr2 s t = 0) (hs : tokRunes s = 60 :: (x ++ [62])) (ht : tokRunes t = 60 :: (y ++ [62])) (lx : x.length ≤ 3) (ly : y.length ≤ 3) (hxy : x ≠ y) :
    0 < (ofS (stepsS s t)).length ∧ ((ofS (stepsS s t)).map (fun b => (items b.1.data.toList).length)).sum ≤ x.length ∧ ((ofS (stepsS s t)).map (fun b => (items b.2.1.data.toList).length)).sum ≤ y.length := by
  have hM := lone_matches x y
  rw [← hs, ← ht] at hM
  have e0 : stepsS s t = (pathR (tokRunes s).reverse (tokRunes t).reverse).reverse := by rw [stepsS, if_pos h]
  rw [← e0] at hM
  obtain ⟨hg, hz, _⟩ := pair_facts s t h
  obtain ⟨_, _, _, f4, _, _, _⟩ := steps_facts s t h
  have p := pathR_all (tokRunes s).reverse (tokRunes t).reverse
  have a1 : stA (stepsS s t) = tokRunes s := by rw [e0, stA_rev, p.1, List.reverse_reverse]
  have a2 : stB (stepsS s t) = tokRunes t := by rw [e0, stB_rev, p.2.1, List.reverse_reverse]
  obtain ⟨sA, sB⟩ := rowsP_A (stepsS s t)
  rw [a1, hs] at sA
  rw [a2, ht] at sB
  simp only [List.length_cons, List.length_append, List.length_nil] at sA sB
  have hlong : longS (stepsS s t) = 0 := by
    rw [longS, if_pos hg]
    have : (rowsP (stepsS s t)).filter longB = [] := List.filter_eq_nil_iff.2 (fun r hr => by
      have m1 := mem_sum_le (fun r => (stA r).length) _ r hr
      have m2 := mem_sum_le (fun r => (stB r).length) _ r hr
      unfold longB
      simp only [decide_eq_true_eq]
      omega)
    rw [this]; rfl
  have hsumA : ∀ f : List St → Nat, ((ofS (stepsS s t)).map (fun b => (items b.1.data.toList).length)).sum ≤ ((rowsP (stepsS s t)).map (fun r => (stA r).length)).sum := fun _ => by
    rw [ofS, if_pos hg, List.map_map]
    refine Nat.le_trans (sum_map_le _ (fun r => (stA r).length) _ (fun r hr => ?_)) (sum_filter_le _ _ _)
    obtain ⟨hr1, _⟩ := List.mem_filter.1 hr
    obtain ⟨_, _, ia, _, _, _⟩ := row_texts (rows_good hg r hr1)
    show (items (mkB (readA r)).data.toList).length ≤ _
    rw [mkB_data, ia]
    exact Nat.le_refl _
  have hsumB : ((ofS (stepsS s t)).map (fun b => (items b.2.1.data.toList).length)).sum ≤ ((rowsP (stepsS s t)).map (fun r => (stB r).length)).sum := by
    rw [ofS, if_pos hg, List.map_map]
    refine Nat.le_trans (sum_map_le _ (fun r => (stB r).length) _ (fun r hr => ?_)) (sum_filter_le _ _ _)
    obtain ⟨hr1, _⟩ := List.mem_filter.1 hr
    obtain ⟨_, _, _, ib, _, _⟩ := row_texts (rows_good hg r hr1)
    show (items (mkB (readB r)).data.toList).length ≤ _
    rw [mkB_data, ib]
    exact Nat.le_refl _
  have hA := hsumA (fun _ => 0)
  refine ⟨Nat.pos_of_ne_zero (fun h0 => ?_), by omega, by omega⟩
  have hc := hz h0 hlong
  rw [f4, distS, if_pos h, levR_rev] at hc
  have := levR_zero hc
  rw [hs, ht] at this
  simp at this
  exact hxy this
end Go.Proofs.YtlicchblafodaaaDoor
