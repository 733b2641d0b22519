/- Two rows of runes: how far they are apart, and the steps between them: plain. Rows stand with their last rune first. -/
namespace Go.Proofs.YthigbnklekdemaaDoor

/-- How many steps that aren't matches two rows are apart. -/
def levR : List Int → List Int → Nat
  | [], ys => ys.length
  | xs, [] => xs.length
  | x :: xs, y :: ys => min (levR xs ys + if x = y then 0 else 1) (min (levR xs (y :: ys) + 1) (levR (x :: xs) ys + 1))
termination_by xs ys => xs.length + ys.length

theorem levR_nil (ys : List Int) : levR [] ys = ys.length := by unfold levR; rfl
theorem levR_nil' (xs : List Int) : levR xs [] = xs.length := by cases xs <;> (unfold levR; rfl)
theorem levR_cons (x y : Int) (xs ys : List Int) : levR (x :: xs) (y :: ys) = min (levR xs ys + if x = y then 0 else 1) (min (levR xs (y :: ys) + 1) (levR (x :: xs) ys + 1)) := by
  rw [levR]

theorem levR_symm (xs ys : List Int) : levR xs ys = levR ys xs := by
  match xs, ys with
  | [], ys => rw [levR_nil, levR_nil']
  | x :: xs, [] => rw [levR_nil, levR_nil']
  | x :: xs, y :: ys =>
    rw [levR_cons, levR_cons, levR_symm xs ys, levR_symm xs (y :: ys), levR_symm (x :: xs) ys]
    have : (if x = y then 0 else 1) = if y = x then 0 else 1 := by
      by_cases h : x = y
      · rw [if_pos h, if_pos h.symm]
      · rw [if_neg h, if_neg (fun e => h e.symm)]
    rw [this]
    omega
termination_by xs.length + ys.length

theorem levR_up (x : Int) (xs ys : List Int) : levR (x :: xs) ys ≤ levR xs ys + 1 := by
  cases ys with
  | nil => rw [levR_nil', levR_nil']; simp
  | cons y ys => rw [levR_cons]; omega
theorem levR_up' (y : Int) (xs ys : List Int) : levR xs (y :: ys) ≤ levR xs ys + 1 := by
  rw [levR_symm, levR_symm xs ys]; exact levR_up y ys xs

theorem levR_down (x : Int) (xs ys : List Int) : levR xs ys ≤ levR (x :: xs) ys + 1 := by
  match ys with
  | [] => rw [levR_nil', levR_nil']; simp; omega
  | y :: ys =>
    have h1 := levR_up' y xs ys
    have h2 := levR_down x xs ys
    rw [levR_cons]
    omega
termination_by ys.length
theorem levR_down' (y : Int) (xs ys : List Int) : levR xs ys ≤ levR xs (y :: ys) + 1 := by
  rw [levR_symm xs ys, levR_symm xs (y :: ys)]; exact levR_down y ys xs

theorem levR_same (x : Int) (xs ys : List Int) : levR (x :: xs) (x :: ys) = levR xs ys := by
  have h1 := levR_down' x xs ys
  have h2 := levR_down x xs ys
  rw [levR_cons, if_pos rfl]
  omega

theorem levR_self (xs : List Int) : levR xs xs = 0 := by
  induction xs with
  | nil => rw [levR_nil]; rfl
  | cons x xs ih => rw [levR_same, ih]

theorem levR_zero {xs ys : List Int} (h : levR xs ys = 0) : xs = ys := by
  match xs, ys with
  | [], ys => rw [levR_nil] at h; exact (List.eq_nil_of_length_eq_zero h).symm
  | x :: xs, [] => rw [levR_nil'] at h; simp at h
  | x :: xs, y :: ys =>
    rw [levR_cons] at h
    by_cases e : x = y
    · rw [if_pos e] at h
      rw [e, levR_zero (xs := xs) (ys := ys) (by omega)]
    · rw [if_neg e] at h
      omega
termination_by xs.length + ys.length

theorem levR_len (xs ys : List Int) : xs.length ≤ ys.length + levR xs ys := by
  match xs, ys with
  | [], ys => simp
  | x :: xs, [] => rw [levR_nil']; omega
  | x :: xs, y :: ys =>
    have h1 := levR_len xs ys
    have h2 := levR_len xs (y :: ys)
    have h3 := levR_len (x :: xs) ys
    rw [levR_cons]
    simp only [List.length_cons] at *
    split <;> omega
termination_by xs.length + ys.length
theorem levR_len' (xs ys : List Int) : ys.length ≤ xs.length + levR xs ys := by rw [levR_symm]; exact levR_len ys xs

theorem levR_max (xs ys : List Int) : levR xs ys ≤ max xs.length ys.length := by
  match xs, ys with
  | [], ys => rw [levR_nil]; simp
  | x :: xs, [] => rw [levR_nil']; simp
  | x :: xs, y :: ys =>
    have h1 := levR_max xs ys
    rw [levR_cons]
    simp only [List.length_cons]
    split <;> omega
termination_by xs.length + ys.length

theorem levR_tri (xs ys zs : List Int) : levR xs zs ≤ levR xs ys + levR ys zs := by
  match xs, ys, zs with
  | [], ys, zs => rw [levR_nil, levR_nil]; exact levR_len' ys zs
  | x :: xs, ys, [] => rw [levR_nil', levR_nil']; have := levR_len (x :: xs) ys; omega
  | x :: xs, [], z :: zs =>
    have := levR_max (x :: xs) (z :: zs)
    rw [levR_nil, levR_nil']
    omega
  | x :: xs, y :: ys, z :: zs =>
    have t1 := levR_tri xs ys zs
    have t2 := levR_tri xs (y :: ys) (z :: zs)
    have t3 := levR_tri (x :: xs) ys (z :: zs)
    have t4 := levR_tri (x :: xs) (y :: ys) zs
    have d1 := levR_down y ys (z :: zs)
    have d2 := levR_down' y (x :: xs) ys
    have u1 := levR_up x xs (z :: zs)
    have u2 := levR_up' z (x :: xs) zs
    have a := levR_cons x z xs zs
    have b := levR_cons x y xs ys
    have c := levR_cons y z ys zs
    have e : (if x = z then 0 else 1) ≤ (if x = y then 0 else 1) + (if y = z then 0 else 1) := by
      by_cases h1 : x = y
      · subst h1; simp
      · simp [h1]; split <;> omega
    generalize (if x = z then 0 else 1) = p at *
    generalize (if x = y then 0 else 1) = q at *
    generalize (if y = z then 0 else 1) = r at *
    omega
termination_by xs.length + ys.length + zs.length

/-- The step of an alignment: its kind, the rune that was read, the one that should have been. -/
abbrev St := Int × Int × Int
/-- What was read, what should have been, how many aren't matches. -/
def stA : List St → List Int
  | [] => []
  | s :: l => if s.1 = 3 then stA l else s.2.1 :: stA l
def stB : List St → List Int
  | [] => []
  | s :: l => if s.1 = 2 then stB l else s.2.2 :: stB l
def stC : List St → Nat
  | [] => 0
  | s :: l => (if s.1 = 0 then 0 else 1) + stC l

/-- A step may be: a match of one rune, a sub of two, a delete, an insert. -/
def stOK (s : St) : Prop := (s.1 = 0 ∧ s.2.1 = s.2.2) ∨ (s.1 = 1 ∧ s.2.1 ≠ s.2.2) ∨ (s.1 = 2 ∧ s.2.2 = 0) ∨ (s.1 = 3 ∧ s.2.1 = 0)

theorem stC_ge (l : List St) (h : ∀ s ∈ l, stOK s) : levR (stA l) (stB l) ≤ stC l := by
  induction l with
  | nil => rw [stA, stB, stC, levR_nil]; exact Nat.le_refl _
  | cons s l ih =>
    have i := ih fun t ht => h t (by simp [ht])
    obtain ⟨k, a, b⟩ := s
    have hs : (k = 0 ∧ a = b) ∨ (k = 1 ∧ a ≠ b) ∨ (k = 2 ∧ b = 0) ∨ (k = 3 ∧ a = 0) := h (k, a, b) (by simp)
    rcases hs with ⟨rfl, h2⟩ | ⟨rfl, h2⟩ | ⟨rfl, h2⟩ | ⟨rfl, h2⟩
    · subst h2
      simp only [stA, stB, stC]
      simp
      rw [levR_same]
      exact i
    · simp only [stA, stB, stC]
      simp
      rw [levR_cons, if_neg h2]
      omega
    · simp only [stA, stB, stC]
      simp
      have := levR_up a (stA l) (stB l)
      omega
    · simp only [stA, stB, stC]
      simp
      have := levR_up' b (stA l) (stB l)
      omega

/-- The steps of two rows, the last one first. -/
def pathR : List Int → List Int → List St
  | [], [] => []
  | [], y :: ys => (3, 0, y) :: pathR [] ys
  | x :: xs, [] => (2, x, 0) :: pathR xs []
  | x :: xs, y :: ys =>
    if x = y ∧ levR (x :: xs) (y :: ys) = levR xs ys then (0, x, y) :: pathR xs ys
    else if x ≠ y ∧ levR (x :: xs) (y :: ys) = levR xs ys + 1 then (1, x, y) :: pathR xs ys
    else if levR (x :: xs) (y :: ys) = levR xs (y :: ys) + 1 then (2, x, 0) :: pathR xs (y :: ys)
    else (3, 0, y) :: pathR (x :: xs) ys
termination_by xs ys => xs.length + ys.length

theorem pathR_same (x : Int) (xs ys : List Int) : pathR (x :: xs) (x :: ys) = (0, x, x) :: pathR xs ys := by
  rw [pathR, if_pos ⟨rfl, levR_same x xs ys⟩]
theorem pathR_sub {x y : Int} {xs ys : List Int} (h : x ≠ y) (hl : levR (x :: xs) (y :: ys) = levR xs ys + 1) : pathR (x :: xs) (y :: ys) = (1, x, y) :: pathR xs ys := by
  rw [pathR, if_neg (fun e => h e.1), if_pos ⟨h, hl⟩]
theorem pathR_del {x y : Int} {xs ys : List Int} (h : x ≠ y) (hl : levR (x :: xs) (y :: ys) ≠ levR xs ys + 1) (hd : levR (x :: xs) (y :: ys) = levR xs (y :: ys) + 1) : pathR (x :: xs) (y :: ys) = (2, x, 0) :: pathR xs (y :: ys) := by
  rw [pathR, if_neg (fun e => h e.1), if_neg (fun e => hl e.2), if_pos hd]
theorem pathR_ins {x y : Int} {xs ys : List Int} (h : x ≠ y) (hl : levR (x :: xs) (y :: ys) ≠ levR xs ys + 1) (hd : levR (x :: xs) (y :: ys) ≠ levR xs (y :: ys) + 1) : pathR (x :: xs) (y :: ys) = (3, 0, y) :: pathR (x :: xs) ys := by
  rw [pathR, if_neg (fun e => h e.1), if_neg (fun e => hl e.2), if_neg hd]

/-- All of the steps: what they are of, how many aren't matches, that each may be. -/
theorem pathR_all (xs ys : List Int) : stA (pathR xs ys) = xs ∧ stB (pathR xs ys) = ys ∧ stC (pathR xs ys) = levR xs ys ∧ ∀ s ∈ pathR xs ys, stOK s := by
  match xs, ys with
  | [], [] => rw [pathR, levR_nil]; simp [stA, stB, stC]
  | [], y :: ys =>
    obtain ⟨h1, h2, h3, h4⟩ := pathR_all [] ys
    rw [pathR, levR_nil]
    rw [levR_nil] at h3
    refine ⟨by simp [stA, h1], by simp [stB, h2], by simp [stC, h3]; omega, fun s hs => ?_⟩
    rcases List.mem_cons.1 hs with rfl | hs
    · exact .inr (.inr (.inr ⟨rfl, rfl⟩))
    · exact h4 s hs
  | x :: xs, [] =>
    obtain ⟨h1, h2, h3, h4⟩ := pathR_all xs []
    rw [pathR, levR_nil']
    rw [levR_nil'] at h3
    refine ⟨by simp [stA, h1], by simp [stB, h2], by simp [stC, h3]; omega, fun s hs => ?_⟩
    rcases List.mem_cons.1 hs with rfl | hs
    · exact .inr (.inr (.inl ⟨rfl, rfl⟩))
    · exact h4 s hs
  | x :: xs, y :: ys =>
    by_cases e : x = y
    · subst e
      obtain ⟨h1, h2, h3, h4⟩ := pathR_all xs ys
      rw [pathR_same, levR_same]
      refine ⟨by simp [stA, h1], by simp [stB, h2], by simp [stC, h3], fun s hs => ?_⟩
      rcases List.mem_cons.1 hs with rfl | hs
      · exact .inl ⟨rfl, rfl⟩
      · exact h4 s hs
    · by_cases hl : levR (x :: xs) (y :: ys) = levR xs ys + 1
      · obtain ⟨h1, h2, h3, h4⟩ := pathR_all xs ys
        rw [pathR_sub e hl, hl]
        refine ⟨by simp [stA, h1], by simp [stB, h2], by simp [stC, h3]; omega, fun s hs => ?_⟩
        rcases List.mem_cons.1 hs with rfl | hs
        · exact .inr (.inl ⟨rfl, e⟩)
        · exact h4 s hs
      · by_cases hd : levR (x :: xs) (y :: ys) = levR xs (y :: ys) + 1
        · obtain ⟨h1, h2, h3, h4⟩ := pathR_all xs (y :: ys)
          rw [pathR_del e hl hd, hd]
          refine ⟨by simp [stA, h1], by simp [stB, h2], by simp [stC, h3]; omega, fun s hs => ?_⟩
          rcases List.mem_cons.1 hs with rfl | hs
          · exact .inr (.inr (.inl ⟨rfl, rfl⟩))
          · exact h4 s hs
        · obtain ⟨h1, h2, h3, h4⟩ := pathR_all (x :: xs) ys
          have hi : levR (x :: xs) (y :: ys) = levR (x :: xs) ys + 1 := by
            have c := levR_cons x y xs ys
            rw [if_neg e] at c
            omega
          rw [pathR_ins e hl hd, hi]
          refine ⟨by simp [stA, h1], by simp [stB, h2], by simp [stC, h3]; omega, fun s hs => ?_⟩
          rcases List.mem_cons.1 hs with rfl | hs
          · exact .inr (.inr (.inr ⟨rfl, rfl⟩))
          · exact h4 s hs
termination_by xs.length + ys.length

/-- Rows of one length that are at most one apart have no other steps than matches and subs: each of the two runes that stand there. -/
theorem pathR_flat (xs ys : List Int) (hl : xs.length = ys.length) (h : levR xs ys ≤ 1) : (pathR xs ys).length = xs.length ∧ ∀ i, i < xs.length → ∃ k, (pathR xs ys)[i]? = some (k, xs.getD i 0, ys.getD i 0) ∧ (k = 0 ∨ k = 1) := by
  match xs, ys with
  | [], [] => rw [pathR]; simp
  | x :: xs, y :: ys =>
    have hl' : xs.length = ys.length := by simpa using hl
    by_cases e : x = y
    · subst e
      rw [levR_same] at h
      obtain ⟨h1, h2⟩ := pathR_flat xs ys hl' h
      rw [pathR_same]
      refine ⟨by simp [h1], fun i hi => ?_⟩
      cases i with
      | zero => exact ⟨0, by simp, .inl rfl⟩
      | succ i => simpa using h2 i (by simpa using hi)
    · have c := levR_cons x y xs ys
      rw [if_neg e] at c
      have n1 : levR xs (y :: ys) ≠ 0 := fun h0 => by have := congrArg List.length (levR_zero h0); simp at this; omega
      have n2 : levR (x :: xs) ys ≠ 0 := fun h0 => by have := congrArg List.length (levR_zero h0); simp at this; omega
      have h0 : levR xs ys = 0 := by omega
      obtain ⟨h1, h2⟩ := pathR_flat xs ys hl' (by omega)
      rw [pathR_sub e (by omega)]
      refine ⟨by simp [h1], fun i hi => ?_⟩
      cases i with
      | zero => exact ⟨1, by simp, .inr rfl⟩
      | succ i => simpa using h2 i (by simpa using hi)
termination_by xs.length + ys.length

/-- Rows that end alike have matches there. -/
theorem pathR_ends (es xs ys : List Int) : pathR (es ++ xs) (es ++ ys) = (es.map fun e => ((0, e, e) : St)) ++ pathR xs ys := by
  induction es with
  | nil => rfl
  | cons e es ih => rw [List.cons_append, List.cons_append, pathR_same, ih]; rfl
theorem levR_ends (es xs ys : List Int) : levR (es ++ xs) (es ++ ys) = levR xs ys := by
  induction es with
  | nil => rfl
  | cons e es ih => rw [List.cons_append, List.cons_append, levR_same, ih]
end Go.Proofs.YthigbnklekdemaaDoor
