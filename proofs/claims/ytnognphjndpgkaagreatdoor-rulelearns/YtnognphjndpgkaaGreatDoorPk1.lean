/- Texts that several proofs of this seat share, one behind the other: APlain BPlain Base NRow ATable. -/
import Derived.WalkKit
import Derived.ProofKit
import Derived.Below
import Derived.Deep.QuietTactic
import Derived.BigQuiet
import Derived.Deep.LoopGhost
import Derived.Deep.Draws
import Derived.Lib.Hide
import Derived.WalkLawsBesides
import Derived.WalkSpells
import Derived.Test.YtnognphjndpgkaaGreatDoorProg
import Derived.OwnWalk
import Derived.StillTailTactics
/- Two rows of runes: how far they are apart, and the steps between them: plain. Rows stand with their last rune first. -/
namespace Go.Proofs.YtnognphjndpgkaaGreatDoor

/-- How many steps that aren't matches two rows are apart. -/
def levR : List Int → List Int → Nat
  | [], ys => ys.length
  | xs, [] => xs.length
  | x :: xs, y :: ys => min (levR xs ys + if x = y then 0 else 1) (min (levR xs (y :: ys) + 1) (levR (x :: xs) ys + 1))
termination_by xs ys => xs.length + ys.length

theorem levR_nil (ys : List Int) : levR [] ys = ys.length := by unfold levR; rfl
theorem levR_nil' (xs : List Int) : levR xs [] = xs.length := by cases xs <;> (unfold levR; rfl)
theorem levR_cons (x y : Int) (xs ys : List Int) : levR (x :: xs) (y :: ys) = min (levR xs ys + if x = y then 0 else 1) (min (levR xs (y :: ys) + 1) (levR (x :: xs) ys + 1)) := by
  rw [levR]

theorem levR_symm (xs ys : List Int) : levR xs ys = levR ys xs := by
  match xs, ys with
  | [], ys => rw [levR_nil, levR_nil']
  | x :: xs, [] => rw [levR_nil, levR_nil']
  | x :: xs, y :: ys =>
    rw [levR_cons, levR_cons, levR_symm xs ys, levR_symm xs (y :: ys), levR_symm (x :: xs) ys]
    have : (if x = y then 0 else 1) = if y = x then 0 else 1 := by
      by_cases h : x = y
      · rw [if_pos h, if_pos h.symm]
      · rw [if_neg h, if_neg (fun e => h e.symm)]
    rw [this]
    omega
termination_by xs.length + ys.length

theorem levR_up (x : Int) (xs ys : List Int) : levR (x :: xs) ys ≤ levR xs ys + 1 := by
  cases ys with
  | nil => rw [levR_nil', levR_nil']; simp
  | cons y ys => rw [levR_cons]; omega
theorem levR_up' (y : Int) (xs ys : List Int) : levR xs (y :: ys) ≤ levR xs ys + 1 := by
  rw [levR_symm, levR_symm xs ys]; exact levR_up y ys xs

theorem levR_down (x : Int) (xs ys : List Int) : levR xs ys ≤ levR (x :: xs) ys + 1 := by
  match ys with
  | [] => rw [levR_nil', levR_nil']; simp; omega
  | y :: ys =>
    have h1 := levR_up' y xs ys
    have h2 := levR_down x xs ys
    rw [levR_cons]
    omega
termination_by ys.length
theorem levR_down' (y : Int) (xs ys : List Int) : levR xs ys ≤ levR xs (y :: ys) + 1 := by
  rw [levR_symm xs ys, levR_symm xs (y :: ys)]; exact levR_down y ys xs

theorem levR_same (x : Int) (xs ys : List Int) : levR (x :: xs) (x :: ys) = levR xs ys := by
  have h1 := levR_down' x xs ys
  have h2 := levR_down x xs ys
  rw [levR_cons, if_pos rfl]
  omega

theorem levR_self (xs : List Int) : levR xs xs = 0 := by
  induction xs with
  | nil => rw [levR_nil]; rfl
  | cons x xs ih => rw [levR_same, ih]

theorem levR_zero {xs ys : List Int} (h : levR xs ys = 0) : xs = ys := by
  match xs, ys with
  | [], ys => rw [levR_nil] at h; exact (List.eq_nil_of_length_eq_zero h).symm
  | x :: xs, [] => rw [levR_nil'] at h; simp at h
  | x :: xs, y :: ys =>
    rw [levR_cons] at h
    by_cases e : x = y
    · rw [if_pos e] at h
      rw [e, levR_zero (xs := xs) (ys := ys) (by omega)]
    · rw [if_neg e] at h
      omega
termination_by xs.length + ys.length

theorem levR_len (xs ys : List Int) : xs.length ≤ ys.length + levR xs ys := by
  match xs, ys with
  | [], ys => simp
  | x :: xs, [] => rw [levR_nil']; omega
  | x :: xs, y :: ys =>
    have h1 := levR_len xs ys
    have h2 := levR_len xs (y :: ys)
    have h3 := levR_len (x :: xs) ys
    rw [levR_cons]
    simp only [List.length_cons] at *
    split <;> omega
termination_by xs.length + ys.length
theorem levR_len' (xs ys : List Int) : ys.length ≤ xs.length + levR xs ys := by rw [levR_symm]; exact levR_len ys xs

theorem levR_max (xs ys : List Int) : levR xs ys ≤ max xs.length ys.length := by
  match xs, ys with
  | [], ys => rw [levR_nil]; simp
  | x :: xs, [] => rw [levR_nil']; simp
  | x :: xs, y :: ys =>
    have h1 := levR_max xs ys
    rw [levR_cons]
    simp only [List.length_cons]
    split <;> omega
termination_by xs.length + ys.length

theorem levR_tri (xs ys zs : List Int) : levR xs zs ≤ levR xs ys + levR ys zs := by
  match xs, ys, zs with
  | [], ys, zs => rw [levR_nil, levR_nil]; exact levR_len' ys zs
  | x :: xs, ys, [] => rw [levR_nil', levR_nil']; have := levR_len (x :: xs) ys; omega
  | x :: xs, [], z :: zs =>
    have := levR_max (x :: xs) (z :: zs)
    rw [levR_nil, levR_nil']
    omega
  | x :: xs, y :: ys, z :: zs =>
    have t1 := levR_tri xs ys zs
    have t2 := levR_tri xs (y :: ys) (z :: zs)
    have t3 := levR_tri (x :: xs) ys (z :: zs)
    have t4 := levR_tri (x :: xs) (y :: ys) zs
    have d1 := levR_down y ys (z :: zs)
    have d2 := levR_down' y (x :: xs) ys
    have u1 := levR_up x xs (z :: zs)
    have u2 := levR_up' z (x :: xs) zs
    have a := levR_cons x z xs zs
    have b := levR_cons x y xs ys
    have c := levR_cons y z ys zs
    have e : (if x = z then 0 else 1) ≤ (if x = y then 0 else 1) + (if y = z then 0 else 1) := by
      by_cases h1 : x = y
      · subst h1; simp
      · simp [h1]; split <;> omega
    generalize (if x = z then 0 else 1) = p at *
    generalize (if x = y then 0 else 1) = q at *
    generalize (if y = z then 0 else 1) = r at *
    omega
termination_by xs.length + ys.length + zs.length

/-- The step of an alignment: its kind, the rune that was read, the one that should have been. -/
abbrev St := Int × Int × Int
/-- What was read, what should have been, how many aren't matches. -/
def stA : List St → List Int
  | [] => []
  | s :: l => if s.1 = 3 then stA l else s.2.1 :: stA l
def stB : List St → List Int
  | [] => []
  | s :: l => if s.1 = 2 then stB l else s.2.2 :: stB l
def stC : List St → Nat
  | [] => 0
  | s :: l => (if s.1 = 0 then 0 else 1) + stC l

/-- A step may be: a match of one rune, a sub of two, a delete, an insert. -/
def stOK (s : St) : Prop := (s.1 = 0 ∧ s.2.1 = s.2.2) ∨ (s.1 = 1 ∧ s.2.1 ≠ s.2.2) ∨ (s.1 = 2 ∧ s.2.2 = 0) ∨ (s.1 = 3 ∧ s.2.1 = 0)

theorem stC_ge (l : List St) (h : ∀ s ∈ l, stOK s) : levR (stA l) (stB l) ≤ stC l := by
  induction l with
  | nil => rw [stA, stB, stC, levR_nil]; exact Nat.le_refl _
  | cons s l ih =>
    have i := ih fun t ht => h t (by simp [ht])
    obtain ⟨k, a, b⟩ := s
    have hs : (k = 0 ∧ a = b) ∨ (k = 1 ∧ a ≠ b) ∨ (k = 2 ∧ b = 0) ∨ (k = 3 ∧ a = 0) := h (k, a, b) (by simp)
    rcases hs with ⟨rfl, h2⟩ | ⟨rfl, h2⟩ | ⟨rfl, h2⟩ | ⟨rfl, h2⟩
    · subst h2
      simp only [stA, stB, stC]
      simp
      rw [levR_same]
      exact i
    · simp only [stA, stB, stC]
      simp
      rw [levR_cons, if_neg h2]
      omega
    · simp only [stA, stB, stC]
      simp
      have := levR_up a (stA l) (stB l)
      omega
    · simp only [stA, stB, stC]
      simp
      have := levR_up' b (stA l) (stB l)
      omega

/-- The steps of two rows, the last one first. -/
def pathR : List Int → List Int → List St
  | [], [] => []
  | [], y :: ys => (3, 0, y) :: pathR [] ys
  | x :: xs, [] => (2, x, 0) :: pathR xs []
  | x :: xs, y :: ys =>
    if x = y ∧ levR (x :: xs) (y :: ys) = levR xs ys then (0, x, y) :: pathR xs ys
    else if x ≠ y ∧ levR (x :: xs) (y :: ys) = levR xs ys + 1 then (1, x, y) :: pathR xs ys
    else if levR (x :: xs) (y :: ys) = levR xs (y :: ys) + 1 then (2, x, 0) :: pathR xs (y :: ys)
    else (3, 0, y) :: pathR (x :: xs) ys
termination_by xs ys => xs.length + ys.length

theorem pathR_same (x : Int) (xs ys : List Int) : pathR (x :: xs) (x :: ys) = (0, x, x) :: pathR xs ys := by
  rw [pathR, if_pos ⟨rfl, levR_same x xs ys⟩]
theorem pathR_sub {x y : Int} {xs ys : List Int} (h : x ≠ y) (hl : levR (x :: xs) (y :: ys) = levR xs ys + 1) : pathR (x :: xs) (y :: ys) = (1, x, y) :: pathR xs ys := by
  rw [pathR, if_neg (fun e => h e.1), if_pos ⟨h, hl⟩]
theorem pathR_del {x y : Int} {xs ys : List Int} (h : x ≠ y) (hl : levR (x :: xs) (y :: ys) ≠ levR xs ys + 1) (hd : levR (x :: xs) (y :: ys) = levR xs (y :: ys) + 1) : pathR (x :: xs) (y :: ys) = (2, x, 0) :: pathR xs (y :: ys) := by
  rw [pathR, if_neg (fun e => h e.1), if_neg (fun e => hl e.2), if_pos hd]
theorem pathR_ins {x y : Int} {xs ys : List Int} (h : x ≠ y) (hl : levR (x :: xs) (y :: ys) ≠ levR xs ys + 1) (hd : levR (x :: xs) (y :: ys) ≠ levR xs (y :: ys) + 1) : pathR (x :: xs) (y :: ys) = (3, 0, y) :: pathR (x :: xs) ys := by
  rw [pathR, if_neg (fun e => h e.1), if_neg (fun e => hl e.2), if_neg hd]

/-- All of the steps: what they are of, how many aren't matches, that each may be. -/
theorem pathR_all (xs ys : List Int) : stA (pathR xs ys) = xs ∧ stB (pathR xs ys) = ys ∧ stC (pathR xs ys) = levR xs ys ∧ ∀ s ∈ pathR xs ys, stOK s := by
  match xs, ys with
  | [], [] => rw [pathR, levR_nil]; simp [stA, stB, stC]
  | [], y :: ys =>
    obtain ⟨h1, h2, h3, h4⟩ := pathR_all [] ys
    rw [pathR, levR_nil]
    rw [levR_nil] at h3
    refine ⟨by simp [stA, h1], by simp [stB, h2], by simp [stC, h3]; omega, fun s hs => ?_⟩
    rcases List.mem_cons.1 hs with rfl | hs
    · exact .inr (.inr (.inr ⟨rfl, rfl⟩))
    · exact h4 s hs
  | x :: xs, [] =>
    obtain ⟨h1, h2, h3, h4⟩ := pathR_all xs []
    rw [pathR, levR_nil']
    rw [levR_nil'] at h3
    refine ⟨by simp [stA, h1], by simp [stB, h2], by simp [stC, h3]; omega, fun s hs => ?_⟩
    rcases List.mem_cons.1 hs with rfl | hs
    · exact .inr (.inr (.inl ⟨rfl, rfl⟩))
    · exact h4 s hs
  | x :: xs, y :: ys =>
    by_cases e : x = y
    · subst e
      obtain ⟨h1, h2, h3, h4⟩ := pathR_all xs ys
      rw [pathR_same, levR_same]
      refine ⟨by simp [stA, h1], by simp [stB, h2], by simp [stC, h3], fun s hs => ?_⟩
      rcases List.mem_cons.1 hs with rfl | hs
      · exact .inl ⟨rfl, rfl⟩
      · exact h4 s hs
    · by_cases hl : levR (x :: xs) (y :: ys) = levR xs ys + 1
      · obtain ⟨h1, h2, h3, h4⟩ := pathR_all xs ys
        rw [pathR_sub e hl, hl]
        refine ⟨by simp [stA, h1], by simp [stB, h2], by simp [stC, h3]; omega, fun s hs => ?_⟩
        rcases List.mem_cons.1 hs with rfl | hs
        · exact .inr (.inl ⟨rfl, e⟩)
        · exact h4 s hs
      · by_cases hd : levR (x :: xs) (y :: ys) = levR xs (y :: ys) + 1
        · obtain ⟨h1, h2, h3, h4⟩ := pathR_all xs (y :: ys)
          rw [pathR_del e hl hd, hd]
          refine ⟨by simp [stA, h1], by simp [stB, h2], by simp [stC, h3]; omega, fun s hs => ?_⟩
          rcases List.mem_cons.1 hs with rfl | hs
          · exact .inr (.inr (.inl ⟨rfl, rfl⟩))
          · exact h4 s hs
        · obtain ⟨h1, h2, h3, h4⟩ := pathR_all (x :: xs) ys
          have hi : levR (x :: xs) (y :: ys) = levR (x :: xs) ys + 1 := by
            have c := levR_cons x y xs ys
            rw [if_neg e] at c
            omega
          rw [pathR_ins e hl hd, hi]
          refine ⟨by simp [stA, h1], by simp [stB, h2], by simp [stC, h3]; omega, fun s hs => ?_⟩
          rcases List.mem_cons.1 hs with rfl | hs
          · exact .inr (.inr (.inr ⟨rfl, rfl⟩))
          · exact h4 s hs
termination_by xs.length + ys.length

/-- Rows of one length that are at most one apart have no other steps than matches and subs: each of the two runes that stand there. -/
theorem pathR_flat (xs ys : List Int) (hl : xs.length = ys.length) (h : levR xs ys ≤ 1) : (pathR xs ys).length = xs.length ∧ ∀ i, i < xs.length → ∃ k, (pathR xs ys)[i]? = some (k, xs.getD i 0, ys.getD i 0) ∧ (k = 0 ∨ k = 1) := by
  match xs, ys with
  | [], [] => rw [pathR]; simp
  | x :: xs, y :: ys =>
    have hl' : xs.length = ys.length := by simpa using hl
    by_cases e : x = y
    · subst e
      rw [levR_same] at h
      obtain ⟨h1, h2⟩ := pathR_flat xs ys hl' h
      rw [pathR_same]
      refine ⟨by simp [h1], fun i hi => ?_⟩
      cases i with
      | zero => exact ⟨0, by simp, .inl rfl⟩
      | succ i => simpa using h2 i (by simpa using hi)
    · have c := levR_cons x y xs ys
      rw [if_neg e] at c
      have n1 : levR xs (y :: ys) ≠ 0 := fun h0 => by have := congrArg List.length (levR_zero h0); simp at this; omega
      have n2 : levR (x :: xs) ys ≠ 0 := fun h0 => by have := congrArg List.length (levR_zero h0); simp at this; omega
      have h0 : levR xs ys = 0 := by omega
      obtain ⟨h1, h2⟩ := pathR_flat xs ys hl' (by omega)
      rw [pathR_sub e (by omega)]
      refine ⟨by simp [h1], fun i hi => ?_⟩
      cases i with
      | zero => exact ⟨1, by simp, .inr rfl⟩
      | succ i => simpa using h2 i (by simpa using hi)
termination_by xs.length + ys.length

/-- Rows that end alike have matches there. -/
theorem pathR_ends (es xs ys : List Int) : pathR (es ++ xs) (es ++ ys) = (es.map fun e => ((0, e, e) : St)) ++ pathR xs ys := by
  induction es with
  | nil => rfl
  | cons e es ih => rw [List.cons_append, List.cons_append, pathR_same, ih]; rfl
theorem levR_ends (es xs ys : List Int) : levR (es ++ xs) (es ++ ys) = levR xs ys := by
  induction es with
  | nil => rfl
  | cons e es ih => rw [List.cons_append, List.cons_append, levR_same, ih]
end Go.Proofs.YtnognphjndpgkaaGreatDoor

/- Rows of steps that aren't matches, plain. -/
namespace Go.Proofs.YtnognphjndpgkaaGreatDoor

def ne0 (s : St) : Bool := decide (s.1 ≠ 0)
theorem ne0_true {s : St} : ne0 s = true ↔ s.1 ≠ 0 := by simp [ne0]
theorem ne0_false {s : St} : ne0 s = false ↔ s.1 = 0 := by simp [ne0]

theorem drop_le (l : List St) : (l.dropWhile ne0).length ≤ l.length := (List.dropWhile_suffix ne0).length_le

/-- The longest rows of steps that aren't matches, as they stand. -/
def rowsP : List St → List (List St)
  | [] => []
  | s :: l => if s.1 = 0 then rowsP l else (s :: l.takeWhile ne0) :: rowsP (l.dropWhile ne0)
termination_by l => l.length
decreasing_by
  · simp
  · have := drop_le l
    simp; omega
theorem rowsP_nil : rowsP [] = [] := by rw [rowsP]
theorem rowsP_match {s : St} {l : List St} (h : s.1 = 0) : rowsP (s :: l) = rowsP l := by rw [rowsP, if_pos h]
theorem rowsP_row {s : St} {l : List St} (h : s.1 ≠ 0) : rowsP (s :: l) = (s :: l.takeWhile ne0) :: rowsP (l.dropWhile ne0) := by rw [rowsP, if_neg h]

/-- The last step isn't a match. -/
def inRun (l : List St) : Bool := match l.getLast? with
  | none => false
  | some s => ne0 s
theorem inRun_nil : inRun [] = false := rfl
theorem inRun_snoc (l : List St) (s : St) : inRun (l ++ [s]) = ne0 s := by simp [inRun]

theorem drop_or (t : List St) : (t.dropWhile ne0 = [] ∧ t.takeWhile ne0 = t ∧ ∀ s ∈ t, ne0 s = true) ∨ (∃ m r, m.1 = 0 ∧ t.dropWhile ne0 = m :: r ∧ t = t.takeWhile ne0 ++ m :: r) := by
  induction t with
  | nil => left; simp
  | cons a t ih =>
    cases ha : ne0 a with
    | false =>
      right
      exact ⟨a, t, ne0_false.1 ha, by simp [ha], by simp [ha]⟩
    | true =>
      rcases ih with ⟨h1, h2, h3⟩ | ⟨m, r, h1, h2, h3⟩
      · left
        refine ⟨by simp [ha, h1], by simp [ha, h2], fun s hs => ?_⟩
        rcases List.mem_cons.1 hs with rfl | hs
        · exact ha
        · exact h3 s hs
      · right
        refine ⟨m, r, h1, by simp [ha, h2], ?_⟩
        simp only [List.takeWhile_cons, ha, if_true, List.cons_append]
        rw [← h3]
theorem take_app (t u : List St) : (t ++ u).takeWhile ne0 = if t.dropWhile ne0 = [] then t ++ u.takeWhile ne0 else t.takeWhile ne0 := by
  induction t with
  | nil => simp
  | cons a t ih =>
    cases ha : ne0 a with
    | false => simp [ha]
    | true =>
      simp only [List.cons_append, List.takeWhile_cons, List.dropWhile_cons, ha, if_true, ih]
      split <;> rfl
theorem drop_app (t u : List St) : (t ++ u).dropWhile ne0 = if t.dropWhile ne0 = [] then u.dropWhile ne0 else t.dropWhile ne0 ++ u := by
  induction t with
  | nil => simp
  | cons a t ih =>
    cases ha : ne0 a with
    | false => simp [ha]
    | true => simp only [List.cons_append, List.dropWhile_cons, ha, if_true, ih]

/-- Steps one behind the other, a match between, have the rows of both. -/
theorem rowsP_parts (l r : List St) (m : St) (hm : m.1 = 0) : rowsP (l ++ m :: r) = rowsP l ++ rowsP r := by
  match l with
  | [] => rw [List.nil_append, rowsP_match hm, rowsP_nil, List.nil_append]
  | s :: l =>
    by_cases hs : s.1 = 0
    · rw [List.cons_append, rowsP_match hs, rowsP_match hs, rowsP_parts l r m hm]
    · have hm' : ne0 m = false := ne0_false.2 hm
      rw [List.cons_append, rowsP_row hs, rowsP_row hs, take_app, drop_app]
      by_cases h : l.dropWhile ne0 = []
      · rw [if_pos h, if_pos h, List.takeWhile_cons, List.dropWhile_cons, hm', h, rowsP_nil]
        have ht : l.takeWhile ne0 = l := by
          rcases drop_or l with h' | ⟨_, _, _, h', _⟩
          · exact h'.2.1
          · rw [h] at h'; cases h'
        simp [ht, rowsP_match hm]
      · rw [if_neg h, if_neg h, List.cons_append, rowsP_parts (l.dropWhile ne0) r m hm]
termination_by l.length
decreasing_by
  · simp
  · have := drop_le l
    simp; omega

theorem rowsP_ne (l : List St) (s : St) (hs : s ∈ l) (h : s.1 ≠ 0) : rowsP l ≠ [] := by
  match l with
  | [] => simp at hs
  | a :: l =>
    by_cases ha : a.1 = 0
    · rw [rowsP_match ha]
      rcases List.mem_cons.1 hs with rfl | hs
      · exact absurd ha h
      · exact rowsP_ne l s hs h
    · rw [rowsP_row ha]; simp

/-- A step more. -/
theorem rowsP_snoc (p : List St) (s : St) : rowsP (p ++ [s]) = if s.1 = 0 then rowsP p else if inRun p = true then (rowsP p).dropLast ++ [(rowsP p).getLastD [] ++ [s]] else rowsP p ++ [[s]] := by
  by_cases hs : s.1 = 0
  · rw [if_pos hs]
    have := rowsP_parts p [] s hs
    rw [rowsP_nil, List.append_nil] at this
    exact this
  · rw [if_neg hs]
    have hs' : ne0 s = true := ne0_true.2 hs
    match p with
    | [] => rw [List.nil_append, rowsP_row hs, inRun_nil]; simp [rowsP_nil]
    | a :: t =>
      by_cases ha : a.1 = 0
      · have ih := rowsP_snoc t s
        rw [if_neg hs] at ih
        rw [List.cons_append, rowsP_match ha, rowsP_match ha, ih]
        have e : inRun (a :: t) = inRun t := by
          cases t with
          | nil => simp [inRun, ne0, ha]
          | cons b t => simp [inRun]
        rw [e]
      · rw [List.cons_append, rowsP_row ha, rowsP_row ha, take_app, drop_app]
        rcases drop_or t with ⟨h1, h2, h3⟩ | ⟨m, r, h1, h2, h3⟩
        · rw [if_pos h1, if_pos h1, h1, h2, rowsP_nil]
          have e : inRun (a :: t) = true := by
            rcases List.eq_nil_or_concat t with rfl | ⟨t', b, rfl⟩
            · simp [inRun, ne0, ha]
            · rw [List.concat_eq_append, ← List.cons_append, inRun_snoc]
              exact h3 b (by simp)
          rw [if_pos e]
          simp [hs', rowsP_nil]
        · have hne : t.dropWhile ne0 ≠ [] := by rw [h2]; simp
          rw [if_neg hne, if_neg hne]
          have ih := rowsP_snoc (t.dropWhile ne0) s
          rw [if_neg hs] at ih
          rw [ih]
          have e : inRun (a :: t) = inRun (t.dropWhile ne0) := by
            rw [h2]
            conv => lhs; rw [h3]
            have e2 : (a :: (t.takeWhile ne0 ++ m :: r)).getLast? = (m :: r).getLast? := by
              rw [← List.cons_append, List.getLast?_append, List.getLast?_cons]
              rfl
            simp only [inRun, e2]
          rw [e]
          by_cases hr : inRun (t.dropWhile ne0) = true
          · rw [if_pos hr, if_pos hr]
            have hnr : rowsP (t.dropWhile ne0) ≠ [] := by
              rcases List.eq_nil_or_concat (t.dropWhile ne0) with h' | ⟨t', b, h'⟩
              · exact absurd h' hne
              · rw [h', List.concat_eq_append] at hr
                rw [inRun_snoc] at hr
                intro h0
                rw [h', List.concat_eq_append] at h0
                exact rowsP_ne (t' ++ [b]) b (by simp) (ne0_true.1 hr) h0
            cases hx : rowsP (t.dropWhile ne0) with
            | nil => exact absurd hx hnr
            | cons c d => simp [List.getLastD]
          · rw [if_neg hr, if_neg hr, List.cons_append]
termination_by p.length
decreasing_by
  · simp
  · have := drop_le t
    simp; omega

theorem stC_app (a b : List St) : stC (a ++ b) = stC a + stC b := by
  induction a with
  | nil => simp [stC]
  | cons s a ih => simp only [List.cons_append, stC, ih]; omega
theorem stC_run (l : List St) (h : ∀ s ∈ l, s.1 ≠ 0) : stC l = l.length := by
  induction l with
  | nil => rfl
  | cons s l ih =>
    rw [stC, if_neg (h s (by simp)), ih (fun t ht => h t (by simp [ht])), List.length_cons]
    omega
/-- Each row: not empty, no match in it, a part of the steps. -/
theorem rowsP_each (l : List St) : ∀ r ∈ rowsP l, r ≠ [] ∧ (∀ s ∈ r, s.1 ≠ 0) ∧ ∃ X Y, l = X ++ r ++ Y := by
  match l with
  | [] => rw [rowsP_nil]; simp
  | a :: l =>
    by_cases ha : a.1 = 0
    · rw [rowsP_match ha]
      intro r hr
      obtain ⟨h1, h2, X, Y, h3⟩ := rowsP_each l r hr
      exact ⟨h1, h2, a :: X, Y, by rw [h3]; simp⟩
    · rw [rowsP_row ha]
      intro r hr
      rcases List.mem_cons.1 hr with rfl | hr
      · refine ⟨by simp, fun s hs => ?_, [], l.dropWhile ne0, by simp⟩
        rcases List.mem_cons.1 hs with rfl | hs
        · exact ha
        · exact ne0_true.1 (List.all_eq_true.1 (List.all_takeWhile) s hs)
      · obtain ⟨h1, h2, X, Y, h3⟩ := rowsP_each (l.dropWhile ne0) r hr
        refine ⟨h1, h2, a :: l.takeWhile ne0 ++ X, Y, ?_⟩
        conv => lhs; rw [← List.takeWhile_append_dropWhile (p := ne0) (l := l), h3]
        simp
termination_by l.length
decreasing_by
  · simp
  · have := drop_le l
    simp; omega
/-- As many steps in all rows as aren't matches. -/
theorem rowsP_sum (l : List St) : ((rowsP l).map List.length).sum = stC l := by
  match l with
  | [] => rw [rowsP_nil]; rfl
  | a :: l =>
    by_cases ha : a.1 = 0
    · rw [rowsP_match ha, rowsP_sum l, stC, if_pos ha, Nat.zero_add]
    · rw [rowsP_row ha, List.map_cons, List.sum_cons, rowsP_sum (l.dropWhile ne0)]
      have e : stC (a :: l) = stC (a :: l.takeWhile ne0) + stC (l.dropWhile ne0) := by
        rw [← stC_app, List.cons_append, List.takeWhile_append_dropWhile]
      rw [e, stC_run (a :: l.takeWhile ne0) (fun s hs => ?_)]
      rcases List.mem_cons.1 hs with rfl | hs
      · exact ha
      · exact ne0_true.1 (List.all_eq_true.1 (List.all_takeWhile) s hs)
termination_by l.length
decreasing_by
  · simp
  · have := drop_le l
    simp; omega
theorem rowsP_len (l : List St) : (rowsP l).length ≤ l.length := by
  match l with
  | [] => rw [rowsP_nil]; simp
  | a :: l =>
    by_cases ha : a.1 = 0
    · rw [rowsP_match ha]
      have := rowsP_len l
      simp; omega
    · rw [rowsP_row ha]
      have := rowsP_len (l.dropWhile ne0)
      have := drop_le l
      simp; omega
termination_by l.length
decreasing_by
  · simp
  · have := drop_le l
    simp; omega
end Go.Proofs.YtnognphjndpgkaaGreatDoor

/- Words of this seat: a slice value that reads as a list of numbers (int32), kept wherever old blocks are kept; the order of two lists. -/
namespace Go.Proofs.YtnognphjndpgkaaGreatDoor
open Go.RowKit

/-- The slice value v reads as the list l of int32: nil or empty where l is empty; else its cells hold l one behind the other. -/
def Runs (w : World) (v : Value) (l : List Int) : Prop :=
  ∃ A c, v = .slice A l.length c ∧ l.length ≤ c ∧ (c ≤ maxLen ∧ (A = none → c = 0)) ∧
    (0 < l.length → ∃ b o, A = some ⟨b, o, none⟩ ∧ b < w.heap.size ∧ ∀ j, j < l.length → w.cell? ⟨b, o + j, none⟩ = some (.int .i32 (l.getD j 0)))

theorem Runs.below {w w' : World} {v : Value} {l : List Int} (h : Runs w v l) (hb : Below w.heap.size w w') : Runs w' v l := by
  obtain ⟨A, c, e, hc, hm, hx⟩ := h
  refine ⟨A, c, e, hc, hm, fun h0 => ?_⟩
  obtain ⟨b, o, eA, hlt, hcell⟩ := hx h0
  exact ⟨b, o, eA, Nat.lt_of_lt_of_le hlt hb.size, fun j hj => (hb.cell (p := ⟨b, o + j, none⟩) hlt).trans (hcell j hj)⟩

theorem Runs.nil_ (w : World) : Runs w (.slice none 0 0) [] := ⟨none, 0, rfl, by simp, by simp [maxLen], fun h => absurd h (by simp)⟩

theorem Runs.of_own {w : World} {base : Nat} {e : TypeId} {v : Value} {n : Nat} {l : List Int} (h : w.ownsRow base e 1 v n (l.map (Value.int .i32))) : Runs w v l := by
  obtain ⟨hlen, hv⟩ := h
  have hn : l.length = n := by simpa using hlen
  subst hn
  rcases hv with ⟨rfl, h0⟩ | ⟨g, cap, cur, rfl, _, hg, hle, hcap, hsz, htk⟩
  · exact ⟨none, 0, by rw [h0], by omega, by simp [maxLen], fun hp => absurd hp (by omega)⟩
  · refine ⟨_, cap, rfl, hle, ⟨hcap, fun h => by cases h⟩, fun _ => ⟨g, 0, rfl, (Array.getElem?_eq_some_iff.1 hg).1, fun j hj => ?_⟩⟩
    rw [cell_of_row w g (0 + j) cur e (0, 0) hg]
    have hj' : j < (cur.toList.take (l.length * 1)).length := by rw [htk]; simpa using hj
    have h2 : (cur.toList.take (l.length * 1))[j]? = some (Value.int .i32 (l.getD j 0)) := by
      rw [htk]; simp [List.getD_eq_getElem?_getD, hj]
    rw [List.getElem?_take] at h2
    rw [if_pos (by omega)] at h2
    simpa using h2

/-- -1, 0, 1: by the first two that differ, or as one has more. -/
def cmpL : List Int → List Int → Int
  | [], [] => 0
  | [], _ :: _ => -1
  | _ :: _, [] => 1
  | a :: x, b :: y => if a < b then -1 else if b < a then 1 else cmpL x y

theorem cmpL_drop {x y : List Int} {k : Nat} (hx : k < x.length) (hy : k < y.length) :
    cmpL (x.drop k) (y.drop k) = if x.getD k 0 < y.getD k 0 then -1 else if y.getD k 0 < x.getD k 0 then 1 else cmpL (x.drop (k + 1)) (y.drop (k + 1)) := by
  rw [List.drop_eq_getElem_cons hx, List.drop_eq_getElem_cons hy]
  simp [cmpL, List.getD_eq_getElem?_getD, hx, hy]
theorem cmpL_lt {x y : List Int} (hx : x = []) (hy : 0 < y.length) : cmpL x y = -1 := by
  subst hx; cases y with
  | nil => simp at hy
  | cons _ _ => rfl
theorem cmpL_gt {x y : List Int} (hx : 0 < x.length) (hy : y = []) : cmpL x y = 1 := by
  subst hy; cases x with
  | nil => simp at hx
  | cons _ _ => rfl
theorem cmpL_eq {x y : List Int} : cmpL x y = 0 ↔ x = y := by
  induction x generalizing y with
  | nil => cases y <;> simp [cmpL]
  | cons a x ih =>
    cases y with
    | nil => simp [cmpL]
    | cons b y =>
      simp only [cmpL]
      by_cases h1 : a < b
      · simp [h1]; intro h; omega
      · by_cases h2 : b < a
        · simp [h1, h2]; intro h; omega
        · have : a = b := by omega
          simp [ih, this]
theorem cmpL_bd (x y : List Int) : cmpL x y = -1 ∨ cmpL x y = 0 ∨ cmpL x y = 1 := by
  induction x generalizing y with
  | nil => cases y <;> simp [cmpL]
  | cons a x ih =>
    cases y with
    | nil => simp [cmpL]
    | cons b y =>
      simp only [cmpL]
      split
      · simp
      · split
        · simp
        · exact ih y

theorem ret_int {k : IntKind} {a b : Int} (h : a = b) : Ending.returned (.int k a) = .returned (.int k b) := by rw [h]
theorem ret_bool {a b : Bool} (h : a = b) : Ending.returned (.bool a) = .returned (.bool b) := by rw [h]
/-- Nothing was done but some draws of an order. -/
def Drawn (w w' : World) : Prop := ∃ q, w' = w.drewN q
theorem Drawn.refl (w : World) : Drawn w w := ⟨0, rfl⟩
theorem Drawn.of (w : World) (a : Nat) : Drawn w (w.drewN a) := ⟨a, rfl⟩
theorem Drawn.of2 (w : World) (a b : Nat) : Drawn w ((w.drewN a).drewN b) := ⟨a + b, by rw [World.drewN_drewN]⟩
theorem Drawn.of3 (w : World) (a b c : Nat) : Drawn w (((w.drewN a).drewN b).drewN c) := ⟨a + b + c, by simp only [World.drewN_drewN, Nat.add_assoc]⟩
theorem Drawn.trans {a b c : World} (h : Drawn a b) (k : Drawn b c) : Drawn a c := by
  obtain ⟨x, rfl⟩ := h; obtain ⟨y, rfl⟩ := k; exact Drawn.of2 _ _ _
theorem below_draws {B : Nat} {a w : World} (h : Below B a w) (n : Nat) : Below B a (w.drewN n) := ⟨h.os, h.tape, h.output, h.size, h.block⟩
theorem Drawn.below {w w' : World} (h : Drawn w w') (B : Nat) : Below B w w' := by obtain ⟨q, rfl⟩ := h; exact below_draws (Below.refl _ _) q
end Go.Proofs.YtnognphjndpgkaaGreatDoor

/- Rows of numbers ([]int) that a call has made for itself, and rows of such rows. -/
namespace Go.Proofs.YtnognphjndpgkaaGreatDoor
open Go.RowKit

def cellsN (l : List Nat) : Array Value := (l.map fun x : Nat => Value.int .i64 (x : Int)).toArray
/-- Block g is a row of numbers. -/
def RowN (w : World) (g : Nat) (l : List Nat) : Prop := w.heap[g]? = some (.cells (cellsN l) 3)
theorem RowN.cell {w : World} {g : Nat} {l : List Nat} (h : RowN w g l) (j : Nat) (hj : j < l.length) : w.cell? ⟨g, j, none⟩ = some (.int .i64 ((l.getD j 0 : Nat) : Int)) := by
  rw [cell_of_row w g j (cellsN l) _ (0, 0) h]
  simp [cellsN, List.getD_eq_getElem?_getD, hj]
theorem RowN.frozen {w : World} {g : Nat} {l : List Nat} (h : RowN w g l) (j : Nat) : w.frozen? ⟨g, j, none⟩ = false := by
  have h' : w.heap[g]? = some (.cells (cellsN l) 3 (0, 0)) := h
  simp [World.frozen?, h']
theorem RowN.lt {w : World} {g : Nat} {l : List Nat} (h : RowN w g l) : g < w.heap.size := (Array.getElem?_eq_some_iff.1 h).1
theorem RowN.set {w : World} {g : Nat} {l : List Nat} (h : RowN w g l) (j x : Nat) : RowN (w.setCell ⟨g, j, none⟩ (.int .i64 (x : Int))) g (l.set j x) := by
  have h' : w.heap[g]? = some (.cells (cellsN l) 3 (0, 0)) := h
  have e : cellsN (l.set j x) = (cellsN l).setIfInBounds j (.int .i64 (x : Int)) := by simp [cellsN, List.map_set]
  show _ = some (Obj.cells (cellsN (l.set j x)) _)
  rw [setCell_eq_setRow w g j (cellsN l) _ (0, 0) _ h', e]
  exact setRow_heap w g _ _ _ (0, 0) h'
theorem RowN.below {w w' : World} {g B : Nat} {l : List Nat} (h : RowN w g l) (hb : Below B w w') (hB : g < B) : RowN w' g l := (hb.block g hB).trans h

theorem infoI : (Tryz.prog.info? 3).map (fun i => (i.zero, i.size, i.bytes)) = some (some (.int .i64 0), 1, 8) := by kernel_rfl
/-- make([]int, n). -/
theorem make_ints (w : World) (n : Nat) (hn : n ≤ 1000000) : (Instr.makeSlice 102 (.int .i64 (n : Int)) (.int .i64 (n : Int))).run Tryz.prog w =
    .ok (.slice (some ⟨w.heap.size, 0, none⟩) n n) (w.alloc (.cells (cellsN (List.replicate n 0)) 3)) := by
  obtain ⟨i0, hi, hz0, hz1, hz2⟩ := info_parts infoI
  have h := run_make (P := Tryz.prog) w 102 3 i0 _ Tryz.underlying102 hi hz0 .i64 .i64 (n : Int) (n : Int) (by omega) (Int.le_refl _) (by rw [hz2]; omega) (by omega)
  rw [h, hz1]
  have e : madeCells (Value.int .i64 0).cells (n * 1) = cellsN (List.replicate n 0) := by
    rw [Nat.mul_one]
    apply Array.ext
    · simp [size_madeCells, cellsN]
    · intro i h1 h2
      simp [madeCells, cellsN, Value.cells, Nat.mod_one]
  simp only [Int.toNat_natCast]
  rw [e]

/-- A row of slices: so many are there, each of m; the others are nil. -/
def cellsS (m : Nat) (gs : List (Option Nat)) : Array Value := (gs.map fun g => match g with | some b => Value.slice (some ⟨b, 0, none⟩) m m | none => Value.slice none 0 0).toArray
def RowS (w : World) (G m : Nat) (gs : List (Option Nat)) : Prop := w.heap[G]? = some (.cells (cellsS m gs) 102)
theorem RowS.cell {w : World} {G m : Nat} {gs : List (Option Nat)} (h : RowS w G m gs) (j b : Nat) (hj : gs[j]? = some (some b)) : w.cell? ⟨G, j, none⟩ = some (.slice (some ⟨b, 0, none⟩) m m) := by
  rw [cell_of_row w G j (cellsS m gs) _ (0, 0) h]
  simp [cellsS, hj]
theorem RowS.cell0 {w : World} {G m : Nat} {gs : List (Option Nat)} (h : RowS w G m gs) (j : Nat) (hj : gs[j]? = some none) : w.cell? ⟨G, j, none⟩ = some (.slice none 0 0) := by
  rw [cell_of_row w G j (cellsS m gs) _ (0, 0) h]
  simp [cellsS, hj]
theorem RowS.frozen {w : World} {G m : Nat} {gs : List (Option Nat)} (h : RowS w G m gs) (j : Nat) : w.frozen? ⟨G, j, none⟩ = false := by
  have h' : w.heap[G]? = some (.cells (cellsS m gs) 102 (0, 0)) := h
  simp [World.frozen?, h']
theorem RowS.lt {w : World} {G m : Nat} {gs : List (Option Nat)} (h : RowS w G m gs) : G < w.heap.size := (Array.getElem?_eq_some_iff.1 h).1
theorem RowS.set {w : World} {G m : Nat} {gs : List (Option Nat)} (h : RowS w G m gs) (j b : Nat) : RowS (w.setCell ⟨G, j, none⟩ (.slice (some ⟨b, 0, none⟩) m m)) G m (gs.set j (some b)) := by
  have h' : w.heap[G]? = some (.cells (cellsS m gs) 102 (0, 0)) := h
  have e : cellsS m (gs.set j (some b)) = (cellsS m gs).setIfInBounds j (.slice (some ⟨b, 0, none⟩) m m) := by simp [cellsS, List.map_set]
  show _ = some (Obj.cells (cellsS m (gs.set j (some b))) _)
  rw [setCell_eq_setRow w G j (cellsS m gs) _ (0, 0) _ h', e]
  exact setRow_heap w G _ _ _ (0, 0) h'
theorem RowS.below {w w' : World} {G m B : Nat} {gs : List (Option Nat)} (h : RowS w G m gs) (hb : Below B w w') (hB : G < B) : RowS w' G m gs := (hb.block G hB).trans h

theorem infoS : (Tryz.prog.info? 102).map (fun i => (i.zero, i.size, i.bytes)) = some (some (.slice none 0 0), 1, 24) := by kernel_rfl
/-- make([][]int, n). -/
theorem make_rows (w : World) (n m : Nat) (hn : n ≤ 1000000) : (Instr.makeSlice 81 (.int .i64 (n : Int)) (.int .i64 (n : Int))).run Tryz.prog w =
    .ok (.slice (some ⟨w.heap.size, 0, none⟩) n n) (w.alloc (.cells (cellsS m (List.replicate n none)) 102)) := by
  obtain ⟨i0, hi, hz0, hz1, hz2⟩ := info_parts infoS
  have h := run_make (P := Tryz.prog) w 81 102 i0 _ Tryz.underlying81 hi hz0 .i64 .i64 (n : Int) (n : Int) (by omega) (Int.le_refl _) (by rw [hz2]; omega) (by omega)
  rw [h, hz1]
  have e : madeCells (Value.slice none 0 0).cells (n * 1) = cellsS m (List.replicate n none) := by
    rw [Nat.mul_one]
    apply Array.ext
    · simp [size_madeCells, cellsS]
    · intro i h1 h2
      simp [madeCells, cellsS, Value.cells, Nat.mod_one]
  simp only [Int.toNat_natCast]
  rw [e]
end Go.Proofs.YtnognphjndpgkaaGreatDoor

/- The table of two rows' beginnings, as errataref04.table makes it. -/
namespace Go.Proofs.YtnognphjndpgkaaGreatDoor
open Go.RowKit

/-- How far two beginnings are apart. -/
def tab (x y : List Int) (i j : Nat) : Nat := levR (x.take i).reverse (y.take j).reverse

theorem tab_zero (x y : List Int) (j : Nat) (hj : j ≤ y.length) : tab x y 0 j = j := by
  rw [tab, List.take_zero, List.reverse_nil, levR_nil, List.length_reverse, List.length_take]
  omega
theorem tab_zero' (x y : List Int) (i : Nat) (hi : i ≤ x.length) : tab x y i 0 = i := by
  rw [tab, List.take_zero, List.reverse_nil, levR_nil', List.length_reverse, List.length_take]
  omega
theorem rev_take (x : List Int) (i : Nat) (hi : i < x.length) : (x.take (i + 1)).reverse = x.getD i 0 :: (x.take i).reverse := by
  rw [List.take_add_one, List.reverse_append]
  simp [List.getElem?_eq_getElem hi, List.getD_eq_getElem?_getD]
theorem tab_step (x y : List Int) (i j : Nat) (hi : i < x.length) (hj : j < y.length) :
    tab x y (i + 1) (j + 1) = min (tab x y i j + if x.getD i 0 = y.getD j 0 then 0 else 1) (min (tab x y i (j + 1) + 1) (tab x y (i + 1) j + 1)) := by
  rw [tab, rev_take x i hi, rev_take y j hj, levR_cons, ← rev_take x i hi, ← rev_take y j hj]
  rfl
theorem tab_le (x y : List Int) (i j : Nat) : tab x y i j ≤ x.length + y.length := by
  have := levR_max (x.take i).reverse (y.take j).reverse
  rw [List.length_reverse, List.length_reverse, List.length_take, List.length_take] at this
  unfold tab
  omega

/-- Row i of the table. -/
def rowL (x y : List Int) (M i : Nat) : List Nat := (List.range M).map (tab x y i)
theorem rowL_length (x y : List Int) (M i : Nat) : (rowL x y M i).length = M := by simp [rowL]
theorem rowL_getD (x y : List Int) (M i j : Nat) (hj : j < M) : (rowL x y M i).getD j 0 = tab x y i j := by
  simp [rowL, List.getD_eq_getElem?_getD, hj]
/-- The first i rows of the table lie in block G. -/
def TblAt (w : World) (G : Nat) (x y : List Int) (M N i : Nat) (gs : List Nat) : Prop :=
  gs.length = i ∧ RowS w G M (gs.map some ++ List.replicate (N - i) none) ∧ ∀ k b, gs[k]? = some b → G < b ∧ RowN w b (rowL x y M k)

theorem set_mid (gs : List Nat) (N i g : Nat) (hl : gs.length = i) (hi : i < N) : (gs.map some ++ List.replicate (N - i) (none : Option Nat)).set i (some g) = (gs ++ [g]).map some ++ List.replicate (N - (i + 1)) none := by
  obtain ⟨r, hr⟩ : ∃ r, N - i = r + 1 := ⟨N - i - 1, by omega⟩
  have h2 : N - (i + 1) = r := by omega
  rw [hr, h2, List.replicate_succ, List.set_append, List.length_map, hl, if_neg (by omega), Nat.sub_self]
  simp

/-- Behind 'd[i] = make(..)'. -/
theorem TblAt.grow {w : World} {G : Nat} {x y : List Int} {M N i : Nat} {gs : List Nat} (h : TblAt w G x y M N i gs) (hi : i < N) (W : World)
    (hW : W = (w.alloc (.cells (cellsN (List.replicate M 0)) 3)).setCell ⟨G, i, none⟩ (.slice (some ⟨w.heap.size, 0, none⟩) M M)) :
    RowS W G M ((gs ++ [w.heap.size]).map some ++ List.replicate (N - (i + 1)) none) ∧ (∀ k b, gs[k]? = some b → G < b ∧ b < w.heap.size ∧ RowN W b (rowL x y M k)) ∧ RowN W w.heap.size (List.replicate M 0) ∧ G < w.heap.size ∧ w.heap.size < W.heap.size := by
  obtain ⟨h1, h2, h3⟩ := h
  have hG := h2.lt
  have ha : Below w.heap.size w (w.alloc (.cells (cellsN (List.replicate M 0)) 3)) := (Below.refl _ _).alloc (Nat.le_refl _) _
  have hs : ∀ b, b ≠ G → W.heap[b]? = (w.alloc (.cells (cellsN (List.replicate M 0)) 3)).heap[b]? := fun b hb => by
    rw [hW]; exact Below.heap_setCell _ _ _ b hb
  refine ⟨?_, fun k b hk => ?_, ?_, hG, by rw [hW]; simp [World.setCell]⟩
  · rw [← set_mid gs N i w.heap.size h1 hi, hW]
    exact (h2.below ha hG).set i w.heap.size
  · obtain ⟨hb, hr⟩ := h3 k b hk
    exact ⟨hb, hr.lt, (hs b (by omega)).trans (hr.below ha hr.lt)⟩
  · exact (hs _ (by omega)).trans (heap_alloc_new w _)

theorem TblAt.next {w : World} {G : Nat} {x y : List Int} {M N i g : Nat} {gs : List Nat} {o : List Nat} (hl : gs.length = i) (hS : RowS w G M ((gs ++ [g]).map some ++ List.replicate (N - (i + 1)) none)) (hR : ∀ k b, gs[k]? = some b → G < b ∧ RowN w b (rowL x y M k))
    (hg : G < g) (ho : RowN w g o) (hlo : o.length = M) (hv : ∀ k, k < M → o.getD k 0 = tab x y i k) : TblAt w G x y M N (i + 1) (gs ++ [g]) := by
  refine ⟨by simp [hl], hS, fun k b hk => ?_⟩
  rw [List.getElem?_append] at hk
  split at hk
  · exact hR k b hk
  · rename_i hk'
    have e : k - gs.length = 0 := by
      cases hq : k - gs.length with
      | zero => rfl
      | succ q => rw [hq] at hk; simp at hk
    rw [e] at hk
    have hb : g = b := by simpa using hk
    subst hb
    have hki : k = i := by omega
    subst hki
    have : o = rowL x y M k := by
      apply List.ext_getElem?
      intro q
      by_cases hq : q < M
      · have h1 := hv q hq
        have h2 := rowL_getD x y M k q hq
        rw [List.getD_eq_getElem?_getD, List.getElem?_eq_getElem (by omega)] at h1
        rw [List.getD_eq_getElem?_getD, List.getElem?_eq_getElem (by rw [rowL_length]; omega)] at h2
        rw [List.getElem?_eq_getElem (by omega), List.getElem?_eq_getElem (by rw [rowL_length]; omega)]
        simp only [Option.getD_some] at h1 h2
        rw [h1, h2]
      · rw [List.getElem?_eq_none (by omega), List.getElem?_eq_none (by rw [rowL_length]; omega)]
    rw [← this]
    exact ⟨hg, ho⟩

theorem getD_set (l : List Nat) (i j x : Nat) (hi : i < l.length) : (l.set i x).getD j 0 = if i = j then x else l.getD j 0 := by
  rw [List.getD_eq_getElem?_getD, List.getD_eq_getElem?_getD, List.getElem?_set]
  by_cases h : i = j
  · subst h; simp [hi]
  · simp [h]

set_option maxRecDepth 100000 in
set_option maxHeartbeats 4000000 in
theorem table_any (u v : Value) (x y : List Int) (w : World) (hx : Runs w u x) (hy : Runs w v y) (lx : x.length ≤ 64) (ly : y.length ≤ 64) :
    Calls Tryz.prog 56 #[u, v] w fun e w' => ∃ G gs, e = .returned (.slice (some ⟨G, 0, none⟩) (x.length + 1) (x.length + 1)) ∧ TblAt w' G x y (y.length + 1) (x.length + 1) (x.length + 1) gs ∧ Below w.heap.size w w' := by
  obtain ⟨A, c, rfl, hxc, ⟨hxm, _⟩, hxx⟩ := hx
  obtain ⟨B, d, rfl, hyc, ⟨hym, _⟩, hyy⟩ := hy
  unfold maxLen at hxm hym
  obtain ⟨n, hn⟩ : ∃ n, x.length = n := ⟨_, rfl⟩
  obtain ⟨m, hm⟩ : ∃ m, y.length = m := ⟨_, rfl⟩
  rw [hn] at hxc hxx lx ⊢
  rw [hm] at hyc hyy ly ⊢
  have HN := Lib.hid hn; clear hn
  have HM := Lib.hid hm; clear hm
  have HX := Lib.hid hxx; clear hxx
  have HY := Lib.hid hyy; clear hyy
  obtain ⟨N, hN⟩ : ∃ N : Nat, (n : Int) + 1 = (N : Int) := ⟨n + 1, rfl⟩
  obtain ⟨M, hM⟩ : ∃ M : Nat, (m : Int) + 1 = (M : Int) := ⟨m + 1, rfl⟩
  have hN2 : N = n + 1 := by omega
  have hM2 : M = m + 1 := by omega
  have HN2 := Lib.hid hN2; clear hN2
  have HM2 := Lib.hid hM2; clear hM2
  have hmk := make_rows w N M (by have := HN2.out; omega)
  go_enter Tryz.func56, Tryz.ntmps56
  go_wp2
  have T0 : Hid (TblAt (w.alloc (.cells (cellsS M (List.replicate N none)) 102)) w.heap.size x y M N 0 []) := Lib.hid ⟨rfl, heap_alloc_new w _, fun k b hk => by simp at hk⟩
  have B0 : Hid (Below w.heap.size w (w.alloc (.cells (cellsS M (List.replicate N none)) 102))) := Lib.hid ((Below.refl _ _).alloc (Nat.le_refl _) _)
  obtain ⟨G, hG⟩ : ∃ G, G = w.heap.size := ⟨_, rfl⟩
  rw [← hG] at T0 B0 ⊢
  have HG := Lib.hid hG; clear hG hmk
  go_loopg [15] N (fun g s15 wr => ∃ (i : Nat) (gs : List Nat), s15 = .int .i64 i ∧ i ≤ N ∧ N - i ≤ g ∧ Hid (TblAt wr G x y M N i gs) ∧ Hid (Below G w wr))
  case atStart => exact ⟨0, [], rfl, by omega, by omega, T0, B0⟩
  case round =>
    clear T0 B0
    obtain ⟨i, gs, rfl, hi, hg, HT, HB⟩ := hrel
    by_cases hin : i < N
    · have hin' : (i : Int) < (N : Int) := by omega
      obtain ⟨g, hgs⟩ : ∃ g, g = wr.heap.size := ⟨_, rfl⟩
      have hmk := make_ints wr M (by have := HM2.out; omega)
      rw [← hgs] at hmk
      have RSi : Hid (RowS (wr.alloc (.cells (cellsN (List.replicate M 0)) 3)) G M (gs.map some ++ List.replicate (N - i) none)) := Lib.hid (HT.out.2.1.below ((Below.refl _ _).alloc (Nat.le_refl _) _) HT.out.2.1.lt)
      have c0 : (wr.alloc (.cells (cellsN (List.replicate M 0)) 3)).cell? ⟨G, i, none⟩ = some (.slice none 0 0) := RSi.out.cell0 i (by rw [List.getElem?_append_right (by rw [List.length_map, HT.out.1]; exact Nat.le_refl _), List.length_map, HT.out.1, Nat.sub_self, List.getElem?_replicate, if_pos (by omega)])
      have z0 := RSi.out.frozen i
      obtain ⟨W, hW⟩ : ∃ W, W = (wr.alloc (.cells (cellsN (List.replicate M 0)) 3)).setCell ⟨G, i, none⟩ (.slice (some ⟨wr.heap.size, 0, none⟩) M M) := ⟨_, rfl⟩
      obtain ⟨k1, k2, k3, k4, k5⟩ := HT.out.grow hin W hW
      rw [← hgs] at hW k1 k2 k3 k4 k5
      have K1 := Lib.hid k1; clear k1
      have K2 := Lib.hid k2; clear k2
      have K3 := Lib.hid k3; clear k3
      have BW : Hid (Below G w W) := Lib.hid (by rw [hW]; exact (HB.out.alloc (by omega) _).setCell (Nat.le_refl _) _)
      have c1 : W.cell? ⟨G, i, none⟩ = some (.slice (some ⟨g, 0, none⟩) M M) := K1.out.cell i g (by rw [List.getElem?_append_left (by simp [HT.out.1]), List.getElem?_map, List.getElem?_append_right (by rw [HT.out.1]; exact Nat.le_refl _), HT.out.1, Nat.sub_self]; rfl)
      have HL : Hid (gs.length = i) := Lib.hid HT.out.1
      clear RSi HT HB
      go_wp2
      rw [← hgs, ← hW]
      clear hW c0 z0 hmk c1 hgs
      have k6 : G ≠ g := by omega
      go_loopg [30] M (fun q s30 wr => ∃ (j : Nat) (o : List Nat), s30 = .int .i64 j ∧ j ≤ M ∧ M - j ≤ q ∧ Hid (RowN wr g o) ∧ Hid (o.length = M) ∧ Hid (∀ k, k < j → o.getD k 0 = tab x y i k) ∧ Hid (Below g W wr))
      case atStart => exact ⟨0, _, rfl, by omega, by omega, K3, Lib.hid (by simp), Lib.hid (fun k hk => by omega), Lib.hid (Below.refl _ _)⟩
      case round =>
        clear K3
        obtain ⟨j, o, rfl, hj, hg2, R, HO, HV, HBg⟩ := hrel
        have RS : Hid (RowS wr G M ((gs ++ [g]).map some ++ List.replicate (N - (i + 1)) none)) := Lib.hid (K1.out.below HBg.out k4)
        by_cases hjm : j < M
        · have hjm' : (j : Int) < (M : Int) := by omega
          have c1 : wr.cell? ⟨G, i, none⟩ = some (.slice (some ⟨g, 0, none⟩) M M) := RS.out.cell i g (by rw [List.getElem?_append_left (by simp [HL.out]), List.getElem?_map, List.getElem?_append_right (by rw [HL.out]; exact Nat.le_refl _), HL.out, Nat.sub_self]; rfl)
          have c2 := R.out.cell j (by have := HO.out; omega)
          have c3 := R.out.frozen j
          obtain ⟨oj, hoj⟩ : ∃ oj, o.getD j 0 = oj := ⟨_, rfl⟩
          rw [hoj] at c2
          clear hoj
          by_cases hi0 : i = 0
          · have e1 : ((i : Int) == 0) = true := by rw [hi0]; rfl
            have e2 : decide ((i : Int) = 0) = true := by rw [hi0]; rfl
            have HI := Lib.hid hi0; clear hi0
            go_wp2
            go_roundg (M - (j + 1))
            case measure => omega
            case rel =>
              refine ⟨j + 1, o.set j j, rfl, by omega, by omega, Lib.hid (R.out.set j j), Lib.hid (by rw [List.length_set]; exact HO.out), Lib.hid (fun k hk => ?_), Lib.hid (HBg.out.setCell (Nat.le_refl _) _)⟩
              rw [getD_set _ _ _ _ (by have := HO.out; omega)]
              split
              · rename_i e; subst e; rw [HI.out, tab_zero x y j (by have := HM.out; have := HM2.out; omega)]
              · exact HV.out k (by omega)
          · have hi1 : ¬ (i : Int) = 0 := by omega
            by_cases hj0 : j = 0
            · have e1 : ((j : Int) == 0) = true := by rw [hj0]; rfl
              have e2 : decide ((j : Int) = 0) = true := by rw [hj0]; rfl
              have HJ := Lib.hid hj0; clear hj0
              go_wp2
              go_roundg (M - (j + 1))
              case measure => omega
              case rel =>
                refine ⟨j + 1, o.set j i, rfl, by omega, by omega, Lib.hid (R.out.set j i), Lib.hid (by rw [List.length_set]; exact HO.out), Lib.hid (fun k hk => ?_), Lib.hid (HBg.out.setCell (Nat.le_refl _) _)⟩
                rw [getD_set _ _ _ _ (by have := HO.out; omega)]
                split
                · rename_i e; subst e; rw [HJ.out, tab_zero' x y i (by have := HN.out; have := HN2.out; omega)]
                · exact HV.out k (by omega)
            · have hj1 : ¬ (j : Int) = 0 := by omega
              obtain ⟨i', hi'⟩ : ∃ i' : Nat, (i : Int) - 1 = (i' : Int) := ⟨i - 1, by omega⟩
              obtain ⟨j', hj'⟩ : ∃ j' : Nat, (j : Int) - 1 = (j' : Int) := ⟨j - 1, by omega⟩
              have ei : i = i' + 1 := by omega
              have ej : j = j' + 1 := by omega
              have HEi := Lib.hid ei; clear ei
              have HEj := Lib.hid ej; clear ej
              have hin2 : i' < n := by have := HEi.out; have := HN2.out; omega
              have hjm2 : j' < m := by have := HEj.out; have := HM2.out; omega
              obtain ⟨b, hb⟩ : ∃ b, gs[i']? = some b := ⟨_, List.getElem?_eq_getElem (by have := HL.out; have := HEi.out; omega)⟩
              obtain ⟨q1, q2, q3⟩ := K2.out i' b hb
              have q4 := q3.below HBg.out q2
              have c4 : wr.cell? ⟨G, i', none⟩ = some (.slice (some ⟨b, 0, none⟩) M M) := RS.out.cell i' b (by rw [List.getElem?_append_left (by have := HL.out; have := HEi.out; simp; omega), List.getElem?_map, List.getElem?_append_left (by have := HL.out; have := HEi.out; omega), hb]; rfl)
              have c5 := q4.cell j' (by rw [rowL_length]; have := HEj.out; omega)
              rw [rowL_getD x y M i' j' (by have := HEj.out; omega)] at c5
              have c6 := q4.cell j (by rw [rowL_length]; exact hjm)
              rw [rowL_getD x y M i' j hjm] at c6
              have c7 := R.out.cell j' (by have := HO.out; have := HEj.out; omega)
              rw [HV.out j' (by have := HEj.out; omega)] at c7
              obtain ⟨bx, ox, rfl, hbx, hcx⟩ := HX.out (by omega)
              obtain ⟨by1, oy, rfl, hby, hcy⟩ := HY.out (by omega)
              have BL : Hid (Below G w wr) := Lib.hid (BW.out.trans (HBg.out.mono (Nat.le_of_lt k4)))
              have c8 : wr.cell? ⟨bx, ox + i', none⟩ = some (.int .i32 (x.getD i' 0)) := (BL.out.cell (show bx < G by have := HG.out; omega)).trans (hcx i' hin2)
              have c9 : wr.cell? ⟨by1, oy + j', none⟩ = some (.int .i32 (y.getD j' 0)) := (BL.out.cell (show by1 < G by have := HG.out; omega)).trans (hcy j' hjm2)
              clear hcx hcy q1 q2 q3 q4 hb
              have HS : Hid (tab x y i j = min (tab x y i' j' + if x.getD i' 0 = y.getD j' 0 then 0 else 1) (min (tab x y i' j + 1) (tab x y i j' + 1))) := Lib.hid (by
                have h1 := HEi.out; have h2 := HEj.out
                rw [h1, h2]
                exact tab_step x y i' j' (by rw [HN.out]; exact hin2) (by rw [HM.out]; exact hjm2))
              have b1 := tab_le x y i' j'
              have b2 := tab_le x y i' j
              have b3 := tab_le x y i j'
              rw [HN.out, HM.out] at b1 b2 b3
              obtain ⟨t1, ht1⟩ : ∃ t, tab x y i' j' = t := ⟨_, rfl⟩
              obtain ⟨t2, ht2⟩ : ∃ t, tab x y i' j = t := ⟨_, rfl⟩
              obtain ⟨t3, ht3⟩ : ∃ t, tab x y i j' = t := ⟨_, rfl⟩
              obtain ⟨p, hp⟩ : ∃ p, x.getD i' 0 = p := ⟨_, rfl⟩
              obtain ⟨r, hr⟩ : ∃ r, y.getD j' 0 = r := ⟨_, rfl⟩
              rw [ht1, ht2, ht3, hp, hr] at HS
              rw [ht1] at b1 c5
              rw [ht2] at b2 c6
              rw [ht3] at b3 c7
              rw [hp] at c8
              rw [hr] at c9
              clear ht1 ht2 ht3 hp hr
              have iL : (i' : Int) < (n : Int) := by omega
              have jL : (j' : Int) < (m : Int) := by omega
              have iN : (i' : Int) < (N : Int) := by omega
              have jM : (j' : Int) < (M : Int) := by omega
              obtain ⟨t, HTT, hcase⟩ : ∃ t : Nat, Hid (t = t1 + if p = r then 0 else 1) ∧ ((p = r ∧ t1 = t) ∨ (¬ p = r ∧ (t1 : Int) + 1 = (t : Int))) := by
                by_cases h : p = r
                · exact ⟨t1, Lib.hid (by rw [if_pos h]; rfl), .inl ⟨h, rfl⟩⟩
                · exact ⟨t1 + 1, Lib.hid (by rw [if_neg h]), .inr ⟨h, rfl⟩⟩
              rw [← HTT.out] at HS
              obtain ⟨U, hU⟩ : ∃ U : Nat, U = t2 + 1 := ⟨_, rfl⟩
              obtain ⟨V, hV⟩ : ∃ V : Nat, V = t3 + 1 := ⟨_, rfl⟩
              obtain ⟨P, hP⟩ : ∃ P : Nat, P = min t U := ⟨_, rfl⟩
              obtain ⟨Q, hQ⟩ : ∃ Q : Nat, Q = min P V := ⟨_, rfl⟩
              have HQ : Hid (Q = tab x y i j) := Lib.hid (by rw [HS.out]; omega)
              have m1 : (if (U : Int) < (t : Int) then (U : Int) else (t : Int)) = (P : Int) := by split <;> omega
              have m2 : (if (V : Int) < (P : Int) then (V : Int) else (P : Int)) = (Q : Int) := by split <;> omega
              have m3 : (if U < t then (U : Int) else (t : Int)) = (P : Int) := by split <;> omega
              have m4 : (if V < P then (V : Int) else (P : Int)) = (Q : Int) := by split <;> omega
              have wrp : ∀ z : Int, 0 ≤ z → z ≤ 9000000000000000000 → IntKind.i64.wrap z = z := fun z h1 h2 => by rw [IntKind.wrap_i64]; omega
              have w1 : IntKind.i64.wrap (i' : Int) = (i' : Int) := wrp _ (by omega) (by omega)
              have w2 : IntKind.i64.wrap (j' : Int) = (j' : Int) := wrp _ (by omega) (by omega)
              have w3 : IntKind.i64.wrap ((t2 : Int) + 1) = (U : Int) := (wrp _ (by omega) (by omega)).trans (by omega)
              have w4 : IntKind.i64.wrap ((t3 : Int) + 1) = (V : Int) := (wrp _ (by omega) (by omega)).trans (by omega)
              have HU := Lib.hid hU; clear hU
              have HV' := Lib.hid hV; clear hV
              have HP := Lib.hid hP; clear hP
              have HQ' := Lib.hid hQ; clear hQ
              rcases hcase with ⟨hpr, htt⟩ | ⟨hpr, htt⟩
              · subst hpr
                subst htt
                go_wp2
                go_quiet (fail)
                go_wp2
                obtain ⟨w2, hw2⟩ : ∃ w2, w2 = wr.drewN nq := ⟨_, rfl⟩
                have d1 : w2.cell? ⟨G, i, none⟩ = some (.slice (some ⟨g, 0, none⟩) M M) := by rw [hw2]; exact c1
                have d2 : w2.cell? ⟨g, j, none⟩ = some (.int .i64 (oj : Int)) := by rw [hw2]; exact c2
                have d3 : w2.frozen? ⟨g, j, none⟩ = false := by rw [hw2]; exact c3
                have d4 : w2.cell? ⟨G, i', none⟩ = some (.slice (some ⟨b, 0, none⟩) M M) := by rw [hw2]; exact c4
                have d6 : w2.cell? ⟨b, j, none⟩ = some (.int .i64 (t2 : Int)) := by rw [hw2]; exact c6
                have d7 : w2.cell? ⟨g, j', none⟩ = some (.int .i64 (t3 : Int)) := by rw [hw2]; exact c7
                have R2 : Hid (RowN w2 g o) := Lib.hid (by rw [hw2]; exact R.out)
                have B2 : Hid (Below g W w2) := Lib.hid (by rw [hw2]; exact below_draws HBg.out _)
                rw [← hw2]
                clear hw2 c1 c2 c3 c4 c5 c6 c7 c8 c9
                go_still_tail 25, (by kernel_rfl)
                change wpList _ _ _ _ _ w2.drew
                obtain ⟨w3, hw3⟩ : ∃ w3, w3 = w2.drew := ⟨_, rfl⟩
                have f2 : w3.cell? ⟨g, j, none⟩ = some (.int .i64 (oj : Int)) := by rw [hw3]; exact d2
                have f3 : w3.frozen? ⟨g, j, none⟩ = false := by rw [hw3]; exact d3
                have R3 : Hid (RowN w3 g o) := Lib.hid (by rw [hw3]; exact R2.out)
                have B3 : Hid (Below g W w3) := Lib.hid (by rw [hw3]; exact B2.out.drew)
                rw [← hw3]
                clear hw3 d1 d2 d3 d4 d6 d7 R2 B2
                go_wp2
                go_roundg (M - (j + 1))
                case measure => omega
                case rel =>
                  refine ⟨j + 1, o.set j Q, rfl, by omega, by omega, Lib.hid (R3.out.set j Q), Lib.hid (by rw [List.length_set]; exact HO.out), Lib.hid (fun k hk => ?_), Lib.hid (B3.out.setCell (Nat.le_refl _) _)⟩
                  rw [getD_set _ _ _ _ (by have := HO.out; omega)]
                  split
                  · rename_i e; subst e; exact HQ.out
                  · exact HV.out k (by omega)
              · go_wp2
                go_quiet (fail)
                go_wp2
                obtain ⟨w2, hw2⟩ : ∃ w2, w2 = wr.drewN nq := ⟨_, rfl⟩
                have d1 : w2.cell? ⟨G, i, none⟩ = some (.slice (some ⟨g, 0, none⟩) M M) := by rw [hw2]; exact c1
                have d2 : w2.cell? ⟨g, j, none⟩ = some (.int .i64 (oj : Int)) := by rw [hw2]; exact c2
                have d3 : w2.frozen? ⟨g, j, none⟩ = false := by rw [hw2]; exact c3
                have d4 : w2.cell? ⟨G, i', none⟩ = some (.slice (some ⟨b, 0, none⟩) M M) := by rw [hw2]; exact c4
                have d6 : w2.cell? ⟨b, j, none⟩ = some (.int .i64 (t2 : Int)) := by rw [hw2]; exact c6
                have d7 : w2.cell? ⟨g, j', none⟩ = some (.int .i64 (t3 : Int)) := by rw [hw2]; exact c7
                have R2 : Hid (RowN w2 g o) := Lib.hid (by rw [hw2]; exact R.out)
                have B2 : Hid (Below g W w2) := Lib.hid (by rw [hw2]; exact below_draws HBg.out _)
                rw [← hw2]
                clear hw2 c1 c2 c3 c4 c5 c6 c7 c8 c9
                go_still_tail 25, (by kernel_rfl)
                change wpList _ _ _ _ _ w2.drew
                obtain ⟨w3, hw3⟩ : ∃ w3, w3 = w2.drew := ⟨_, rfl⟩
                have f2 : w3.cell? ⟨g, j, none⟩ = some (.int .i64 (oj : Int)) := by rw [hw3]; exact d2
                have f3 : w3.frozen? ⟨g, j, none⟩ = false := by rw [hw3]; exact d3
                have R3 : Hid (RowN w3 g o) := Lib.hid (by rw [hw3]; exact R2.out)
                have B3 : Hid (Below g W w3) := Lib.hid (by rw [hw3]; exact B2.out.drew)
                rw [← hw3]
                clear hw3 d1 d2 d3 d4 d6 d7 R2 B2
                go_wp2
                go_roundg (M - (j + 1))
                case measure => omega
                case rel =>
                  refine ⟨j + 1, o.set j Q, rfl, by omega, by omega, Lib.hid (R3.out.set j Q), Lib.hid (by rw [List.length_set]; exact HO.out), Lib.hid (fun k hk => ?_), Lib.hid (B3.out.setCell (Nat.le_refl _) _)⟩
                  rw [getD_set _ _ _ _ (by have := HO.out; omega)]
                  split
                  · rename_i e; subst e; exact HQ.out
                  · exact HV.out k (by omega)
        · obtain rfl : j = M := by omega
          have HT2 : Hid (TblAt wr G x y j N (i + 1) (gs ++ [g])) := Lib.hid (TblAt.next HL.out RS.out (fun k b hk => by obtain ⟨q1, q2, q3⟩ := K2.out k b hk; exact ⟨q1, q3.below HBg.out q2⟩) k4 R.out HO.out HV.out)
          have HB2 : Hid (Below G w wr) := Lib.hid (BW.out.trans (HBg.out.mono (Nat.le_of_lt k4)))
          go_wp2
          go_roundg (N - (i + 1))
          case measure => omega
          case rel => exact ⟨i + 1, gs ++ [g], rfl, by omega, by omega, HT2, HB2⟩
    · obtain rfl : i = N := by omega
      go_wp2
      go_ret
      have h1 := HN2.out
      have h2 := HM2.out
      have h3 := HT.out
      rw [h1, h2] at h3
      rw [h1]
      exact ⟨G, gs, rfl, h3, HG.out ▸ HB.out⟩
end Go.Proofs.YtnognphjndpgkaaGreatDoor

