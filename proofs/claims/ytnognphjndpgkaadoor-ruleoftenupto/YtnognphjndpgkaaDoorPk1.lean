/- Texts that several proofs of this seat share, one behind the other: APlain BPlain Base NRow ATable GSame Plain Iter. -/
import Derived.WalkKit
import Derived.ProofKit
import Derived.Below
import Derived.Deep.QuietTactic
import Derived.BigQuiet
import Derived.Deep.LoopGhost
import Derived.Deep.Draws
import Derived.Lib.Hide
import Derived.WalkLawsBesides
import Derived.WalkSpells
import Derived.Test.YtnognphjndpgkaaDoorProg
import Derived.OwnWalk
import Derived.StillTailTactics
import Derived.Lib.MapLaws
import Derived.Lib.ValidLaws
import Derived.RangeFuncNested
import Derived.RangeFuncBound
import Derived.RangeFuncCalls
import Derived.RangeFuncLeaves
import Derived.RangeFuncBox
import Derived.Shelf.Abstract
import Derived.Shelf.RegionOpen
import Derived.OwnWalkIn
import Derived.TacticsInMore
import Derived.LoopNIn
import Derived.LoopIn
import Derived.Maps.AppendAt
import Derived.Scope
import Derived.Shelf.Unicode.DecodeAny
import Derived.Test.YtnognphjndpgkaaDoorShelf
/- Two rows of runes: how far they are apart, and the steps between them: plain. Rows stand with their last rune first. -/
namespace Go.Proofs.YtnognphjndpgkaaDoor

/-- How many steps that aren't matches two rows are apart. -/
def levR : List Int → List Int → Nat
  | [], ys => ys.length
  | xs, [] => xs.length
  | x :: xs, y :: ys => min (levR xs ys + if x = y then 0 else 1) (min (levR xs (y :: ys) + 1) (levR (x :: xs) ys + 1))
termination_by xs ys => xs.length + ys.length

theorem levR_nil (ys : List Int) : levR [] ys = ys.length := by unfold levR; rfl
theorem levR_nil' (xs : List Int) : levR xs [] = xs.length := by cases xs <;> (unfold levR; rfl)
theorem levR_cons (x y : Int) (xs ys : List Int) : levR (x :: xs) (y :: ys) = min (levR xs ys + if x = y then 0 else 1) (min (levR xs (y :: ys) + 1) (levR (x :: xs) ys + 1)) := by
  rw [levR]

theorem levR_symm (xs ys : List Int) : levR xs ys = levR ys xs := by
  match xs, ys with
  | [], ys => rw [levR_nil, levR_nil']
  | x :: xs, [] => rw [levR_nil, levR_nil']
  | x :: xs, y :: ys =>
    rw [levR_cons, levR_cons, levR_symm xs ys, levR_symm xs (y :: ys), levR_symm (x :: xs) ys]
    have : (if x = y then 0 else 1) = if y = x then 0 else 1 := by
      by_cases h : x = y
      · rw [if_pos h, if_pos h.symm]
      · rw [if_neg h, if_neg (fun e => h e.symm)]
    rw [this]
    omega
termination_by xs.length + ys.length

theorem levR_up (x : Int) (xs ys : List Int) : levR (x :: xs) ys ≤ levR xs ys + 1 := by
  cases ys with
  | nil => rw [levR_nil', levR_nil']; simp
  | cons y ys => rw [levR_cons]; omega
theorem levR_up' (y : Int) (xs ys : List Int) : levR xs (y :: ys) ≤ levR xs ys + 1 := by
  rw [levR_symm, levR_symm xs ys]; exact levR_up y ys xs

theorem levR_down (x : Int) (xs ys : List Int) : levR xs ys ≤ levR (x :: xs) ys + 1 := by
  match ys with
  | [] => rw [levR_nil', levR_nil']; simp; omega
  | y :: ys =>
    have h1 := levR_up' y xs ys
    have h2 := levR_down x xs ys
    rw [levR_cons]
    omega
termination_by ys.length
theorem levR_down' (y : Int) (xs ys : List Int) : levR xs ys ≤ levR xs (y :: ys) + 1 := by
  rw [levR_symm xs ys, levR_symm xs (y :: ys)]; exact levR_down y ys xs

theorem levR_same (x : Int) (xs ys : List Int) : levR (x :: xs) (x :: ys) = levR xs ys := by
  have h1 := levR_down' x xs ys
  have h2 := levR_down x xs ys
  rw [levR_cons, if_pos rfl]
  omega

theorem levR_self (xs : List Int) : levR xs xs = 0 := by
  induction xs with
  | nil => rw [levR_nil]; rfl
  | cons x xs ih => rw [levR_same, ih]

theorem levR_zero {xs ys : List Int} (h : levR xs ys = 0) : xs = ys := by
  match xs, ys with
  | [], ys => rw [levR_nil] at h; exact (List.eq_nil_of_length_eq_zero h).symm
  | x :: xs, [] => rw [levR_nil'] at h; simp at h
  | x :: xs, y :: ys =>
    rw [levR_cons] at h
    by_cases e : x = y
    · rw [if_pos e] at h
      rw [e, levR_zero (xs := xs) (ys := ys) (by omega)]
    · rw [if_neg e] at h
      omega
termination_by xs.length + ys.length

theorem levR_len (xs ys : List Int) : xs.length ≤ ys.length + levR xs ys := by
  match xs, ys with
  | [], ys => simp
  | x :: xs, [] => rw [levR_nil']; omega
  | x :: xs, y :: ys =>
    have h1 := levR_len xs ys
    have h2 := levR_len xs (y :: ys)
    have h3 := levR_len (x :: xs) ys
    rw [levR_cons]
    simp only [List.length_cons] at *
    split <;> omega
termination_by xs.length + ys.length
theorem levR_len' (xs ys : List Int) : ys.length ≤ xs.length + levR xs ys := by rw [levR_symm]; exact levR_len ys xs

theorem levR_max (xs ys : List Int) : levR xs ys ≤ max xs.length ys.length := by
  match xs, ys with
  | [], ys => rw [levR_nil]; simp
  | x :: xs, [] => rw [levR_nil']; simp
  | x :: xs, y :: ys =>
    have h1 := levR_max xs ys
    rw [levR_cons]
    simp only [List.length_cons]
    split <;> omega
termination_by xs.length + ys.length

theorem levR_tri (xs ys zs : List Int) : levR xs zs ≤ levR xs ys + levR ys zs := by
  match xs, ys, zs with
  | [], ys, zs => rw [levR_nil, levR_nil]; exact levR_len' ys zs
  | x :: xs, ys, [] => rw [levR_nil', levR_nil']; have := levR_len (x :: xs) ys; omega
  | x :: xs, [], z :: zs =>
    have := levR_max (x :: xs) (z :: zs)
    rw [levR_nil, levR_nil']
    omega
  | x :: xs, y :: ys, z :: zs =>
    have t1 := levR_tri xs ys zs
    have t2 := levR_tri xs (y :: ys) (z :: zs)
    have t3 := levR_tri (x :: xs) ys (z :: zs)
    have t4 := levR_tri (x :: xs) (y :: ys) zs
    have d1 := levR_down y ys (z :: zs)
    have d2 := levR_down' y (x :: xs) ys
    have u1 := levR_up x xs (z :: zs)
    have u2 := levR_up' z (x :: xs) zs
    have a := levR_cons x z xs zs
    have b := levR_cons x y xs ys
    have c := levR_cons y z ys zs
    have e : (if x = z then 0 else 1) ≤ (if x = y then 0 else 1) + (if y = z then 0 else 1) := by
      by_cases h1 : x = y
      · subst h1; simp
      · simp [h1]; split <;> omega
    generalize (if x = z then 0 else 1) = p at *
    generalize (if x = y then 0 else 1) = q at *
    generalize (if y = z then 0 else 1) = r at *
    omega
termination_by xs.length + ys.length + zs.length

/-- The step of an alignment: its kind, the rune that was read, the one that should have been. -/
abbrev St := Int × Int × Int
/-- What was read, what should have been, how many aren't matches. -/
def stA : List St → List Int
  | [] => []
  | s :: l => if s.1 = 3 then stA l else s.2.1 :: stA l
def stB : List St → List Int
  | [] => []
  | s :: l => if s.1 = 2 then stB l else s.2.2 :: stB l
def stC : List St → Nat
  | [] => 0
  | s :: l => (if s.1 = 0 then 0 else 1) + stC l

/-- A step may be: a match of one rune, a sub of two, a delete, an insert. -/
def stOK (s : St) : Prop := (s.1 = 0 ∧ s.2.1 = s.2.2) ∨ (s.1 = 1 ∧ s.2.1 ≠ s.2.2) ∨ (s.1 = 2 ∧ s.2.2 = 0) ∨ (s.1 = 3 ∧ s.2.1 = 0)

theorem stC_ge (l : List St) (h : ∀ s ∈ l, stOK s) : levR (stA l) (stB l) ≤ stC l := by
  induction l with
  | nil => rw [stA, stB, stC, levR_nil]; exact Nat.le_refl _
  | cons s l ih =>
    have i := ih fun t ht => h t (by simp [ht])
    obtain ⟨k, a, b⟩ := s
    have hs : (k = 0 ∧ a = b) ∨ (k = 1 ∧ a ≠ b) ∨ (k = 2 ∧ b = 0) ∨ (k = 3 ∧ a = 0) := h (k, a, b) (by simp)
    rcases hs with ⟨rfl, h2⟩ | ⟨rfl, h2⟩ | ⟨rfl, h2⟩ | ⟨rfl, h2⟩
    · subst h2
      simp only [stA, stB, stC]
      simp
      rw [levR_same]
      exact i
    · simp only [stA, stB, stC]
      simp
      rw [levR_cons, if_neg h2]
      omega
    · simp only [stA, stB, stC]
      simp
      have := levR_up a (stA l) (stB l)
      omega
    · simp only [stA, stB, stC]
      simp
      have := levR_up' b (stA l) (stB l)
      omega

/-- The steps of two rows, the last one first. -/
def pathR : List Int → List Int → List St
  | [], [] => []
  | [], y :: ys => (3, 0, y) :: pathR [] ys
  | x :: xs, [] => (2, x, 0) :: pathR xs []
  | x :: xs, y :: ys =>
    if x = y ∧ levR (x :: xs) (y :: ys) = levR xs ys then (0, x, y) :: pathR xs ys
    else if x ≠ y ∧ levR (x :: xs) (y :: ys) = levR xs ys + 1 then (1, x, y) :: pathR xs ys
    else if levR (x :: xs) (y :: ys) = levR xs (y :: ys) + 1 then (2, x, 0) :: pathR xs (y :: ys)
    else (3, 0, y) :: pathR (x :: xs) ys
termination_by xs ys => xs.length + ys.length

theorem pathR_same (x : Int) (xs ys : List Int) : pathR (x :: xs) (x :: ys) = (0, x, x) :: pathR xs ys := by
  rw [pathR, if_pos ⟨rfl, levR_same x xs ys⟩]
theorem pathR_sub {x y : Int} {xs ys : List Int} (h : x ≠ y) (hl : levR (x :: xs) (y :: ys) = levR xs ys + 1) : pathR (x :: xs) (y :: ys) = (1, x, y) :: pathR xs ys := by
  rw [pathR, if_neg (fun e => h e.1), if_pos ⟨h, hl⟩]
theorem pathR_del {x y : Int} {xs ys : List Int} (h : x ≠ y) (hl : levR (x :: xs) (y :: ys) ≠ levR xs ys + 1) (hd : levR (x :: xs) (y :: ys) = levR xs (y :: ys) + 1) : pathR (x :: xs) (y :: ys) = (2, x, 0) :: pathR xs (y :: ys) := by
  rw [pathR, if_neg (fun e => h e.1), if_neg (fun e => hl e.2), if_pos hd]
theorem pathR_ins {x y : Int} {xs ys : List Int} (h : x ≠ y) (hl : levR (x :: xs) (y :: ys) ≠ levR xs ys + 1) (hd : levR (x :: xs) (y :: ys) ≠ levR xs (y :: ys) + 1) : pathR (x :: xs) (y :: ys) = (3, 0, y) :: pathR (x :: xs) ys := by
  rw [pathR, if_neg (fun e => h e.1), if_neg (fun e => hl e.2), if_neg hd]

/-- All of the steps: what they are of, how many aren't matches, that each may be. -/
theorem pathR_all (xs ys : List Int) : stA (pathR xs ys) = xs ∧ stB (pathR xs ys) = ys ∧ stC (pathR xs ys) = levR xs ys ∧ ∀ s ∈ pathR xs ys, stOK s := by
  match xs, ys with
  | [], [] => rw [pathR, levR_nil]; simp [stA, stB, stC]
  | [], y :: ys =>
    obtain ⟨h1, h2, h3, h4⟩ := pathR_all [] ys
    rw [pathR, levR_nil]
    rw [levR_nil] at h3
    refine ⟨by simp [stA, h1], by simp [stB, h2], by simp [stC, h3]; omega, fun s hs => ?_⟩
    rcases List.mem_cons.1 hs with rfl | hs
    · exact .inr (.inr (.inr ⟨rfl, rfl⟩))
    · exact h4 s hs
  | x :: xs, [] =>
    obtain ⟨h1, h2, h3, h4⟩ := pathR_all xs []
    rw [pathR, levR_nil']
    rw [levR_nil'] at h3
    refine ⟨by simp [stA, h1], by simp [stB, h2], by simp [stC, h3]; omega, fun s hs => ?_⟩
    rcases List.mem_cons.1 hs with rfl | hs
    · exact .inr (.inr (.inl ⟨rfl, rfl⟩))
    · exact h4 s hs
  | x :: xs, y :: ys =>
    by_cases e : x = y
    · subst e
      obtain ⟨h1, h2, h3, h4⟩ := pathR_all xs ys
      rw [pathR_same, levR_same]
      refine ⟨by simp [stA, h1], by simp [stB, h2], by simp [stC, h3], fun s hs => ?_⟩
      rcases List.mem_cons.1 hs with rfl | hs
      · exact .inl ⟨rfl, rfl⟩
      · exact h4 s hs
    · by_cases hl : levR (x :: xs) (y :: ys) = levR xs ys + 1
      · obtain ⟨h1, h2, h3, h4⟩ := pathR_all xs ys
        rw [pathR_sub e hl, hl]
        refine ⟨by simp [stA, h1], by simp [stB, h2], by simp [stC, h3]; omega, fun s hs => ?_⟩
        rcases List.mem_cons.1 hs with rfl | hs
        · exact .inr (.inl ⟨rfl, e⟩)
        · exact h4 s hs
      · by_cases hd : levR (x :: xs) (y :: ys) = levR xs (y :: ys) + 1
        · obtain ⟨h1, h2, h3, h4⟩ := pathR_all xs (y :: ys)
          rw [pathR_del e hl hd, hd]
          refine ⟨by simp [stA, h1], by simp [stB, h2], by simp [stC, h3]; omega, fun s hs => ?_⟩
          rcases List.mem_cons.1 hs with rfl | hs
          · exact .inr (.inr (.inl ⟨rfl, rfl⟩))
          · exact h4 s hs
        · obtain ⟨h1, h2, h3, h4⟩ := pathR_all (x :: xs) ys
          have hi : levR (x :: xs) (y :: ys) = levR (x :: xs) ys + 1 := by
            have c := levR_cons x y xs ys
            rw [if_neg e] at c
            omega
          rw [pathR_ins e hl hd, hi]
          refine ⟨by simp [stA, h1], by simp [stB, h2], by simp [stC, h3]; omega, fun s hs => ?_⟩
          rcases List.mem_cons.1 hs with rfl | hs
          · exact .inr (.inr (.inr ⟨rfl, rfl⟩))
          · exact h4 s hs
termination_by xs.length + ys.length

/-- Rows of one length that are at most one apart have no other steps than matches and subs: each of the two runes that stand there. -/
theorem pathR_flat (xs ys : List Int) (hl : xs.length = ys.length) (h : levR xs ys ≤ 1) : (pathR xs ys).length = xs.length ∧ ∀ i, i < xs.length → ∃ k, (pathR xs ys)[i]? = some (k, xs.getD i 0, ys.getD i 0) ∧ (k = 0 ∨ k = 1) := by
  match xs, ys with
  | [], [] => rw [pathR]; simp
  | x :: xs, y :: ys =>
    have hl' : xs.length = ys.length := by simpa using hl
    by_cases e : x = y
    · subst e
      rw [levR_same] at h
      obtain ⟨h1, h2⟩ := pathR_flat xs ys hl' h
      rw [pathR_same]
      refine ⟨by simp [h1], fun i hi => ?_⟩
      cases i with
      | zero => exact ⟨0, by simp, .inl rfl⟩
      | succ i => simpa using h2 i (by simpa using hi)
    · have c := levR_cons x y xs ys
      rw [if_neg e] at c
      have n1 : levR xs (y :: ys) ≠ 0 := fun h0 => by have := congrArg List.length (levR_zero h0); simp at this; omega
      have n2 : levR (x :: xs) ys ≠ 0 := fun h0 => by have := congrArg List.length (levR_zero h0); simp at this; omega
      have h0 : levR xs ys = 0 := by omega
      obtain ⟨h1, h2⟩ := pathR_flat xs ys hl' (by omega)
      rw [pathR_sub e (by omega)]
      refine ⟨by simp [h1], fun i hi => ?_⟩
      cases i with
      | zero => exact ⟨1, by simp, .inr rfl⟩
      | succ i => simpa using h2 i (by simpa using hi)
termination_by xs.length + ys.length

/-- Rows that end alike have matches there. -/
theorem pathR_ends (es xs ys : List Int) : pathR (es ++ xs) (es ++ ys) = (es.map fun e => ((0, e, e) : St)) ++ pathR xs ys := by
  induction es with
  | nil => rfl
  | cons e es ih => rw [List.cons_append, List.cons_append, pathR_same, ih]; rfl
theorem levR_ends (es xs ys : List Int) : levR (es ++ xs) (es ++ ys) = levR xs ys := by
  induction es with
  | nil => rfl
  | cons e es ih => rw [List.cons_append, List.cons_append, levR_same, ih]
end Go.Proofs.YtnognphjndpgkaaDoor

/- Rows of steps that aren't matches, plain. -/
namespace Go.Proofs.YtnognphjndpgkaaDoor

def ne0 (s : St) : Bool := decide (s.1 ≠ 0)
theorem ne0_true {s : St} : ne0 s = true ↔ s.1 ≠ 0 := by simp [ne0]
theorem ne0_false {s : St} : ne0 s = false ↔ s.1 = 0 := by simp [ne0]

theorem drop_le (l : List St) : (l.dropWhile ne0).length ≤ l.length := (List.dropWhile_suffix ne0).length_le

/-- The longest rows of steps that aren't matches, as they stand. -/
def rowsP : List St → List (List St)
  | [] => []
  | s :: l => if s.1 = 0 then rowsP l else (s :: l.takeWhile ne0) :: rowsP (l.dropWhile ne0)
termination_by l => l.length
decreasing_by
  · simp
  · have := drop_le l
    simp; omega
theorem rowsP_nil : rowsP [] = [] := by rw [rowsP]
theorem rowsP_match {s : St} {l : List St} (h : s.1 = 0) : rowsP (s :: l) = rowsP l := by rw [rowsP, if_pos h]
theorem rowsP_row {s : St} {l : List St} (h : s.1 ≠ 0) : rowsP (s :: l) = (s :: l.takeWhile ne0) :: rowsP (l.dropWhile ne0) := by rw [rowsP, if_neg h]

/-- The last step isn't a match. -/
def inRun (l : List St) : Bool := match l.getLast? with
  | none => false
  | some s => ne0 s
theorem inRun_nil : inRun [] = false := rfl
theorem inRun_snoc (l : List St) (s : St) : inRun (l ++ [s]) = ne0 s := by simp [inRun]

theorem drop_or (t : List St) : (t.dropWhile ne0 = [] ∧ t.takeWhile ne0 = t ∧ ∀ s ∈ t, ne0 s = true) ∨ (∃ m r, m.1 = 0 ∧ t.dropWhile ne0 = m :: r ∧ t = t.takeWhile ne0 ++ m :: r) := by
  induction t with
  | nil => left; simp
  | cons a t ih =>
    cases ha : ne0 a with
    | false =>
      right
      exact ⟨a, t, ne0_false.1 ha, by simp [ha], by simp [ha]⟩
    | true =>
      rcases ih with ⟨h1, h2, h3⟩ | ⟨m, r, h1, h2, h3⟩
      · left
        refine ⟨by simp [ha, h1], by simp [ha, h2], fun s hs => ?_⟩
        rcases List.mem_cons.1 hs with rfl | hs
        · exact ha
        · exact h3 s hs
      · right
        refine ⟨m, r, h1, by simp [ha, h2], ?_⟩
        simp only [List.takeWhile_cons, ha, if_true, List.cons_append]
        rw [← h3]
theorem take_app (t u : List St) : (t ++ u).takeWhile ne0 = if t.dropWhile ne0 = [] then t ++ u.takeWhile ne0 else t.takeWhile ne0 := by
  induction t with
  | nil => simp
  | cons a t ih =>
    cases ha : ne0 a with
    | false => simp [ha]
    | true =>
      simp only [List.cons_append, List.takeWhile_cons, List.dropWhile_cons, ha, if_true, ih]
      split <;> rfl
theorem drop_app (t u : List St) : (t ++ u).dropWhile ne0 = if t.dropWhile ne0 = [] then u.dropWhile ne0 else t.dropWhile ne0 ++ u := by
  induction t with
  | nil => simp
  | cons a t ih =>
    cases ha : ne0 a with
    | false => simp [ha]
    | true => simp only [List.cons_append, List.dropWhile_cons, ha, if_true, ih]

/-- Steps one behind the other, a match between, have the rows of both. -/
theorem rowsP_parts (l r : List St) (m : St) (hm : m.1 = 0) : rowsP (l ++ m :: r) = rowsP l ++ rowsP r := by
  match l with
  | [] => rw [List.nil_append, rowsP_match hm, rowsP_nil, List.nil_append]
  | s :: l =>
    by_cases hs : s.1 = 0
    · rw [List.cons_append, rowsP_match hs, rowsP_match hs, rowsP_parts l r m hm]
    · have hm' : ne0 m = false := ne0_false.2 hm
      rw [List.cons_append, rowsP_row hs, rowsP_row hs, take_app, drop_app]
      by_cases h : l.dropWhile ne0 = []
      · rw [if_pos h, if_pos h, List.takeWhile_cons, List.dropWhile_cons, hm', h, rowsP_nil]
        have ht : l.takeWhile ne0 = l := by
          rcases drop_or l with h' | ⟨_, _, _, h', _⟩
          · exact h'.2.1
          · rw [h] at h'; cases h'
        simp [ht, rowsP_match hm]
      · rw [if_neg h, if_neg h, List.cons_append, rowsP_parts (l.dropWhile ne0) r m hm]
termination_by l.length
decreasing_by
  · simp
  · have := drop_le l
    simp; omega

theorem rowsP_ne (l : List St) (s : St) (hs : s ∈ l) (h : s.1 ≠ 0) : rowsP l ≠ [] := by
  match l with
  | [] => simp at hs
  | a :: l =>
    by_cases ha : a.1 = 0
    · rw [rowsP_match ha]
      rcases List.mem_cons.1 hs with rfl | hs
      · exact absurd ha h
      · exact rowsP_ne l s hs h
    · rw [rowsP_row ha]; simp

/-- A step more. -/
theorem rowsP_snoc (p : List St) (s : St) : rowsP (p ++ [s]) = if s.1 = 0 then rowsP p else if inRun p = true then (rowsP p).dropLast ++ [(rowsP p).getLastD [] ++ [s]] else rowsP p ++ [[s]] := by
  by_cases hs : s.1 = 0
  · rw [if_pos hs]
    have := rowsP_parts p [] s hs
    rw [rowsP_nil, List.append_nil] at this
    exact this
  · rw [if_neg hs]
    have hs' : ne0 s = true := ne0_true.2 hs
    match p with
    | [] => rw [List.nil_append, rowsP_row hs, inRun_nil]; simp [rowsP_nil]
    | a :: t =>
      by_cases ha : a.1 = 0
      · have ih := rowsP_snoc t s
        rw [if_neg hs] at ih
        rw [List.cons_append, rowsP_match ha, rowsP_match ha, ih]
        have e : inRun (a :: t) = inRun t := by
          cases t with
          | nil => simp [inRun, ne0, ha]
          | cons b t => simp [inRun]
        rw [e]
      · rw [List.cons_append, rowsP_row ha, rowsP_row ha, take_app, drop_app]
        rcases drop_or t with ⟨h1, h2, h3⟩ | ⟨m, r, h1, h2, h3⟩
        · rw [if_pos h1, if_pos h1, h1, h2, rowsP_nil]
          have e : inRun (a :: t) = true := by
            rcases List.eq_nil_or_concat t with rfl | ⟨t', b, rfl⟩
            · simp [inRun, ne0, ha]
            · rw [List.concat_eq_append, ← List.cons_append, inRun_snoc]
              exact h3 b (by simp)
          rw [if_pos e]
          simp [hs', rowsP_nil]
        · have hne : t.dropWhile ne0 ≠ [] := by rw [h2]; simp
          rw [if_neg hne, if_neg hne]
          have ih := rowsP_snoc (t.dropWhile ne0) s
          rw [if_neg hs] at ih
          rw [ih]
          have e : inRun (a :: t) = inRun (t.dropWhile ne0) := by
            rw [h2]
            conv => lhs; rw [h3]
            have e2 : (a :: (t.takeWhile ne0 ++ m :: r)).getLast? = (m :: r).getLast? := by
              rw [← List.cons_append, List.getLast?_append, List.getLast?_cons]
              rfl
            simp only [inRun, e2]
          rw [e]
          by_cases hr : inRun (t.dropWhile ne0) = true
          · rw [if_pos hr, if_pos hr]
            have hnr : rowsP (t.dropWhile ne0) ≠ [] := by
              rcases List.eq_nil_or_concat (t.dropWhile ne0) with h' | ⟨t', b, h'⟩
              · exact absurd h' hne
              · rw [h', List.concat_eq_append] at hr
                rw [inRun_snoc] at hr
                intro h0
                rw [h', List.concat_eq_append] at h0
                exact rowsP_ne (t' ++ [b]) b (by simp) (ne0_true.1 hr) h0
            cases hx : rowsP (t.dropWhile ne0) with
            | nil => exact absurd hx hnr
            | cons c d => simp [List.getLastD]
          · rw [if_neg hr, if_neg hr, List.cons_append]
termination_by p.length
decreasing_by
  · simp
  · have := drop_le t
    simp; omega

theorem stC_app (a b : List St) : stC (a ++ b) = stC a + stC b := by
  induction a with
  | nil => simp [stC]
  | cons s a ih => simp only [List.cons_append, stC, ih]; omega
theorem stC_run (l : List St) (h : ∀ s ∈ l, s.1 ≠ 0) : stC l = l.length := by
  induction l with
  | nil => rfl
  | cons s l ih =>
    rw [stC, if_neg (h s (by simp)), ih (fun t ht => h t (by simp [ht])), List.length_cons]
    omega
/-- Each row: not empty, no match in it, a part of the steps. -/
theorem rowsP_each (l : List St) : ∀ r ∈ rowsP l, r ≠ [] ∧ (∀ s ∈ r, s.1 ≠ 0) ∧ ∃ X Y, l = X ++ r ++ Y := by
  match l with
  | [] => rw [rowsP_nil]; simp
  | a :: l =>
    by_cases ha : a.1 = 0
    · rw [rowsP_match ha]
      intro r hr
      obtain ⟨h1, h2, X, Y, h3⟩ := rowsP_each l r hr
      exact ⟨h1, h2, a :: X, Y, by rw [h3]; simp⟩
    · rw [rowsP_row ha]
      intro r hr
      rcases List.mem_cons.1 hr with rfl | hr
      · refine ⟨by simp, fun s hs => ?_, [], l.dropWhile ne0, by simp⟩
        rcases List.mem_cons.1 hs with rfl | hs
        · exact ha
        · exact ne0_true.1 (List.all_eq_true.1 (List.all_takeWhile) s hs)
      · obtain ⟨h1, h2, X, Y, h3⟩ := rowsP_each (l.dropWhile ne0) r hr
        refine ⟨h1, h2, a :: l.takeWhile ne0 ++ X, Y, ?_⟩
        conv => lhs; rw [← List.takeWhile_append_dropWhile (p := ne0) (l := l), h3]
        simp
termination_by l.length
decreasing_by
  · simp
  · have := drop_le l
    simp; omega
/-- As many steps in all rows as aren't matches. -/
theorem rowsP_sum (l : List St) : ((rowsP l).map List.length).sum = stC l := by
  match l with
  | [] => rw [rowsP_nil]; rfl
  | a :: l =>
    by_cases ha : a.1 = 0
    · rw [rowsP_match ha, rowsP_sum l, stC, if_pos ha, Nat.zero_add]
    · rw [rowsP_row ha, List.map_cons, List.sum_cons, rowsP_sum (l.dropWhile ne0)]
      have e : stC (a :: l) = stC (a :: l.takeWhile ne0) + stC (l.dropWhile ne0) := by
        rw [← stC_app, List.cons_append, List.takeWhile_append_dropWhile]
      rw [e, stC_run (a :: l.takeWhile ne0) (fun s hs => ?_)]
      rcases List.mem_cons.1 hs with rfl | hs
      · exact ha
      · exact ne0_true.1 (List.all_eq_true.1 (List.all_takeWhile) s hs)
termination_by l.length
decreasing_by
  · simp
  · have := drop_le l
    simp; omega
theorem rowsP_len (l : List St) : (rowsP l).length ≤ l.length := by
  match l with
  | [] => rw [rowsP_nil]; simp
  | a :: l =>
    by_cases ha : a.1 = 0
    · rw [rowsP_match ha]
      have := rowsP_len l
      simp; omega
    · rw [rowsP_row ha]
      have := rowsP_len (l.dropWhile ne0)
      have := drop_le l
      simp; omega
termination_by l.length
decreasing_by
  · simp
  · have := drop_le l
    simp; omega
end Go.Proofs.YtnognphjndpgkaaDoor

/- Words of this seat: a slice value that reads as a list of numbers (int32), kept wherever old blocks are kept; the order of two lists. -/
namespace Go.Proofs.YtnognphjndpgkaaDoor
open Go.RowKit

/-- The slice value v reads as the list l of int32: nil or empty where l is empty; else its cells hold l one behind the other. -/
def Runs (w : World) (v : Value) (l : List Int) : Prop :=
  ∃ A c, v = .slice A l.length c ∧ l.length ≤ c ∧ (c ≤ maxLen ∧ (A = none → c = 0)) ∧
    (0 < l.length → ∃ b o, A = some ⟨b, o, none⟩ ∧ b < w.heap.size ∧ ∀ j, j < l.length → w.cell? ⟨b, o + j, none⟩ = some (.int .i32 (l.getD j 0)))

theorem Runs.below {w w' : World} {v : Value} {l : List Int} (h : Runs w v l) (hb : Below w.heap.size w w') : Runs w' v l := by
  obtain ⟨A, c, e, hc, hm, hx⟩ := h
  refine ⟨A, c, e, hc, hm, fun h0 => ?_⟩
  obtain ⟨b, o, eA, hlt, hcell⟩ := hx h0
  exact ⟨b, o, eA, Nat.lt_of_lt_of_le hlt hb.size, fun j hj => (hb.cell (p := ⟨b, o + j, none⟩) hlt).trans (hcell j hj)⟩

theorem Runs.nil_ (w : World) : Runs w (.slice none 0 0) [] := ⟨none, 0, rfl, by simp, by simp [maxLen], fun h => absurd h (by simp)⟩

theorem Runs.of_own {w : World} {base : Nat} {e : TypeId} {v : Value} {n : Nat} {l : List Int} (h : w.ownsRow base e 1 v n (l.map (Value.int .i32))) : Runs w v l := by
  obtain ⟨hlen, hv⟩ := h
  have hn : l.length = n := by simpa using hlen
  subst hn
  rcases hv with ⟨rfl, h0⟩ | ⟨g, cap, cur, rfl, _, hg, hle, hcap, hsz, htk⟩
  · exact ⟨none, 0, by rw [h0], by omega, by simp [maxLen], fun hp => absurd hp (by omega)⟩
  · refine ⟨_, cap, rfl, hle, ⟨hcap, fun h => by cases h⟩, fun _ => ⟨g, 0, rfl, (Array.getElem?_eq_some_iff.1 hg).1, fun j hj => ?_⟩⟩
    rw [cell_of_row w g (0 + j) cur e (0, 0) hg]
    have hj' : j < (cur.toList.take (l.length * 1)).length := by rw [htk]; simpa using hj
    have h2 : (cur.toList.take (l.length * 1))[j]? = some (Value.int .i32 (l.getD j 0)) := by
      rw [htk]; simp [List.getD_eq_getElem?_getD, hj]
    rw [List.getElem?_take] at h2
    rw [if_pos (by omega)] at h2
    simpa using h2

/-- -1, 0, 1: by the first two that differ, or as one has more. -/
def cmpL : List Int → List Int → Int
  | [], [] => 0
  | [], _ :: _ => -1
  | _ :: _, [] => 1
  | a :: x, b :: y => if a < b then -1 else if b < a then 1 else cmpL x y

theorem cmpL_drop {x y : List Int} {k : Nat} (hx : k < x.length) (hy : k < y.length) :
    cmpL (x.drop k) (y.drop k) = if x.getD k 0 < y.getD k 0 then -1 else if y.getD k 0 < x.getD k 0 then 1 else cmpL (x.drop (k + 1)) (y.drop (k + 1)) := by
  rw [List.drop_eq_getElem_cons hx, List.drop_eq_getElem_cons hy]
  simp [cmpL, List.getD_eq_getElem?_getD, hx, hy]
theorem cmpL_lt {x y : List Int} (hx : x = []) (hy : 0 < y.length) : cmpL x y = -1 := by
  subst hx; cases y with
  | nil => simp at hy
  | cons _ _ => rfl
theorem cmpL_gt {x y : List Int} (hx : 0 < x.length) (hy : y = []) : cmpL x y = 1 := by
  subst hy; cases x with
  | nil => simp at hx
  | cons _ _ => rfl
theorem cmpL_eq {x y : List Int} : cmpL x y = 0 ↔ x = y := by
  induction x generalizing y with
  | nil => cases y <;> simp [cmpL]
  | cons a x ih =>
    cases y with
    | nil => simp [cmpL]
    | cons b y =>
      simp only [cmpL]
      by_cases h1 : a < b
      · simp [h1]; intro h; omega
      · by_cases h2 : b < a
        · simp [h1, h2]; intro h; omega
        · have : a = b := by omega
          simp [ih, this]
theorem cmpL_bd (x y : List Int) : cmpL x y = -1 ∨ cmpL x y = 0 ∨ cmpL x y = 1 := by
  induction x generalizing y with
  | nil => cases y <;> simp [cmpL]
  | cons a x ih =>
    cases y with
    | nil => simp [cmpL]
    | cons b y =>
      simp only [cmpL]
      split
      · simp
      · split
        · simp
        · exact ih y

theorem ret_int {k : IntKind} {a b : Int} (h : a = b) : Ending.returned (.int k a) = .returned (.int k b) := by rw [h]
theorem ret_bool {a b : Bool} (h : a = b) : Ending.returned (.bool a) = .returned (.bool b) := by rw [h]
/-- Nothing was done but some draws of an order. -/
def Drawn (w w' : World) : Prop := ∃ q, w' = w.drewN q
theorem Drawn.refl (w : World) : Drawn w w := ⟨0, rfl⟩
theorem Drawn.of (w : World) (a : Nat) : Drawn w (w.drewN a) := ⟨a, rfl⟩
theorem Drawn.of2 (w : World) (a b : Nat) : Drawn w ((w.drewN a).drewN b) := ⟨a + b, by rw [World.drewN_drewN]⟩
theorem Drawn.of3 (w : World) (a b c : Nat) : Drawn w (((w.drewN a).drewN b).drewN c) := ⟨a + b + c, by simp only [World.drewN_drewN, Nat.add_assoc]⟩
theorem Drawn.trans {a b c : World} (h : Drawn a b) (k : Drawn b c) : Drawn a c := by
  obtain ⟨x, rfl⟩ := h; obtain ⟨y, rfl⟩ := k; exact Drawn.of2 _ _ _
theorem below_draws {B : Nat} {a w : World} (h : Below B a w) (n : Nat) : Below B a (w.drewN n) := ⟨h.os, h.tape, h.output, h.size, h.block⟩
theorem Drawn.below {w w' : World} (h : Drawn w w') (B : Nat) : Below B w w' := by obtain ⟨q, rfl⟩ := h; exact below_draws (Below.refl _ _) q
end Go.Proofs.YtnognphjndpgkaaDoor

/- Rows of numbers ([]int) that a call has made for itself, and rows of such rows. -/
namespace Go.Proofs.YtnognphjndpgkaaDoor
open Go.RowKit

def cellsN (l : List Nat) : Array Value := (l.map fun x : Nat => Value.int .i64 (x : Int)).toArray
/-- Block g is a row of numbers. -/
def RowN (w : World) (g : Nat) (l : List Nat) : Prop := w.heap[g]? = some (.cells (cellsN l) 3)
theorem RowN.cell {w : World} {g : Nat} {l : List Nat} (h : RowN w g l) (j : Nat) (hj : j < l.length) : w.cell? ⟨g, j, none⟩ = some (.int .i64 ((l.getD j 0 : Nat) : Int)) := by
  rw [cell_of_row w g j (cellsN l) _ (0, 0) h]
  simp [cellsN, List.getD_eq_getElem?_getD, hj]
theorem RowN.frozen {w : World} {g : Nat} {l : List Nat} (h : RowN w g l) (j : Nat) : w.frozen? ⟨g, j, none⟩ = false := by
  have h' : w.heap[g]? = some (.cells (cellsN l) 3 (0, 0)) := h
  simp [World.frozen?, h']
theorem RowN.lt {w : World} {g : Nat} {l : List Nat} (h : RowN w g l) : g < w.heap.size := (Array.getElem?_eq_some_iff.1 h).1
theorem RowN.set {w : World} {g : Nat} {l : List Nat} (h : RowN w g l) (j x : Nat) : RowN (w.setCell ⟨g, j, none⟩ (.int .i64 (x : Int))) g (l.set j x) := by
  have h' : w.heap[g]? = some (.cells (cellsN l) 3 (0, 0)) := h
  have e : cellsN (l.set j x) = (cellsN l).setIfInBounds j (.int .i64 (x : Int)) := by simp [cellsN, List.map_set]
  show _ = some (Obj.cells (cellsN (l.set j x)) _)
  rw [setCell_eq_setRow w g j (cellsN l) _ (0, 0) _ h', e]
  exact setRow_heap w g _ _ _ (0, 0) h'
theorem RowN.below {w w' : World} {g B : Nat} {l : List Nat} (h : RowN w g l) (hb : Below B w w') (hB : g < B) : RowN w' g l := (hb.block g hB).trans h

theorem infoI : (Tryd.prog.info? 3).map (fun i => (i.zero, i.size, i.bytes)) = some (some (.int .i64 0), 1, 8) := by kernel_rfl
/-- make([]int, n). -/
theorem make_ints (w : World) (n : Nat) (hn : n ≤ 1000000) : (Instr.makeSlice 96 (.int .i64 (n : Int)) (.int .i64 (n : Int))).run Tryd.prog w =
    .ok (.slice (some ⟨w.heap.size, 0, none⟩) n n) (w.alloc (.cells (cellsN (List.replicate n 0)) 3)) := by
  obtain ⟨i0, hi, hz0, hz1, hz2⟩ := info_parts infoI
  have h := run_make (P := Tryd.prog) w 96 3 i0 _ Tryd.underlying96 hi hz0 .i64 .i64 (n : Int) (n : Int) (by omega) (Int.le_refl _) (by rw [hz2]; omega) (by omega)
  rw [h, hz1]
  have e : madeCells (Value.int .i64 0).cells (n * 1) = cellsN (List.replicate n 0) := by
    rw [Nat.mul_one]
    apply Array.ext
    · simp [size_madeCells, cellsN]
    · intro i h1 h2
      simp [madeCells, cellsN, Value.cells, Nat.mod_one]
  simp only [Int.toNat_natCast]
  rw [e]

end Go.Proofs.YtnognphjndpgkaaDoor

/- The table of two rows' beginnings, as errataref04.table makes it. -/
namespace Go.Proofs.YtnognphjndpgkaaDoor
open Go.RowKit

/-- How far two beginnings are apart. -/
def tab (x y : List Int) (i j : Nat) : Nat := levR (x.take i).reverse (y.take j).reverse

theorem tab_zero (x y : List Int) (j : Nat) (hj : j ≤ y.length) : tab x y 0 j = j := by
  rw [tab, List.take_zero, List.reverse_nil, levR_nil, List.length_reverse, List.length_take]
  omega
theorem tab_zero' (x y : List Int) (i : Nat) (hi : i ≤ x.length) : tab x y i 0 = i := by
  rw [tab, List.take_zero, List.reverse_nil, levR_nil', List.length_reverse, List.length_take]
  omega
theorem rev_take (x : List Int) (i : Nat) (hi : i < x.length) : (x.take (i + 1)).reverse = x.getD i 0 :: (x.take i).reverse := by
  rw [List.take_add_one, List.reverse_append]
  simp [List.getElem?_eq_getElem hi, List.getD_eq_getElem?_getD]
theorem tab_step (x y : List Int) (i j : Nat) (hi : i < x.length) (hj : j < y.length) :
    tab x y (i + 1) (j + 1) = min (tab x y i j + if x.getD i 0 = y.getD j 0 then 0 else 1) (min (tab x y i (j + 1) + 1) (tab x y (i + 1) j + 1)) := by
  rw [tab, rev_take x i hi, rev_take y j hj, levR_cons, ← rev_take x i hi, ← rev_take y j hj]
  rfl
theorem tab_le (x y : List Int) (i j : Nat) : tab x y i j ≤ x.length + y.length := by
  have := levR_max (x.take i).reverse (y.take j).reverse
  rw [List.length_reverse, List.length_reverse, List.length_take, List.length_take] at this
  unfold tab
  omega

/-- Row i of the table. -/
def rowL (x y : List Int) (M i : Nat) : List Nat := (List.range M).map (tab x y i)
theorem rowL_length (x y : List Int) (M i : Nat) : (rowL x y M i).length = M := by simp [rowL]
theorem rowL_getD (x y : List Int) (M i j : Nat) (hj : j < M) : (rowL x y M i).getD j 0 = tab x y i j := by
  simp [rowL, List.getD_eq_getElem?_getD, hj]
theorem set_mid (gs : List Nat) (N i g : Nat) (hl : gs.length = i) (hi : i < N) : (gs.map some ++ List.replicate (N - i) (none : Option Nat)).set i (some g) = (gs ++ [g]).map some ++ List.replicate (N - (i + 1)) none := by
  obtain ⟨r, hr⟩ : ∃ r, N - i = r + 1 := ⟨N - i - 1, by omega⟩
  have h2 : N - (i + 1) = r := by omega
  rw [hr, h2, List.replicate_succ, List.set_append, List.length_map, hl, if_neg (by omega), Nat.sub_self]
  simp

theorem getD_set (l : List Nat) (i j x : Nat) (hi : i < l.length) : (l.set i x).getD j 0 = if i = j then x else l.getD j 0 := by
  rw [List.getD_eq_getElem?_getD, List.getD_eq_getElem?_getD, List.getElem?_set]
  by_cases h : i = j
  · subst h; simp [hi]
  · simp [h]

end Go.Proofs.YtnognphjndpgkaaDoor

/- The table of align: whether two beginnings end in one rune, and their distance by those above and on the left. -/
namespace Go.Proofs.YtnognphjndpgkaaDoor
open Go.RowKit

/-- A table as a value: what was read, what should have been, the rows. -/
def tblV (u v d : Value) : Value := .agg #[u, v, d]
def sameB (x y : List Int) (i j : Nat) : Bool := decide (0 < i ∧ 0 < j ∧ x.getD (i - 1) 0 = y.getD (j - 1) 0)

/-- The three cells of the table ahead of one, where there are such. -/
def Ahead (w : World) (d : Value) (x y : List Int) (m i j : Nat) : Prop :=
  ∀ i' j' : Nat, i = i' + 1 → j = j' + 1 → ∃ G b0 b1 dn dc, d = .slice (some ⟨G, 0, none⟩) dn dc ∧ i < dn ∧ dn ≤ 1000 ∧
    w.cell? ⟨G, i', none⟩ = some (.slice (some ⟨b0, 0, none⟩) (m + 1) (m + 1)) ∧ w.cell? ⟨G, i, none⟩ = some (.slice (some ⟨b1, 0, none⟩) (m + 1) (m + 1)) ∧
    w.cell? ⟨b0, j', none⟩ = some (.int .i64 (tab x y i' j' : Nat)) ∧ w.cell? ⟨b0, j, none⟩ = some (.int .i64 (tab x y i' j : Nat)) ∧ w.cell? ⟨b1, j', none⟩ = some (.int .i64 (tab x y i j' : Nat))
theorem cell_lt {w : World} {a : Addr} {v : Value} (hc : w.cell? a = some v) : a.block < w.heap.size := by
  rcases Nat.lt_or_ge a.block w.heap.size with h' | h'
  · exact h'
  · simp [World.cell?, Array.getElem?_eq_none h'] at hc

theorem tab_same (x y : List Int) (i j : Nat) (hi : i < x.length) (hj : j < y.length) (h : x.getD i 0 = y.getD j 0) : tab x y (i + 1) (j + 1) = tab x y i j := by
  unfold tab
  rw [rev_take x i hi, rev_take y j hj, h, levR_same]

end Go.Proofs.YtnognphjndpgkaaDoor

/- The runes of a text, plain: no program here. -/
namespace Go.Proofs.YtnognphjndpgkaaDoor
open Go.Lib

/-- The bytes begin with no rune. -/
def badB (l : List UInt8) : Bool := decide ((decodeL l).1 = 65533 ∧ (decodeL l).2 = 1)
/-- What the iterator hands on: the runes, and -1 where the bytes are no text. -/
def itemsF : Nat → List UInt8 → List Int
  | 0, _ => []
  | n + 1, l => if l = [] then [] else if badB l then [-1] else ((decodeL l).1 : Int) :: itemsF n (l.drop (decodeL l).2)
def items (l : List UInt8) : List Int := itemsF l.length l

theorem itemsF_nil : ∀ n, itemsF n [] = []
  | 0 => rfl
  | _ + 1 => by simp [itemsF]
theorem itemsF_fuel : ∀ (n m : Nat) (l : List UInt8), l.length ≤ n → l.length ≤ m → itemsF n l = itemsF m l
  | 0, m, l, hn, _ => by
    have : l = [] := List.eq_nil_of_length_eq_zero (by omega)
    subst this; rw [itemsF_nil, itemsF_nil]
  | n + 1, 0, l, _, hm => by
    have : l = [] := List.eq_nil_of_length_eq_zero (by omega)
    subst this; rw [itemsF_nil, itemsF_nil]
  | n + 1, m + 1, l, hn, hm => by
    unfold itemsF
    by_cases hne : l = []
    · simp [hne]
    · have hw := decodeL_width l
      have hl : 0 < l.length := List.length_pos_iff.2 hne
      rw [if_neg hne, if_neg hne, itemsF_fuel n m (l.drop (decodeL l).2) (by rw [List.length_drop]; omega) (by rw [List.length_drop]; omega)]
theorem items_nil : items [] = [] := rfl
theorem items_step (l : List UInt8) (hne : l ≠ []) : items l = if badB l then [-1] else ((decodeL l).1 : Int) :: items (l.drop (decodeL l).2) := by
  have hl : 0 < l.length := List.length_pos_iff.2 hne
  have hw := decodeL_width l
  obtain ⟨n, hn⟩ : ∃ n, l.length = n + 1 := ⟨l.length - 1, by omega⟩
  unfold items
  rw [hn]
  show (if l = [] then [] else _) = _
  rw [if_neg hne, itemsF_fuel n (l.drop (decodeL l).2).length _ (by rw [List.length_drop]; omega) (Nat.le_refl _)]
theorem valid_step (l : List UInt8) (hne : l ≠ []) : validD l = if badB l then false else validD (l.drop (decodeL l).2) := by
  rw [validD_step l hne]; unfold badB
  by_cases h : (decodeL l).1 = 65533 ∧ (decodeL l).2 = 1 <;> simp [h]

/-- An induction along the runes. -/
theorem byRunes {C : List UInt8 → Prop} (h0 : C []) (h1 : ∀ l, l ≠ [] → badB l = true → C l) (h2 : ∀ l, l ≠ [] → badB l = false → C (l.drop (decodeL l).2) → C l) : ∀ l, C l := by
  intro l
  obtain ⟨n, hn⟩ : ∃ n, l.length = n := ⟨_, rfl⟩
  induction n using Nat.strongRecOn generalizing l with
  | _ n ih =>
    by_cases hne : l = []
    · subst hne; exact h0
    · cases hb : badB l with
      | true => exact h1 l hne hb
      | false =>
        refine h2 l hne hb (ih _ ?_ _ rfl)
        have hw := decodeL_width l
        have hl : 0 < l.length := List.length_pos_iff.2 hne
        rw [List.length_drop]; omega

theorem items_valid (l : List UInt8) : (∀ x ∈ items l, x ≠ -1) ↔ validD l = true := by
  refine byRunes (C := fun l => (∀ x ∈ items l, x ≠ -1) ↔ validD l = true) ?_ ?_ ?_ l
  · simp [items_nil, validD_nil]
  · intro l hne hb
    rw [items_step l hne, valid_step l hne, hb]; simp
  · intro l hne hb ih
    rw [items_step l hne, valid_step l hne, hb]
    simp only [Bool.false_eq_true, if_false, List.mem_cons, forall_eq_or_imp, ih]
    constructor
    · exact fun h => h.2
    · exact fun h => ⟨by omega, h⟩

theorem items_le (l : List UInt8) : (items l).length ≤ l.length := by
  refine byRunes (C := fun l => (items l).length ≤ l.length) ?_ ?_ ?_ l
  · simp [items_nil]
  · intro l hne hb
    have hl : 0 < l.length := List.length_pos_iff.2 hne
    rw [items_step l hne, hb]; simp; omega
  · intro l hne hb ih
    have hw := decodeL_width l
    have hl : 0 < l.length := List.length_pos_iff.2 hne
    rw [items_step l hne, hb]
    rw [List.length_drop] at ih
    simp; omega

theorem decodeL_rune (l : List UInt8) : Lib.validRune ((decodeL l).1 : Int) = true := by
  rw [decodeL_N]
  have k0 := (l.getD 0 0).toNat_lt
  have k1 := (l.getD 1 0).toNat_lt
  have k2 := (l.getD 2 0).toNat_lt
  have k3 := (l.getD 3 0).toNat_lt
  unfold Lib.validRune
  rcases decodeN_shape l.length (l.getD 0 0).toNat (l.getD 1 0).toNat (l.getD 2 0).toNat (l.getD 3 0).toNat with ⟨c, e⟩ | ⟨c1, c2, c3, cv, e⟩ | ⟨c1, c2, c3, c4, cv, cs, e⟩ | ⟨c1, c2, c3, c4, c5, cv, cw, e⟩ | e
  all_goals (rw [e]; dsimp only; simp only [decide_eq_true_eq]; omega)

theorem items_runes (l : List UInt8) (hv : validD l = true) : ∀ x ∈ items l, Lib.validRune x = true := by
  revert hv
  refine byRunes (C := fun l => validD l = true → ∀ x ∈ items l, Lib.validRune x = true) ?_ ?_ ?_ l
  · simp [items_nil]
  · intro l hne hb hv
    rw [valid_step l hne, hb] at hv; simp at hv
  · intro l hne hb ih hv
    rw [valid_step l hne, hb] at hv
    rw [items_step l hne, hb]
    simp only [Bool.false_eq_true, if_false] at hv ⊢
    intro x hx
    rcases List.mem_cons.1 hx with rfl | hx
    · exact decodeL_rune l
    · exact ih hv x hx

/-- The text of runes. -/
def encL (l : List Int) : List UInt8 := l.flatMap encodeRune
theorem encL_nil : encL [] = [] := rfl
theorem encL_cons (r : Int) (l : List Int) : encL (r :: l) = encodeRune r ++ encL l := rfl
theorem encL_append (x y : List Int) : encL (x ++ y) = encL x ++ encL y := by simp [encL]

/-- What was decoded is encoded as it was. -/
theorem enc_items (l : List UInt8) (hv : validD l = true) : encL (items l) = l := by
  revert hv
  refine byRunes (C := fun l => validD l = true → encL (items l) = l) ?_ ?_ ?_ l
  · simp [items_nil, encL]
  · intro l hne hb hv
    rw [valid_step l hne, hb] at hv; simp at hv
  · intro l hne hb ih hv
    rw [valid_step l hne, hb] at hv
    rw [items_step l hne, hb]
    simp only [Bool.false_eq_true, if_false] at hv ⊢
    rw [encL_cons, ih hv, encode_decode l hne (by unfold badB at hb; simpa using hb), List.take_append_drop]

theorem byteNat (z : Int) (n : Nat) (h : z = n) (hn : n < 256) : (z.toNat.toUInt8).toNat = n := by subst h; simp; omega
theorem decodeN_one (n m c d e : Nat) (h : n ≤ 127) : decodeN m n c d e = (n, 1) := by unfold decodeN; rw [if_pos (by omega)]
theorem decodeN_two (n m c d : Nat) (h0 : 128 ≤ n) (h1 : n ≤ 2047) (hm : 1 < m) : decodeN m (192 + n / 64) (128 + n % 64) c d = (n, 2) := by
  unfold decodeN; rw [if_neg (by omega), if_pos (by omega), if_pos (by omega), Prod.mk.injEq]; exact ⟨by omega, rfl⟩
theorem decodeN_three (n m d : Nat) (h0 : 2048 ≤ n) (h1 : n ≤ 65535) (h2 : n < 55296 ∨ 57343 < n) (hm : 2 < m) : decodeN m (224 + n / 4096) (128 + n / 64 % 64) (128 + n % 64) d = (n, 3) := by
  unfold decodeN; rw [if_neg (by omega), if_neg (by omega), if_pos (by omega), if_pos (by omega), Prod.mk.injEq]; exact ⟨by omega, rfl⟩
theorem decodeN_four (n m : Nat) (h0 : 65536 ≤ n) (h1 : n ≤ 1114111) (hm : 3 < m) : decodeN m (240 + n / 262144) (128 + n / 4096 % 64) (128 + n / 64 % 64) (128 + n % 64) = (n, 4) := by
  unfold decodeN; rw [if_neg (by omega), if_neg (by omega), if_neg (by omega), if_pos (by omega), if_pos (by omega), Prod.mk.injEq]; exact ⟨by omega, rfl⟩

/-- What was encoded is decoded: the first rune of an encoded rune and whatever follows. -/
theorem decode_encode (r : Int) (t : List UInt8) (h : Lib.validRune r = true) : decodeL (encodeRune r ++ t) = (r.toNat, (encodeRune r).length) := by
  have hv : (0 ≤ r ∧ r < 0xD800) ∨ (0xDFFF < r ∧ r ≤ 0x10FFFF) := by simpa [Lib.validRune] using h
  rw [decodeL_N]
  unfold encodeRune
  obtain ⟨n, rfl⟩ : ∃ n : Nat, r = n := ⟨r.toNat, by omega⟩
  by_cases a : n ≤ 127
  · rw [encodeRuneZ_one (by omega) (by omega)]
    simp only [List.map_cons, List.map_nil, List.cons_append, List.nil_append, List.length_cons, List.getD_cons_zero, List.getD_cons_succ, List.length_nil]
    rw [byteNat _ n rfl (by omega), decodeN_one _ _ _ _ _ (by omega)]; simp
  · by_cases b : n ≤ 2047
    · rw [encodeRuneZ_two (by omega) (by omega)]
      simp only [List.map_cons, List.map_nil, List.cons_append, List.nil_append, List.length_cons, List.getD_cons_zero, List.getD_cons_succ, List.length_nil]
      rw [byteNat _ (192 + n / 64) (by omega) (by omega), byteNat _ (128 + n % 64) (by omega) (by omega), decodeN_two _ _ _ _ (by omega) (by omega) (by omega)]; simp
    · by_cases c : n ≤ 65535
      · rw [encodeRuneZ_three (by omega)]
        simp only [List.map_cons, List.map_nil, List.cons_append, List.nil_append, List.length_cons, List.getD_cons_zero, List.getD_cons_succ, List.length_nil]
        rw [byteNat _ (224 + n / 4096) (by omega) (by omega), byteNat _ (128 + n / 64 % 64) (by omega) (by omega), byteNat _ (128 + n % 64) (by omega) (by omega), decodeN_three _ _ _ (by omega) (by omega) (by omega) (by omega)]; simp
      · rw [encodeRuneZ_four (by omega) (by omega)]
        simp only [List.map_cons, List.map_nil, List.cons_append, List.nil_append, List.length_cons, List.getD_cons_zero, List.getD_cons_succ, List.length_nil]
        rw [byteNat _ (240 + n / 262144) (by omega) (by omega), byteNat _ (128 + n / 4096 % 64) (by omega) (by omega), byteNat _ (128 + n / 64 % 64) (by omega) (by omega), byteNat _ (128 + n % 64) (by omega) (by omega), decodeN_four _ _ (by omega) (by omega) (by omega)]; simp

theorem encodeRune_len (r : Int) : 1 ≤ (encodeRune r).length ∧ (encodeRune r).length ≤ 4 := by
  have := encodeRuneZ_length r; simpa [encodeRune] using this
theorem encodeRune_len_valid (r : Int) (h : Lib.validRune r = true) (h1 : (encodeRune r).length = 1) : r ≠ 65533 := by
  rintro rfl
  rw [encodeRune, encodeRuneZ_three (by omega)] at h1; simp at h1
theorem valid_nonneg {r : Int} (h : Lib.validRune r = true) : 0 ≤ r := by
  have hv : (0 ≤ r ∧ r < 0xD800) ∨ (0xDFFF < r ∧ r ≤ 0x10FFFF) := by simpa [Lib.validRune] using h
  omega
/-- One rune in front of whatever bytes. -/
theorem items_enc (r : Int) (t : List UInt8) (h : Lib.validRune r = true) : items (encodeRune r ++ t) = r :: items t ∧ validD (encodeRune r ++ t) = validD t := by
  have hl := encodeRune_len r
  have hne : encodeRune r ++ t ≠ [] := by intro e; have := congrArg List.length e; rw [List.length_append, List.length_nil] at this; omega
  have hd := decode_encode r t h
  have hb : badB (encodeRune r ++ t) = false := by
    unfold badB; rw [hd]
    simp only [decide_eq_false_iff_not]
    rintro ⟨a, b⟩
    have h0 := valid_nonneg h
    exact encodeRune_len_valid r h b (by omega)
  rw [items_step _ hne, valid_step _ hne, hb, hd]
  simp only [Bool.false_eq_true, if_false]
  rw [List.drop_left]
  have h0 := valid_nonneg h
  exact ⟨by rw [Int.toNat_of_nonneg h0], rfl⟩
theorem items_encL (l : List Int) (t : List UInt8) (h : ∀ r ∈ l, Lib.validRune r = true) : items (encL l ++ t) = l ++ items t ∧ validD (encL l ++ t) = validD t := by
  induction l with
  | nil => simp [encL]
  | cons r l ih =>
    rw [encL_cons, List.append_assoc]
    have h1 := items_enc r (encL l ++ t) (h r (by simp))
    have h2 := ih (fun x hx => h x (by simp [hx]))
    rw [h1.1, h1.2, h2.1, h2.2]; simp
/-- What is encoded is a text, and decoded as it was. -/
theorem items_of_enc (l : List Int) (h : ∀ r ∈ l, Lib.validRune r = true) : items (encL l) = l ∧ validD (encL l) = true := by
  have := items_encL l [] h
  simpa [items_nil, validD_nil] using this
/-- Two texts one behind the other, the first a text. -/
theorem items_join (a b : List UInt8) (ha : validD a = true) : items (a ++ b) = items a ++ items b ∧ validD (a ++ b) = validD b := by
  have h := items_encL (items a) b (items_runes a ha)
  rwa [enc_items a ha] at h
theorem encL_le (l : List Int) : (encL l).length ≤ 4 * l.length := by
  induction l with
  | nil => simp [encL]
  | cons r l ih => rw [encL_cons, List.length_append, List.length_cons]; have := encodeRune_len r; omega
theorem items_eq_nil (l : List UInt8) : items l = [] ↔ l = [] := by
  constructor
  · intro h
    by_cases hne : l = []
    · exact hne
    · rw [items_step l hne] at h; split at h <;> simp at h
  · rintro rfl; rfl
/-- A letter. -/
def letterB (r : Int) : Bool := decide ((65 ≤ r ∧ r ≤ 90) ∨ (97 ≤ r ∧ r ≤ 122) ∨ (192 ≤ r ∧ Lib.validRune r = true ∧ r ≠ 215 ∧ r ≠ 247 ∧ ¬ (8192 ≤ r ∧ r ≤ 8303)))
end Go.Proofs.YtnognphjndpgkaaDoor

/- The runes that runesOf hands on: the iterator's contract, for every text, and for bytes that are none. -/
namespace Go.Proofs.YtnognphjndpgkaaDoor
open Go.RowKit Go.Shelf
attribute [local go_sem] Oper.semAt_some

/-- The two tables of unicode/utf8, as they are laid. -/
abbrev Tabs (w : World) : Prop := Lib.Utf8Tabs 0 1 w
theorem Tabs.below {w w' : World} (h : Tabs w) (hb : Below w.heap.size w w') : Tabs w' := Utf8Tabs_below h hb

theorem decodeGo_at (s : ByteArray) (k : Nat) (h : k < s.size) : Lib.decodeGo (s.extract k s.size) = Lib.decodeL (s.data.toList.drop k) := by
  have hsz : ¬ (s.extract k s.size).size = 0 := by simp; omega
  unfold Lib.decodeGo Lib.decodeL
  rw [if_neg hsz]
  congr 1
  have := Lib.extract_to_end s k
  rw [← this]
theorem drop_ne (s : ByteArray) (k : Nat) (h : k < s.size) : s.data.toList.drop k ≠ [] := by
  intro e
  have := congrArg List.length e
  rw [List.length_drop, List.length_nil, ← Lib.size_eq] at this
  omega
theorem grown_none {w w' : World} (h : Below w.heap.size w w') : w.grownBy w' none := ⟨h.os, h.tape, h.output, h.size, fun k hk _ => h.block k hk⟩

/-- What a round keeps: all below n₀, and the box of the text. -/
def Keep (n₀ Bs : Nat) (W W' : World) : Prop := Below n₀ W W' ∧ W'.heap[Bs]? = W.heap[Bs]?
theorem Keep.refl (n₀ Bs : Nat) (W : World) : Keep n₀ Bs W W := ⟨Below.refl _ _, rfl⟩
theorem Keep.trans {n₀ Bs : Nat} {A B C : World} (h : Keep n₀ Bs A B) (k : Keep n₀ Bs B C) : Keep n₀ Bs A C := ⟨h.1.trans k.1, k.2.trans h.2⟩
theorem Keep.of_below {n₀ Bs : Nat} {A B : World} (h : Below A.heap.size A B) (hn : n₀ ≤ A.heap.size) (hB : Bs < A.heap.size) : Keep n₀ Bs A B := ⟨h.mono hn, h.block Bs hB⟩
theorem keepK_b {n₀ Bs : Nat} {w : World} (hn : n₀ ≤ w.heap.size) (hBs : Bs < w.heap.size) (W : World) (l : Nat) (o o' : Obj) (hl : w.heap.size ≤ l) (h : W.heap[l]? = some o) (h1 : o.isCells = false) (h2 : o.isWalk = false) : Keep n₀ Bs W (W.putObj l o') :=
  ⟨belowK_b hn W l o o' hl h h1 h2, World.putObj_heap_other (fun e => by omega)⟩

set_option maxRecDepth 100000 in
set_option maxHeartbeats 2000000 in
theorem iter_in (n : Nat) (hn : 1 ≤ n) (l Bs n₀ : Nat) (s : ByteArray) (hs : s.size ≤ maxLen) (J Jx : List Int → World → Prop)
    (W : World) (hJ : AbidesFrom W.heap.size J)
    (hY : ∀ pre x W1, J pre W1 → pre.length < s.size → YieldAt Fence.wide (n - 1) Tryd.prog l #[.int .i32 x] W1 fun e W' =>
      (e = .returned (.bool true) ∧ J (pre ++ [x]) W' ∧ Keep n₀ Bs W1 W') ∨ (e = .returned (.bool false) ∧ Jx (pre ++ [x]) W'))
    (hn0 : n₀ ≤ W.heap.size) (hBs : Bs < W.heap.size) (hT0 : Tabs W) (hlow : 0 < n₀ ∧ 1 < n₀)
    (hc : W.cell? ⟨Bs, 0, none⟩ = some (.string s)) (h0 : J [] W) :
    CallsIn Fence.wide n Tryd.prog 79 #[.func (.yield l) #[] #[], .pointer (some ⟨Bs, 0, none⟩)] W fun e W' => (∃ v, e = .returned v) ∧
      ((∃ ys, ys = items s.data.toList ∧ J ys W') ∨ (∃ pre, pre <+: items s.data.toList ∧ Jx pre W')) := by
  unfold maxLen at hs
  refine callsIn_of_wp Tryd.func79 rfl trivial ?_ rfl
  simp only [Tryd.ntmps79, List.size_toArray, List.length_cons, List.length_nil, Nat.reduceAdd, Nat.reduceSub, Array.replicate_succ, Array.replicate_zero, List.push_toArray, List.append_toArray, List.nil_append, List.cons_append]
  gi_wp2
  gi_loopw [3] (fun p wr => ∃ (k : Nat) (pre : List Int), p = .int .i64 k ∧ k ≤ s.size ∧ pre.length ≤ k ∧ Hid (items s.data.toList = pre ++ items (s.data.toList.drop k)) ∧ J pre wr ∧ Keep n₀ Bs W wr)
    (fun p _ => s.size - (intOf p).toNat)
  case atStart => exact ⟨0, [], rfl, Nat.zero_le _, Nat.le_refl _, Lib.hid (by simp), h0, Keep.refl _ _ _⟩
  case round =>
    obtain ⟨k, pre, rfl, hk, hpk, HI, hJs, hKB⟩ := hrel
    have hB := hKB.1
    have hcell : wr.cell? ⟨Bs, 0, none⟩ = some (.string s) := (World.cell?_of_block hKB.2).trans hc
    have hT : Tabs wr := ⟨fun c h => (hB.cell (p := ⟨_, c, none⟩) hlow.1).trans (hT0.1 c h), fun i h => ⟨(hB.cell (p := ⟨_, 2 * i, none⟩) hlow.2).trans (hT0.2 i h).1, (hB.cell (p := ⟨_, 2 * i + 1, none⟩) hlow.2).trans (hT0.2 i h).2⟩⟩
    by_cases hlt : k < s.size
    · have hd := decodeGo_at s k hlt
      have hne := drop_ne s k hlt
      have hst := items_step _ hne
      have hle := Lib.decodeL_le _ hne
      have hwd := Lib.decodeL_width (s.data.toList.drop k)
      rw [List.length_drop, ← Lib.size_eq] at hle
      have C := Lib.hid (Tryd.utf8_DecodeRuneInString (s.extract k s.size) wr hT)
      rw [hd] at C
      have hbd : badB (s.data.toList.drop k) = decide ((Lib.decodeL (s.data.toList.drop k)).1 = 65533 ∧ (Lib.decodeL (s.data.toList.drop k)).2 = 1) := rfl
      have hdd : items ((s.data.toList.drop k).drop (Lib.decodeL (s.data.toList.drop k)).2) = items (s.data.toList.drop (k + (Lib.decodeL (s.data.toList.drop k)).2)) := by rw [List.drop_drop]
      rw [hdd] at hst
      obtain ⟨R, hR⟩ : ∃ R, (Lib.decodeL (s.data.toList.drop k)).1 = R := ⟨_, rfl⟩
      obtain ⟨K, hK⟩ : ∃ K, (Lib.decodeL (s.data.toList.drop k)).2 = K := ⟨_, rfl⟩
      rw [hR, hK] at C hst hbd
      rw [hK] at hle hwd
      rw [hbd] at hst
      have HS := Lib.hid hst
      clear hst hbd hdd hR hK hd hne
      by_cases hbad : R = 65533 ∧ K = 1
      · obtain ⟨rfl, rfl⟩ := hbad
        gi_wp2_with (refine ⟨trivial, ?_⟩; gi_at_call 80; refine (callsIn_wide.2 C.out).mono ?_; rintro e w1 ⟨rfl, hb1⟩; have hJ1 : J pre w1 := hJ _ _ _ none hJs (grown_none hb1) (fun _ h => by cases h); obtain ⟨fn, tmps, assign, body, hy, hR⟩ := hY pre (-1) w1 hJ1 (by omega))
        refine hR.mono ?_
        rintro e W3 (⟨rfl, hJ3, hk3⟩ | ⟨rfl, hJx3⟩)
        · gi_wp2
          refine bodyPost_ret (results_none rfl _ _ _) rfl ?_
          exact ⟨⟨_, rfl⟩, .inl ⟨pre ++ [-1], by rw [HI.out, HS.out]; simp, hJ3⟩⟩
        · gi_wp2
          refine bodyPost_ret (results_none rfl _ _ _) rfl ?_
          exact ⟨⟨_, rfl⟩, .inr ⟨pre ++ [-1], by rw [HI.out, HS.out]; simp, hJx3⟩⟩
      · have HS2 : Hid (items (s.data.toList.drop k) = (R : Int) :: items (s.data.toList.drop (k + K))) := Lib.hid (by rw [HS.out]; simp [hbad])
        by_cases hr : R = 65533
        · subst hr
          have hk1 : ((K : Int) == 1) = false := by simp; omega
          clear hbad
          gi_wp2_with (refine ⟨trivial, ?_⟩; gi_at_call 80; refine (callsIn_wide.2 C.out).mono ?_; rintro e w1 ⟨rfl, hb1⟩; have hJ1 : J pre w1 := hJ _ _ _ none hJs (grown_none hb1) (fun _ h => by cases h); have hB1 : Keep n₀ Bs W w1 := hKB.trans (Keep.of_below hb1 (Nat.le_trans hn0 hB.size) (Nat.lt_of_lt_of_le hBs hB.size)); obtain ⟨fn, tmps, assign, body, hy, hR⟩ := hY pre 65533 w1 hJ1 (by omega))
          refine hR.mono ?_
          rintro e W3 (⟨rfl, hJ3, hk3⟩ | ⟨rfl, hJx3⟩)
          · gi_wp2
            go_roundw
            case rel => exact ⟨k + K, pre ++ [65533], by go_num, by omega, by simp; omega, Lib.hid (by rw [HI.out, HS2.out]; simp), hJ3, hB1.trans hk3⟩
            case measure => simp [intOf]; omega
          · gi_wp2
            refine bodyPost_ret (results_none rfl _ _ _) rfl ?_
            exact ⟨⟨_, rfl⟩, .inr ⟨pre ++ [65533], by rw [HI.out, HS2.out]; simp [List.prefix_append_right_inj], hJx3⟩⟩
        · have hr1 : ((R : Int) == 65533) = false := by simp; omega
          clear hbad
          gi_wp2_with (refine ⟨trivial, ?_⟩; gi_at_call 80; refine (callsIn_wide.2 C.out).mono ?_; rintro e w1 ⟨rfl, hb1⟩; have hJ1 : J pre w1 := hJ _ _ _ none hJs (grown_none hb1) (fun _ h => by cases h); have hB1 : Keep n₀ Bs W w1 := hKB.trans (Keep.of_below hb1 (Nat.le_trans hn0 hB.size) (Nat.lt_of_lt_of_le hBs hB.size)); obtain ⟨fn, tmps, assign, body, hy, hR⟩ := hY pre (R : Nat) w1 hJ1 (by omega))
          refine hR.mono ?_
          rintro e W3 (⟨rfl, hJ3, hk3⟩ | ⟨rfl, hJx3⟩)
          · gi_wp2
            go_roundw
            case rel => exact ⟨k + K, pre ++ [(R : Int)], by go_num, by omega, by simp; omega, Lib.hid (by rw [HI.out, HS2.out]; simp), hJ3, hB1.trans hk3⟩
            case measure => simp [intOf]; omega
          · gi_wp2
            refine bodyPost_ret (results_none rfl _ _ _) rfl ?_
            exact ⟨⟨_, rfl⟩, .inr ⟨pre ++ [(R : Int)], by rw [HI.out, HS2.out]; simp [List.prefix_append_right_inj], hJx3⟩⟩
    · obtain rfl : k = s.size := by omega
      gi_wp2
      go_end0
      exact ⟨⟨_, rfl⟩, .inl ⟨pre, by rw [HI.out, List.drop_of_length_le (by rw [← Lib.size_eq]; exact Nat.le_refl _), items_nil, List.append_nil], hJs⟩⟩

/-- runesOf(s): s is boxed, and the function value captures the box. -/
theorem runesOf_any (s : ByteArray) (w : World) :
    Calls Tryd.prog 61 #[.string s] w fun e w' => e = .returned (.func (.func 79) #[] #[.pointer (some ⟨w.heap.size, 0, none⟩)]) ∧ w' = w.alloc (.cells #[.string s] 9) := by
  go_enter Tryd.func61, Tryd.ntmps61
  go_wp2
  go_ret
  exact ⟨rfl, rfl⟩

theorem iter_stops (n : Nat) (hn : 1 ≤ n) (Bs n₀ : Nat) (s : ByteArray) (hs : s.size ≤ maxLen) (w : World) (hn0 : n₀ ≤ w.heap.size) (hBs : Bs < w.heap.size) (hT : Tabs w) (hlow : 0 < n₀ ∧ 1 < n₀)
    (hc : w.cell? ⟨Bs, 0, none⟩ = some (.string s)) :
    SeqStopsK Fence.wide n Tryd.prog 79 #[.pointer (some ⟨Bs, 0, none⟩)] (fun x : Int => #[Value.int .i32 x]) (Keep n₀ Bs) (fun ys => ys = items s.data.toList) (fun pre => pre <+: items s.data.toList) s.size w :=
  fun l J Jx W hW hJ _ hY h0 => iter_in n hn l Bs n₀ s hs J Jx W hJ hY (Nat.le_trans hn0 hW.size) (Nat.lt_of_lt_of_le hBs hW.size) (hT.below hW) hlow ((hW.cell (p := ⟨Bs, 0, none⟩) hBs).trans hc) h0
end Go.Proofs.YtnognphjndpgkaaDoor

