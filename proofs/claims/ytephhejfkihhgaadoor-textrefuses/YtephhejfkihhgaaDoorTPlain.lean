/- The pieces of a text, plain: longest rows of letters, and what is between. -/
import Derived.Test.YtephhejfkihhgaaDoorPlain2
namespace Go.Proofs.YtephhejfkihhgaaDoor
open Go.Lib

/-- A piece: where it begins, where it ends, whether it is a token. -/
abbrev Sp := Int × Int × Bool
def rl (r : Int) : Nat := (encodeRune r).length
theorem rl_pos (r : Int) : 1 ≤ rl r := (encodeRune_len r).1
/-- A piece under way: begun at f, come to a, of sort b. -/
def sp (f a : Nat) (b : Bool) : List Int → List Sp
  | [] => [((f : Int), (a : Int), b)]
  | r :: xs => if letterB r = b then sp f (a + rl r) b xs else ((f : Int), (a : Int), b) :: sp a (a + rl r) (letterB r) xs
def spansFrom (a : Nat) : List Int → List Sp
  | [] => []
  | r :: xs => sp a (a + rl r) (letterB r) xs
def spansL (l : List UInt8) : List Sp := spansFrom 0 (items l)

/-- How many bytes the row of sort b has at the beginning, and what is behind it. -/
def rowB (b : Bool) : List Int → Nat
  | [] => 0
  | r :: xs => if letterB r = b then rl r + rowB b xs else 0
def rowT (b : Bool) : List Int → List Int
  | [] => []
  | r :: xs => if letterB r = b then rowT b xs else r :: xs
def rowH (b : Bool) : List Int → List Int
  | [] => []
  | r :: xs => if letterB r = b then r :: rowH b xs else []

theorem sp_row (b : Bool) (xs : List Int) : ∀ (f a : Nat), sp f a b xs = ((f : Int), ((a + rowB b xs : Nat) : Int), b) :: spansFrom (a + rowB b xs) (rowT b xs) := by
  induction xs with
  | nil => intro f a; simp [sp, rowB, rowT, spansFrom]
  | cons r xs ih =>
    intro f a
    unfold sp rowB rowT
    by_cases h : letterB r = b
    · rw [if_pos h, if_pos h, if_pos h, ih]; simp [Nat.add_assoc]
    · rw [if_neg h, if_neg h, if_neg h]; simp [spansFrom]
theorem spans_step (a : Nat) (r : Int) (xs : List Int) : spansFrom a (r :: xs) = ((a : Int), ((a + rowB (letterB r) (r :: xs) : Nat) : Int), letterB r) :: spansFrom (a + rowB (letterB r) (r :: xs)) (rowT (letterB r) (r :: xs)) := by
  show sp a (a + rl r) (letterB r) xs = _
  rw [sp_row]
  simp [rowB, rowT, Nat.add_assoc]
theorem row_split (b : Bool) (xs : List Int) : xs = rowH b xs ++ rowT b xs ∧ (encL (rowH b xs)).length = rowB b xs ∧ ∀ r ∈ rowH b xs, letterB r = b := by
  induction xs with
  | nil => simp [rowH, rowT, rowB, encL]
  | cons r xs ih =>
    unfold rowH rowT rowB
    by_cases h : letterB r = b
    · rw [if_pos h, if_pos h, if_pos h]
      refine ⟨by rw [List.cons_append, ← ih.1], by rw [encL_cons, List.length_append, ih.2.1]; rfl, ?_⟩
      intro q hq
      rcases List.mem_cons.1 hq with rfl | hq
      · exact h
      · exact ih.2.2 q hq
    · rw [if_neg h, if_neg h, if_neg h]; simp [encL]
theorem row_pos (r : Int) (xs : List Int) : 1 ≤ rowB (letterB r) (r :: xs) := by
  simp only [rowB, if_true]; have := rl_pos r; omega
theorem rowB_all (b : Bool) (xs : List Int) (h : ∀ r ∈ xs, letterB r = b) : rowB b xs = (encL xs).length ∧ rowT b xs = [] ∧ rowH b xs = xs := by
  induction xs with
  | nil => simp [rowB, rowT, rowH, encL]
  | cons r xs ih =>
    have h1 := h r (by simp)
    have h2 := ih (fun q hq => h q (by simp [hq]))
    unfold rowB rowT rowH
    rw [if_pos h1, if_pos h1, if_pos h1, h2.1, h2.2.1, h2.2.2, encL_cons, List.length_append]
    exact ⟨rfl, rfl, rfl⟩
/-- A row that ends: the runes so far are of its sort, the next is not. -/
theorem rowB_at (b : Bool) (pre : List Int) (r : Int) (xs : List Int) (h : ∀ q ∈ pre, letterB q = b) (hr : letterB r ≠ b) : rowB b (pre ++ r :: xs) = (encL pre).length ∧ rowT b (pre ++ r :: xs) = r :: xs := by
  induction pre with
  | nil => simp [rowB, rowT, hr, encL]
  | cons q pre ih =>
    have h1 := h q (by simp)
    have h2 := ih (fun x hx => h x (by simp [hx]))
    rw [List.cons_append]
    unfold rowB rowT
    rw [if_pos h1, if_pos h1, h2.1, h2.2, encL_cons, List.length_append]
    exact ⟨rfl, rfl⟩

/-- What is behind so many runes of a text is a text of the others. -/
theorem items_drop (l : List UInt8) (hv : validD l = true) (x y : List Int) (h : items l = x ++ y) : items (l.drop (encL x).length) = y ∧ validD (l.drop (encL x).length) = true ∧ l.drop (encL x).length = encL y ∧ l.take (encL x).length = encL x := by
  have he := enc_items l hv
  have hr := items_runes l hv
  rw [h] at he hr
  rw [encL_append] at he
  have hd : l.drop (encL x).length = encL y := by rw [← he, List.drop_left]
  have ht : l.take (encL x).length = encL x := by rw [← he, List.take_left]
  have := items_of_enc y (fun r hy => hr r (by simp [hy]))
  rw [hd]
  exact ⟨this.1, this.2, rfl, ht⟩
theorem row_le (l : List UInt8) (hv : validD l = true) (b : Bool) : rowB b (items l) ≤ l.length := by
  have h := row_split b (items l)
  have he := enc_items l hv
  have h2 := congrArg List.length he
  rw [h.1, encL_append, List.length_append, h.2.1] at h2
  omega
/-- Behind a text's first row. -/
theorem row_drop (l : List UInt8) (hv : validD l = true) (b : Bool) : items (l.drop (rowB b (items l))) = rowT b (items l) ∧ validD (l.drop (rowB b (items l))) = true := by
  have h := row_split b (items l)
  have h2 := items_drop l hv _ _ h.1
  rw [h.2.1] at h2
  exact ⟨h2.1, h2.2.1⟩

theorem sp_len (b : Bool) (xs : List Int) : ∀ f a, (sp f a b xs).length ≤ xs.length + 1 := by
  induction xs generalizing b with
  | nil => intro f a; simp [sp]
  | cons r xs ih =>
    intro f a
    unfold sp
    by_cases h : letterB r = b
    · rw [if_pos h]; have := ih b f (a + rl r); simp only [List.length_cons]; omega
    · rw [if_neg h]; have := ih (letterB r) a (a + rl r); simp only [List.length_cons]; omega
theorem spans_len (a : Nat) (xs : List Int) : (spansFrom a xs).length ≤ xs.length := by
  cases xs with
  | nil => simp [spansFrom]
  | cons r xs => exact sp_len _ xs _ _
theorem spansL_len (l : List UInt8) : (spansL l).length ≤ l.length := Nat.le_trans (spans_len _ _) (items_le l)

/-- The pieces' texts, of those that are tokens. -/
def cutL (l : List UInt8) (p : Sp) : List UInt8 := (l.drop p.1.toNat).take (p.2.1.toNat - p.1.toNat)
def toksOf (l : List UInt8) (ps : List Sp) : List (List UInt8) := (ps.filter (fun p => p.2.2)).map (cutL l)
def toksL (l : List UInt8) : List (List UInt8) := toksOf l (spansL l)
/-- A document: why it is none. -/
def docErr (l : List UInt8) : Int := if 1048576 < l.length then 5 else if validD l then 0 else 3
def docSpans (l : List UInt8) : List Sp := if docErr l = 0 then spansL l else []
def docToks (l : List UInt8) : List (List UInt8) := if docErr l = 0 then toksL l else []
end Go.Proofs.YtephhejfkihhgaaDoor
