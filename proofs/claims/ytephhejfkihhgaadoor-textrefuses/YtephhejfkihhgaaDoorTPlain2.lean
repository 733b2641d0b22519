/- The pieces of a text, one by one: plain. -/
import Derived.Test.YtephhejfkihhgaaDoorTJoin
namespace Go.Proofs.YtephhejfkihhgaaDoor
open Go.Lib

theorem rowT_head (b : Bool) (xs : List Int) : ∀ q t, rowT b xs = q :: t → letterB q ≠ b := by
  induction xs with
  | nil => intro q t h; simp [rowT] at h
  | cons r xs ih =>
    intro q t h
    unfold rowT at h
    by_cases hb : letterB r = b
    · rw [if_pos hb] at h; exact ih q t h
    · rw [if_neg hb] at h; cases h; exact hb
theorem rowH_ne (r : Int) (xs : List Int) : rowH (letterB r) (r :: xs) ≠ [] := by simp [rowH]
/-- Piece i: what is ahead of it, its runes, what is behind. -/
theorem spans_at (i : Nat) : ∀ (a : Nat) (xs : List Int), i < (spansFrom a xs).length → ∃ pre run post b, xs = pre ++ (run ++ post) ∧ run ≠ [] ∧
    (spansFrom a xs).getD i sp0 = (((a + (encL pre).length : Nat) : Int), ((a + (encL pre).length + (encL run).length : Nat) : Int), b) ∧ (∀ r ∈ run, letterB r = b) ∧ (∀ q t, post = q :: t → letterB q ≠ b) ∧
    (spansFrom a xs).drop (i + 1) = spansFrom (a + (encL pre).length + (encL run).length) post ∧ (i = 0 → pre = []) := by
  induction i with
  | zero =>
    intro a xs h
    cases xs with
    | nil => simp [spansFrom] at h
    | cons r xs =>
      obtain ⟨h1, h2, h3⟩ := row_split (letterB r) (r :: xs)
      refine ⟨[], rowH (letterB r) (r :: xs), rowT (letterB r) (r :: xs), letterB r, by simpa using h1, rowH_ne r xs, ?_, h3, rowT_head _ _, ?_, fun _ => rfl⟩
      · rw [spans_step, h2]; simp [encL]
      · rw [spans_step, h2]; simp [encL]
  | succ i ih =>
    intro a xs h
    cases xs with
    | nil => simp [spansFrom] at h
    | cons r xs =>
      obtain ⟨h1, h2, h3⟩ := row_split (letterB r) (r :: xs)
      rw [spans_step] at h ⊢
      obtain ⟨pre, run, post, b, e1, e2, e3, e4, e5, e6, _⟩ := ih (a + rowB (letterB r) (r :: xs)) (rowT (letterB r) (r :: xs)) (by simpa using h)
      refine ⟨rowH (letterB r) (r :: xs) ++ pre, run, post, b, by rw [List.append_assoc, ← e1]; exact h1, e2, ?_, e4, e5, ?_, by omega⟩
      · rw [List.getD_cons_succ, e3, encL_append, List.length_append, h2]; simp [Nat.add_assoc]
      · rw [List.drop_succ_cons, e6, encL_append, List.length_append, h2]; simp [Nat.add_assoc]
/-- Where piece k begins. -/
def posn (l : List Sp) (k : Nat) : Int := if k = 0 then 0 else (l.getD (k - 1) sp0).2.1
theorem posn_zero (l : List Sp) : posn l 0 = 0 := rfl
theorem posn_succ (l : List Sp) (k : Nat) : posn l (k + 1) = (l.getD k sp0).2.1 := by simp [posn]

theorem parts_at (L : List UInt8) (hv : validD L = true) (k : Nat) (hk : k < (spansL L).length) : ∃ (f t : Nat) (b : Bool) (run : List Int), (spansL L).getD k sp0 = ((f : Int), (t : Int), b) ∧ posn (spansL L) k = (f : Int) ∧ f < t ∧ t ≤ L.length ∧
    (∀ j, k = j + 1 → ((spansL L).getD j sp0).2.2 ≠ b) ∧ run ≠ [] ∧ (L.drop f).take (t - f) = encL run ∧ items (encL run) = run ∧ validD (encL run) = true ∧ (∀ r ∈ run, letterB r = b) := by
  obtain ⟨pre, run, post, b, e1, e2, e3, e4, e5, e6, e7⟩ := spans_at k 0 (items L) hk
  have hr := items_runes L hv
  have he := enc_items L hv
  rw [e1, encL_append, encL_append] at he
  have hlen := congrArg List.length he
  simp only [List.length_append] at hlen
  have hrun := items_of_enc run (fun r hx => hr r (by rw [e1]; simp [hx]))
  have hpos : 0 < (encL run).length := by
    cases run with
    | nil => exact absurd rfl e2
    | cons r t => rw [encL_cons, List.length_append]; have := encodeRune_len r; omega
  refine ⟨0 + (encL pre).length, 0 + (encL pre).length + (encL run).length, b, run, e3, ?_, by omega, by omega, ?_, e2, ?_, hrun.1, hrun.2, e4⟩
  · cases k with
    | zero => rw [posn_zero, e7 rfl]; simp [encL]
    | succ j =>
      rw [posn_succ]
      obtain ⟨pre', run', post', b', f1, f2, f3, f4, f5, f6, f7⟩ := spans_at j 0 (items L) (Nat.lt_of_succ_lt hk)
      show ((spansFrom 0 (items L)).getD j sp0).2.1 = _
      rw [f3]
      have h0 : (spansFrom 0 (items L)).getD (j + 1) sp0 = ((spansFrom 0 (items L)).drop (j + 1)).getD 0 sp0 := by simp [List.getD_eq_getElem?_getD]
      rw [f6] at h0
      cases hp : post' with
      | nil => rw [hp] at f6; have h9 := congrArg List.length f6; have h8 : j + 1 < (spansFrom 0 (items L)).length := hk; rw [List.length_drop] at h9; have h7 : (spansFrom (0 + (encL pre').length + (encL run').length) []).length = 0 := rfl; omega
      | cons q t =>
        rw [hp, spans_step, List.getD_cons_zero, e3] at h0
        have h1 : (((0 + (encL pre).length : Nat) : Int)) = ((0 + (encL pre').length + (encL run').length : Nat) : Int) := by
          have := congrArg (fun p : Sp => p.1) h0; simpa using this
        simp only; omega
  · rintro j rfl
    obtain ⟨pre', run', post', b', f1, f2, f3, f4, f5, f6, f7⟩ := spans_at j 0 (items L) (Nat.lt_of_succ_lt hk)
    show ((spansFrom 0 (items L)).getD j sp0).2.2 ≠ _
    rw [f3]
    have h0 : (spansFrom 0 (items L)).getD (j + 1) sp0 = ((spansFrom 0 (items L)).drop (j + 1)).getD 0 sp0 := by simp [List.getD_eq_getElem?_getD]
    rw [f6] at h0
    cases hp : post' with
    | nil => rw [hp] at f6; have h9 := congrArg List.length f6; have h8 : j + 1 < (spansFrom 0 (items L)).length := hk; rw [List.length_drop] at h9; have h7 : (spansFrom (0 + (encL pre').length + (encL run').length) []).length = 0 := rfl; omega
    | cons q t =>
      rw [hp, spans_step, List.getD_cons_zero, e3] at h0
      have h1 : b = letterB q := by have := congrArg (fun p : Sp => p.2.2) h0; simpa using this
      have h2 := f5 q t hp
      simp only; intro h3; exact h2 (h1.symm.trans h3.symm)
  · rw [← he]; simp
theorem posn_end (L : List UInt8) (hv : validD L = true) : posn (spansL L) (spansL L).length = (L.length : Int) := by
  have he := congrArg List.length (enc_items L hv)
  cases hn : (spansL L).length with
  | zero =>
    have h0 : items L = [] := by
      cases h : items L with
      | nil => rfl
      | cons r xs => unfold spansL at hn; rw [h, spans_step] at hn; simp at hn
    rw [h0] at he; rw [posn_zero, ← he]; simp [encL]
  | succ k =>
    obtain ⟨pre, run, post, b, e1, e2, e3, e4, e5, e6, e7⟩ := spans_at k 0 (items L) (by show k < (spansL L).length; omega)
    rw [posn_succ]
    show ((spansFrom 0 (items L)).getD k sp0).2.1 = _
    rw [e3]
    have hp : post = [] := by
      cases post with
      | nil => rfl
      | cons q t =>
        have : (spansFrom 0 (items L)).drop (k + 1) = [] := List.drop_of_length_le (by show (spansL L).length ≤ k + 1; omega)
        rw [e6, spans_step] at this; cases this
    rw [e1, hp, encL_append, encL_append, List.length_append, List.length_append] at he
    simp [encL] at he
    simp only; simp [encL]; omega
end Go.Proofs.YtephhejfkihhgaaDoor
