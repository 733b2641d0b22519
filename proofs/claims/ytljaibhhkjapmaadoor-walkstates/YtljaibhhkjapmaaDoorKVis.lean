/- Layer 10, plain: how the document's visit goes on: what is there stays, no list grows shorter, what is asked of each step. -/
import Derived.Test.YtljaibhhkjapmaaDoorPk1
namespace Go.Proofs.YtljaibhhkjapmaaDoor
set_option linter.unusedVariables false
set_option linter.unusedSectionVars false
section
variable {α : Type} [DecidableEq α]

theorem fold_preS (n : Nat) (q : List (List α)) (h : ∀ (all : List (StD α)) q, all <+: (visS n all q).1) (l : List α) : ∀ p : List (StD α) × List (α × Nat), p.1 <+: (l.foldl (stepS n q) p).1 := by
  induction l with
  | nil => exact fun p => List.prefix_refl _
  | cons r l ih => exact fun p => (h p.1 (behR q r)).trans (ih (stepS n q p r))
theorem visS_pre (n : Nat) : ∀ (all : List (StD α)) q, all <+: (visS n all q).1 := by
  induction n with
  | zero => exact fun all _ => List.prefix_refl _
  | succ n ih =>
    intro all q
    rw [visS]
    split
    · exact List.prefix_refl _
    · obtain ⟨t, ht⟩ := fold_preS n q ih (hdsR q) (all ++ [(q, decide ([] ∈ q), [])], [])
      show all <+: (((hdsR q).foldl (stepS n q) (all ++ [(q, decide ([] ∈ q), [])], [])).1.set all.length _)
      rw [← ht]
      exact ⟨_ :: t, by simp; rfl⟩
theorem visS_le (n : Nat) (all : List (StD α)) (q : List (List α)) : all.length ≤ (visS n all q).1.length := (visS_pre n all q).length_le
/-- What stands first. -/
theorem idxOf_first {β : Type} [BEq β] [LawfulBEq β] {l : List β} {x : β} {i : Nat} (h : l[i]? = some x) (hn : ∀ j, j < i → l[j]? ≠ some x) : l.idxOf x = i := by
  have hi := (List.getElem?_eq_some_iff.1 h).1
  have hx : x ∉ l.take i := fun hm => by
    obtain ⟨j, hj⟩ := List.mem_iff_getElem?.1 hm
    rw [List.getElem?_take] at hj
    split at hj
    · rename_i h1; exact hn j h1 hj
    · cases hj
  have e : l = l.take i ++ x :: l.drop (i + 1) := by
    conv => lhs; rw [← List.take_append_drop i l]
    rw [List.drop_eq_getElem_cons hi, (List.getElem_eq_iff _).2 h]
  rw [e, List.idxOf_append, if_neg hx, List.idxOf_cons_self, List.length_take, Nat.min_eq_left (Nat.le_of_lt hi), Nat.zero_add]
/-- The state of a visit behind k of the runes that rests begin with. -/
def visK (n : Nat) (all : List (StD α)) (q : List (List α)) (k : Nat) : List (StD α) × List (α × Nat) := ((hdsR q).take k).foldl (stepS n q) (all ++ [(q, decide ([] ∈ q), [])], [])
theorem visK_zero (n : Nat) (all : List (StD α)) (q : List (List α)) : visK n all q 0 = (all ++ [(q, decide ([] ∈ q), [])], []) := rfl
theorem visK_succ (n : Nat) (all : List (StD α)) (q : List (List α)) {k : Nat} {r : α} (h : (hdsR q)[k]? = some r) : visK n all q (k + 1) = stepS n q (visK n all q k) r := by
  unfold visK
  rw [List.take_add_one, h, List.foldl_append]
  rfl
theorem visK_out (n : Nat) (all : List (StD α)) (q : List (List α)) {k : Nat} (h : k ≤ (hdsR q).length) : (visK n all q k).2.length = k := by
  induction k with
  | zero => rfl
  | succ k ih =>
    obtain ⟨r, hr⟩ : ∃ r, (hdsR q)[k]? = some r := ⟨_, List.getElem?_eq_getElem (by omega)⟩
    rw [visK_succ n all q hr, stepS, List.length_append, ih (by omega)]
    rfl
theorem visK_pre (n : Nat) (all : List (StD α)) (q : List (List α)) (k : Nat) : (all ++ [(q, decide ([] ∈ q), [])]) <+: (visK n all q k).1 := fold_preS n q (visS_pre n) ((hdsR q).take k) (all ++ [(q, decide ([] ∈ q), [])], [])
theorem visK_le (n : Nat) (all : List (StD α)) (q : List (List α)) (k : Nat) : (visK n all q k).1.length ≤ (visK n all q (hdsR q).length).1.length := by
  unfold visK
  rw [List.take_length]
  conv => rhs; rw [← List.take_append_drop k (hdsR q), List.foldl_append]
  exact (fold_preS n q (visS_pre n) _ _).length_le
theorem visK_at (n : Nat) (all : List (StD α)) (q : List (List α)) (k : Nat) : (visK n all q k).1[all.length]? = some (q, decide ([] ∈ q), []) := by
  obtain ⟨t, ht⟩ := visK_pre n all q k
  rw [← ht, List.append_assoc, List.getElem?_append_right (Nat.le_refl _), Nat.sub_self]
  rfl
/-- Rests that are not met yet. -/
theorem visS_new (n : Nat) (all : List (StD α)) (q : List (List α)) (h : q ∉ all.map (·.1)) : visS (n + 1) all q = ((visK n all q (hdsR q).length).1.set all.length (q, decide ([] ∈ q), (visK n all q (hdsR q).length).2), all.length) := by
  rw [visS, if_neg h, visK, List.take_length]
  rfl
/-- Rests that are met. -/
theorem visS_old (n : Nat) (all : List (StD α)) (q : List (List α)) {i : Nat} {s : StD α} (hs : all[i]? = some s) (e : s.1 = q) (hn : ∀ j s, j < i → all[j]? = some s → s.1 ≠ q) : visS (n + 1) all q = (all, i) := by
  have h1 : (all.map (·.1))[i]? = some q := by rw [List.getElem?_map, hs]; exact congrArg some e
  have h2 : (all.map (·.1)).idxOf q = i := idxOf_first h1 (fun j hj h => by
    rw [List.getElem?_map] at h
    cases hg : all[j]? with
    | none => rw [hg] at h; cases h
    | some s2 => rw [hg] at h; exact hn j s2 hj hg (Option.some.inj h))
  rw [visS, if_pos (List.mem_of_getElem? h1), h2]
theorem visS_none {all : List (StD α)} {q : List (List α)} (h : ∀ j s, j < all.length → all[j]? = some s → s.1 ≠ q) : q ∉ all.map (·.1) := fun hm => by
  obtain ⟨s, hs, e⟩ := List.mem_map.1 hm
  obtain ⟨j, hj⟩ := List.mem_iff_getElem?.1 hs
  exact h j s (List.getElem?_eq_some_iff.1 hj).1 hj e
/-- What is asked of the step by a rune. -/
theorem visK_asks (n : Nat) (all : List (StD α)) (q : List (List α)) {k : Nat} {r : α} (hr : (hdsR q)[k]? = some r) (hn : ltrs q < n + 1) : ltrs (behR q r) < n ∧ (visS n (visK n all q k).1 (behR q r)).1.length ≤ (visK n all q (hdsR q).length).1.length := by
  refine ⟨by have := ltrs_lt (List.mem_of_getElem? hr); omega, ?_⟩
  have h1 := visK_le n all q (k + 1)
  rw [visK_succ n all q hr] at h1
  exact h1
end
end Go.Proofs.YtljaibhhkjapmaaDoor
