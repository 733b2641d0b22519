/- Two tokens with the same runes behind, plain: their steps end in matches; a rune more is a step more, or fewer, or as many. -/
import Derived.Test.YthigbnklekdemaaDoorABackP
namespace Go.Proofs.YthigbnklekdemaaDoor
open Go.RowKit Go.Shelf

theorem runes_join {a e : List UInt8} (ha : tokErr a = 0) (hae : tokErr (a ++ e) = 0) : tokRunes (a ++ e) = tokRunes a ++ items e := by
  rw [(tok_runes hae).1, (tok_runes ha).1, (items_join a e (tok_runes ha).2.1).1]
def matchOf (r : Int) : St := (0, r, r)
theorem stC_matches (l : List Int) : stC (l.map matchOf) = 0 := by
  induction l with
  | nil => rfl
  | cons r l ih => simp [stC, matchOf] at ih ⊢; exact ih
theorem ends_steps {a b e : List UInt8} (h1 : tokErr2 a b = 0) (h2 : tokErr2 (a ++ e) (b ++ e) = 0) : stepsS (a ++ e) (b ++ e) = stepsS a b ++ (items e).map matchOf := by
  obtain ⟨ha, hb⟩ := tokErr2_parts h1
  obtain ⟨hae, hbe⟩ := tokErr2_parts h2
  rw [stepsS, if_pos h2, stepsS, if_pos h1, runes_join ha hae, runes_join hb hbe, List.reverse_append, List.reverse_append, pathR_ends, List.reverse_append]
  congr 1
  rw [← List.map_reverse, List.reverse_reverse]
  rfl
/-- One of the last steps. -/
theorem ends_at (X : List St) (E : List Int) (i : Nat) (hi : i < E.length) : (X ++ E.map matchOf).getD ((X ++ E.map matchOf).length - 1 - i) (0, 0, 0) = (0, E.getD (E.length - 1 - i) 0, E.getD (E.length - 1 - i) 0) := by
  have hl : (X ++ E.map matchOf).length = X.length + E.length := by simp
  have hj : E.length - 1 - i < E.length := by omega
  rw [hl, List.getD_eq_getElem?_getD, List.getElem?_append_right (by omega), show X.length + E.length - 1 - i - X.length = E.length - 1 - i by omega, List.getElem?_map, List.getElem?_eq_getElem hj, List.getD_eq_getElem?_getD, List.getElem?_eq_getElem hj]
  rfl
theorem one_more {a b : List UInt8} (h1 : tokErr2 a b = 0) (h2 : tokErr2 (a ++ [120]) b = 0) : distS (a ++ [120]) b ≤ distS a b + 1 ∧ distS a b ≤ distS (a ++ [120]) b + 1 := by
  obtain ⟨ha, hb⟩ := tokErr2_parts h1
  obtain ⟨hax, _⟩ := tokErr2_parts h2
  have hi : items [120] = [120] := by decide +kernel
  rw [distS, if_pos h2, distS, if_pos h1, runes_join ha hax, hi, List.reverse_append]
  exact ⟨levR_up _ _ _, levR_down _ _ _⟩
end Go.Proofs.YthigbnklekdemaaDoor
