/- MatchStands, MatchPlaces, MatchAlone under the second form's bound. -/
import Derived.Test.YtbbkkoeipkigdaaDoorPk14
import Derived.Test.YtbbkkoeipkigdaaDoorNStands
namespace Go.Proofs.YtbbkkoeipkigdaaDoor
open Go.RowKit Go.Shelf
set_option linter.unusedSimpArgs false
set_option linter.unusedVariables false

theorem rules_small {H : Type} {l : List Blk} {s : ByteArray} {d : DataW H} (hd : (d = .nil ∧ l = []) ∨ ∃ sp, d = .slice (l.map blkD) sp) (hk : Rows.uptoSmall H ([d, .lit (.string s.data.toList)] ++ []) = true) : l.length ≤ 2000000 ∧ szL l ∧ s.size ≤ 2000000 := by
  have h' := of_decide_eq_true hk
  simp only [List.append_nil, Rows.uptoBulkAll] at h'
  have hs : Rows.uptoBulk (H := H) (.lit (.string s.data.toList)) ≥ s.size := by
    simp only [Rows.uptoBulk]
    rw [Lib.size_eq]; omega
  obtain ⟨h1, h2⟩ := blks_bulk4 hd (by omega)
  exact ⟨by omega, h2, by omega⟩
theorem matchStands_upto {H : Type} (u : Value) (l : List Blk) (s : ByteArray) (w : World) (h : Okw w) (hu : BRuns w u l) {d : DataW H} (hd : (d = .nil ∧ l = []) ∨ ∃ sp, d = .slice (l.map blkD) sp) (hk : Rows.uptoSmall H ([d, .lit (.string s.data.toList)] ++ []) = true) :
    Calls Tryd.prog 4 #[u, .string s] w (RetTrue w) :=
  matchStands_walk u l s w h hu (rules_small hd hk).1 (rules_small hd hk).2.1 (rules_small hd hk).2.2
theorem matchPlaces_upto {H : Type} (u : Value) (l : List Blk) (s : ByteArray) (w : World) (h : Okw w) (hu : BRuns w u l) {d : DataW H} (hd : (d = .nil ∧ l = []) ∨ ∃ sp, d = .slice (l.map blkD) sp) (hk : Rows.uptoSmall H ([d, .lit (.string s.data.toList)] ++ []) = true) :
    Calls Tryd.prog 6 #[u, .string s] w (RetTrue w) :=
  matchPlaces_walk u l s w h hu (rules_small hd hk).1 (rules_small hd hk).2.1 (rules_small hd hk).2.2
theorem matchAlone_upto {H : Type} (u : Value) (l : List Blk) (s : ByteArray) (w : World) (h : Okw w) (hu : BRuns w u l) {d : DataW H} (hd : (d = .nil ∧ l = []) ∨ ∃ sp, d = .slice (l.map blkD) sp) (hk : Rows.uptoSmall H ([d, .lit (.string s.data.toList)] ++ []) = true) :
    Calls Tryd.prog 8 #[u, .string s] w (RetTrue w) :=
  matchAlone_walk u l s w h hu (rules_small hd hk).1 (rules_small hd hk).2.1 (rules_small hd hk).2.2
end Go.Proofs.YtbbkkoeipkigdaaDoor
