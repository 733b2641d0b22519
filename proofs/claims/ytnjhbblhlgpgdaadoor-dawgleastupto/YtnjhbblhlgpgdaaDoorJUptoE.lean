/- DawgLeast under the second form's bound. -/
import Derived.Test.YtnjhbblhlgpgdaaDoorPk6
import Derived.Test.YtnjhbblhlgpgdaaDoorJLeast
namespace Go.Proofs.YtnjhbblhlgpgdaaDoor
open Go.RowKit Go.Shelf
set_option linter.unusedSimpArgs false
set_option linter.unusedVariables false

theorem dawgLeast_upto {H : Type} (u : Value) (l : List Wrd) (w : World) (h : Okw w) (hu : WRuns w u l) {d : DataW H} (hd : (d = .nil ∧ l = []) ∨ ∃ sp, d = .slice (l.map wrdD) sp) (hk : Rows.uptoSmall H ([d] ++ []) = true) :
    Calls Tryd.prog 7 #[u] w (RetTrue w) := by
  have h' := of_decide_eq_true hk
  simp only [List.append_nil, Rows.uptoBulkAll, Rows.uptoBulk] at h'
  obtain ⟨h1, h2⟩ := words_bulk hd (by omega)
  exact dawgLeast_walk u l w h hu h1 h2
end Go.Proofs.YtnjhbblhlgpgdaaDoor
