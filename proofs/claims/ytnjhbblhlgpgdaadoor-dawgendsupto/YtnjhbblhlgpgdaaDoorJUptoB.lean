/- DawgEnds under the second form's bound. -/
import Derived.Test.YtnjhbblhlgpgdaaDoorPk6
import Derived.Test.YtnjhbblhlgpgdaaDoorJEnds
namespace Go.Proofs.YtnjhbblhlgpgdaaDoor
open Go.RowKit Go.Shelf
set_option linter.unusedSimpArgs false
set_option linter.unusedVariables false

theorem dawgEnds_upto {H : Type} (u : Value) (l : List Wrd) (s : ByteArray) (w : World) (h : Okw w) (hu : WRuns w u l) {d : DataW H} (hd : (d = .nil ∧ l = []) ∨ ∃ sp, d = .slice (l.map wrdD) sp) (hk : Rows.uptoSmall H ([d, .lit (.string s.data.toList)] ++ []) = true) :
    Calls Tryd.prog 6 #[u, .string s] w (RetTrue w) := by
  have h' := of_decide_eq_true hk
  simp only [List.append_nil, Rows.uptoBulkAll, Rows.uptoBulk] at h'
  obtain ⟨h1, h2⟩ := words_bulk hd (by omega)
  exact dawgEnds_walk u l s w h hu h1 h2 (by rw [Lib.size_eq]; omega)
end Go.Proofs.YtnjhbblhlgpgdaaDoor
