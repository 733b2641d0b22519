/- LexiconBest under the second form's bound. -/
import Derived.Test.YtdlmjoijadkphaaDoorPk7
import Derived.Test.YtdlmjoijadkphaaDoorYBest
import Derived.Test.YtdlmjoijadkphaaDoorYUpto
namespace Go.Proofs.YtdlmjoijadkphaaDoor
open Go.RowKit Go.Shelf
set_option linter.unusedSimpArgs false
set_option linter.unusedVariables false

theorem lexiconBest_upto {H : Type} (u : Value) (l : List Wrd) (k : Int) (w : World) (h : Okw w) (hu : WRuns w u l) {d : DataW H} (hd : (d = .nil ∧ l = []) ∨ ∃ sp, d = .slice (l.map wrdD) sp) (hb : (Lit.int .u8 k).wf = true) (hk : Rows.uptoSmall H ([d, .lit (.int .u8 k)] ++ []) = true) :
    Calls Tryd.prog 8 #[u, .int .u8 k] w (RetTrue w) := by
  have h' := of_decide_eq_true hk
  simp only [List.append_nil, Rows.uptoBulkAll, Rows.uptoBulk] at h'
  obtain ⟨h1, h2⟩ := words_bulk hd (by omega)
  exact lexiconBest_walk u l k (u8_wf hb).1 (u8_wf hb).2 w h hu h1 h2
end Go.Proofs.YtdlmjoijadkphaaDoor
