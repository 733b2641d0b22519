/- DawgFreqs under the second form's bound. -/
import Derived.Test.YtnjhbblhlgpgdaaDoorPk6
import Derived.Test.YtnjhbblhlgpgdaaDoorJFreqs
namespace Go.Proofs.YtnjhbblhlgpgdaaDoor
open Go.RowKit Go.Shelf
set_option linter.unusedSimpArgs false
set_option linter.unusedVariables false

theorem u16_wf10 {a : Int} (ha : (Lit.int .u16 a).wf = true) : 0 ≤ a ∧ a ≤ 65535 := by
  simp [Lit.wf, IntKind.min, IntKind.max, IntKind.signed, IntKind.bits] at ha
  omega
theorem dawgFreqs_upto {H : Type} (u : Value) (l : List Wrd) (a : Int) (w : World) (h : Okw w) (hu : WRuns w u l) {d : DataW H} (hd : (d = .nil ∧ l = []) ∨ ∃ sp, d = .slice (l.map wrdD) sp) (ha : (Lit.int .u16 a).wf = true) (hk : Rows.uptoSmall H ([d, .lit (.int .u16 a)] ++ []) = true) :
    Calls Tryd.prog 8 #[u, .int .u16 a] w (RetTrue w) := by
  have h' := of_decide_eq_true hk
  simp only [List.append_nil, Rows.uptoBulkAll, Rows.uptoBulk] at h'
  obtain ⟨h1, h2⟩ := words_bulk hd (by omega)
  exact dawgFreqs_walk u l a (u16_wf10 ha).1 (u16_wf10 ha).2 w h hu h1 h2
end Go.Proofs.YtnjhbblhlgpgdaaDoor
