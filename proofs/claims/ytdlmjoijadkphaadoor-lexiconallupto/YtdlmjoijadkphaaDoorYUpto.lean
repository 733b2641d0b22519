/- LexiconOnce at any 16-bit number, LexiconIs at a word; LexiconAll, LexiconBegins, LexiconBest under the second form's bound. -/
import Derived.Test.YtdlmjoijadkphaaDoorPk7
import Derived.Test.YtdlmjoijadkphaaDoorYAll
import Derived.Test.YtdlmjoijadkphaaDoorYBegins
namespace Go.Proofs.YtdlmjoijadkphaaDoor
open Go.RowKit Go.Shelf
set_option linter.unusedSimpArgs false
set_option linter.unusedVariables false

theorem u8_wf {a : Int} (ha : (Lit.int .u8 a).wf = true) : 0 ≤ a ∧ a < 256 := by
  simp [Lit.wf, IntKind.min, IntKind.max, IntKind.signed, IntKind.bits] at ha
  omega
theorem lexiconAll_upto {H : Type} (u : Value) (l : List Wrd) (s : ByteArray) (w : World) (h : Okw w) (hu : WRuns w u l) {d : DataW H} (hd : (d = .nil ∧ l = []) ∨ ∃ sp, d = .slice (l.map wrdD) sp) (hk : Rows.uptoSmall H ([d, .lit (.string s.data.toList)] ++ []) = true) :
    Calls Tryd.prog 6 #[u, .string s] w (RetTrue w) := by
  have h' := of_decide_eq_true hk
  simp only [List.append_nil, Rows.uptoBulkAll, Rows.uptoBulk] at h'
  obtain ⟨h1, h2⟩ := words_bulk hd (by omega)
  exact lexiconAll_walk u l s w h hu h1 h2 (by rw [Lib.size_eq]; omega)
theorem lexiconBegins_upto {H : Type} (u : Value) (l : List Wrd) (s : ByteArray) (b : Int) (w : World) (h : Okw w) (hu : WRuns w u l) {d : DataW H} (hd : (d = .nil ∧ l = []) ∨ ∃ sp, d = .slice (l.map wrdD) sp) (hb : (Lit.int .u8 b).wf = true) (hk : Rows.uptoSmall H ([d, .lit (.string s.data.toList), .lit (.int .u8 b)] ++ []) = true) :
    Calls Tryd.prog 7 #[u, .string s, .int .u8 b] w (RetTrue w) := by
  have h' := of_decide_eq_true hk
  simp only [List.append_nil, Rows.uptoBulkAll, Rows.uptoBulk] at h'
  obtain ⟨h1, h2⟩ := words_bulk hd (by omega)
  exact lexiconBegins_walk u l s b (u8_wf hb).1 (u8_wf hb).2 w h hu h1 h2 (by rw [Lib.size_eq]; omega)
end Go.Proofs.YtdlmjoijadkphaaDoor
