/- LexiconOnce at any 16-bit number. -/
import Derived.Test.YtdlmjoijadkphaaDoorPk7
import Derived.Test.YtdlmjoijadkphaaDoorYOnce
namespace Go.Proofs.YtdlmjoijadkphaaDoor
open Go.RowKit Go.Shelf
set_option linter.unusedSimpArgs false
set_option linter.unusedVariables false

theorem lexiconOnce_int (u : Value) (l : List Wrd) (a : Int) (w : World) (h : Okw w) (hu : WRuns w u l) (hz : szMW l) (ha : (Lit.int .u16 a).wf = true) :
    Calls Tryd.prog 5 #[u, .int .u16 a] w (RetTrue w) := by
  have hb : 0 ≤ a ∧ a < 65536 := by
    simp [Lit.wf, IntKind.min, IntKind.max, IntKind.signed, IntKind.bits] at ha
    omega
  obtain ⟨n, rfl⟩ : ∃ n : Nat, a = (n : Int) := ⟨a.toNat, by omega⟩
  exact lexiconOnce_walk u l n (by omega) w h hu hz
end Go.Proofs.YtdlmjoijadkphaaDoor
