/- RuleOnce at any 16-bit number. -/
import Derived.Test.YtnognphjndpgkaaDoorPk11
import Derived.Test.YtnognphjndpgkaaDoorVOnc
namespace Go.Proofs.YtnognphjndpgkaaDoor
open Go.RowKit Go.Shelf
set_option linter.unusedSimpArgs false
set_option linter.unusedVariables false

theorem ruleOnce_int (u : Value) (l : List Blk) (a : Int) (w : World) (h : Okw w) (hu : BRuns w u l) (hz : szM l) (ha : (Lit.int .u16 a).wf = true) :
    Calls Tryd.prog 6 #[u, .int .u16 a] w (RetTrue w) := by
  have hb : 0 ≤ a ∧ a < 65536 := by
    simp [Lit.wf, IntKind.min, IntKind.max, IntKind.signed, IntKind.bits] at ha
    omega
  obtain ⟨n, rfl⟩ : ∃ n : Nat, a = (n : Int) := ⟨a.toNat, by omega⟩
  exact ruleOnce_walk u l n (by omega) w h hu hz
end Go.Proofs.YtnognphjndpgkaaDoor
