/- RuleOften under the second form's bound. -/
import Derived.Test.YtnognphjndpgkaaDoorPk11
import Derived.Test.YtnognphjndpgkaaDoorVOft
namespace Go.Proofs.YtnognphjndpgkaaDoor
open Go.RowKit Go.Shelf
set_option linter.unusedSimpArgs false
set_option linter.unusedVariables false

theorem ruleOften_upto {H : Type} (u : Value) (l : List Blk) (a b : Int) (w : World) (h : Okw w) (hu : BRuns w u l) {d : DataW H} (hd : (d = .nil ∧ l = []) ∨ ∃ sp, d = .slice (l.map blkD) sp) (ha : (Lit.int .u16 a).wf = true) (hb : (Lit.int .u16 b).wf = true) (hk : Rows.uptoSmall H ([d, .lit (.int .u16 a), .lit (.int .u16 b)] ++ []) = true) :
    Calls Tryd.prog 7 #[u, .int .u16 a, .int .u16 b] w (RetTrue w) := by
  have h' := of_decide_eq_true hk
  simp only [List.append_nil, Rows.uptoBulkAll] at h'
  obtain ⟨h1, h2⟩ := blks_bulk4 hd (by omega)
  have ha' : 0 ≤ a ∧ a < 65536 := by
    simp [Lit.wf, IntKind.min, IntKind.max, IntKind.signed, IntKind.bits] at ha
    omega
  have hb' : 0 ≤ b ∧ b < 65536 := by
    simp [Lit.wf, IntKind.min, IntKind.max, IntKind.signed, IntKind.bits] at hb
    omega
  obtain ⟨n, rfl⟩ : ∃ n : Nat, a = (n : Int) := ⟨a.toNat, by omega⟩
  obtain ⟨m, rfl⟩ : ∃ n : Nat, b = (n : Int) := ⟨b.toNat, by omega⟩
  exact ruleOften_walk u l n m (by omega) (by omega) w h hu h1 h2
end Go.Proofs.YtnognphjndpgkaaDoor
