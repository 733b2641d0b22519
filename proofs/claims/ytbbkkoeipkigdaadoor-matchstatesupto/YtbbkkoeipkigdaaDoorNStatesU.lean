/- MatchStates under the second form's bound. -/
import Derived.Test.YtbbkkoeipkigdaaDoorPk14
import Derived.Test.YtbbkkoeipkigdaaDoorNStates
namespace Go.Proofs.YtbbkkoeipkigdaaDoor
open Go.RowKit Go.Shelf
set_option linter.unusedSimpArgs false
set_option linter.unusedVariables false

theorem matchStates_upto {H : Type} (u : Value) (l : List Blk) (b : Blk) (w : World) (h : Okw w) (hu : BRuns w u l) {d : DataW H} (hd : (d = .nil ∧ l = []) ∨ ∃ sp, d = .slice (l.map blkD) sp)
    (hk : Rows.uptoSmall H ([d, .agg [.lit (.string b.1.data.toList), .lit (.string b.2.1.data.toList), .lit (.int .i64 b.2.2)]] ++ []) = true) :
    Calls Tryd.prog 7 #[u, .agg #[.string b.1, .string b.2.1, .int .i64 b.2.2]] w (RetTrue w) := by
  have h' := of_decide_eq_true hk
  simp only [List.append_nil, Rows.uptoBulkAll, Rows.uptoBulk] at h'
  have e : ∀ x : ByteArray, x.data.toList.length = x.size := fun x => (Lib.size_eq x).symm
  simp only [e] at h'
  obtain ⟨h1, h2⟩ := blks_bulk4 hd (by omega)
  exact matchStates_walk u l b.1 b.2.1 b.2.2 w h hu h1 h2 (by omega) (by omega)
end Go.Proofs.YtbbkkoeipkigdaaDoor
