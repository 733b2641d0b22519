/- MatchMoves under the second form's bound. -/
import Derived.Test.YtbbkkoeipkigdaaDoorPk14
import Derived.Test.YtbbkkoeipkigdaaDoorNMoves
namespace Go.Proofs.YtbbkkoeipkigdaaDoor
open Go.RowKit Go.Shelf
set_option linter.unusedSimpArgs false
set_option linter.unusedVariables false

theorem matchMoves_upto {H : Type} (u : Value) (l : List Blk) (a s b : ByteArray) (w : World) (h : Okw w) (hu : BRuns w u l) {d : DataW H} (hd : (d = .nil ∧ l = []) ∨ ∃ sp, d = .slice (l.map blkD) sp)
    (hk : Rows.uptoSmall H ([.agg [d, .lit (.string a.data.toList), .lit (.string s.data.toList), .lit (.string b.data.toList)]] ++ []) = true) :
    Calls Tryd.prog 5 #[.agg #[u, .string a, .string s, .string b]] w (RetTrue w) := by
  have h' := of_decide_eq_true hk
  simp only [List.append_nil, Rows.uptoBulkAll, Rows.uptoBulk] at h'
  have e : ∀ x : ByteArray, x.data.toList.length = x.size := fun x => (Lib.size_eq x).symm
  simp only [e] at h'
  obtain ⟨h1, h2⟩ := blks_bulk4 hd (by omega)
  exact matchMoves_walk u l a s b w h hu (by omega) h2 (by omega) (by omega) (by omega)
end Go.Proofs.YtbbkkoeipkigdaaDoor
