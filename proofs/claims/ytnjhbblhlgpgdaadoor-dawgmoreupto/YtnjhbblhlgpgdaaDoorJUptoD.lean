/- DawgMore under the second form's bound. -/
import Derived.Test.YtnjhbblhlgpgdaaDoorPk6
import Derived.Test.YtnjhbblhlgpgdaaDoorJMore
namespace Go.Proofs.YtnjhbblhlgpgdaaDoor
open Go.RowKit Go.Shelf
set_option linter.unusedSimpArgs false
set_option linter.unusedVariables false

theorem words_bulk_len {H : Type} {d : DataW H} {l : List Wrd} (hd : (d = .nil ∧ l = []) ∨ ∃ sp, d = .slice (l.map wrdD) sp) (hw : Rows.uptoBulk d ≤ 1048576) : l.length ≤ 1048576 := by
  rcases hd with ⟨_, rfl⟩ | ⟨sp, rfl⟩
  · simp
  simp only [Rows.uptoBulk] at hw
  have key : ∀ l : List Wrd, l.length ≤ Rows.uptoBulkAll (l.map (wrdD (H := H))) := by
    intro l
    induction l with
    | nil => simp
    | cons a l ih =>
      have e : Rows.uptoBulkAll ((a :: l).map (wrdD (H := H))) = a.1.data.toList.length + 1 + (1 + 0) + 1 + Rows.uptoBulkAll (l.map (wrdD (H := H))) := rfl
      rw [e, List.length_cons]
      omega
  have k1 := key l
  omega
theorem dawgMore_upto {H : Type} (u : Value) (l : List Wrd) (x : Wrd) (w : World) (h : Okw w) (hu : WRuns w u l) {d : DataW H} (hd : (d = .nil ∧ l = []) ∨ ∃ sp, d = .slice (l.map wrdD) sp) (hk : Rows.uptoSmall H ([d, .agg [.lit (.string x.1.data.toList), .lit (.int .i64 x.2)]] ++ []) = true) :
    Calls Tryd.prog 9 #[u, .agg #[.string x.1, .int .i64 x.2]] w (RetTrue w) := by
  have h' := of_decide_eq_true hk
  simp only [List.append_nil, Rows.uptoBulkAll, Rows.uptoBulk] at h'
  have h0 := words_bulk_len hd (by omega)
  obtain ⟨h1, h2⟩ := words_bulk hd (by omega)
  exact dawgMore_walk u l x.1 x.2 w h hu (by omega) h2 (by rw [Lib.size_eq]; omega)
end Go.Proofs.YtnjhbblhlgpgdaaDoor
