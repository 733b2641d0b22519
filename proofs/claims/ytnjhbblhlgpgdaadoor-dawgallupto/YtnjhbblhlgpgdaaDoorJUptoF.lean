/- DawgAll under the second form's bound. -/
import Derived.Test.YtnjhbblhlgpgdaaDoorPk6
import Derived.Test.YtnjhbblhlgpgdaaDoorJAll
namespace Go.Proofs.YtnjhbblhlgpgdaaDoor
open Go.RowKit Go.Shelf
set_option linter.unusedSimpArgs false
set_option linter.unusedVariables false

theorem u8_wf10 {a : Int} (ha : (Lit.int .u8 a).wf = true) : 0 ≤ a ∧ a ≤ 255 := by
  simp [Lit.wf, IntKind.min, IntKind.max, IntKind.signed, IntKind.bits] at ha
  omega
theorem dawgAll_upto {H : Type} (u : Value) (l : List Wrd) (a : Int) (w : World) (h : Okw w) (hu : WRuns w u l) {d : DataW H} (hd : (d = .nil ∧ l = []) ∨ ∃ sp, d = .slice (l.map wrdD) sp) (ha : (Lit.int .u8 a).wf = true) (hk : Rows.uptoSmall H ([d, .lit (.int .u8 a)] ++ []) = true) :
    Calls Tryd.prog 5 #[u, .int .u8 a] w (RetTrue w) := by
  have h' := of_decide_eq_true hk
  simp only [List.append_nil, Rows.uptoBulkAll, Rows.uptoBulk] at h'
  obtain ⟨h1, h2⟩ := words_bulk hd (by omega)
  obtain ⟨k1, k2⟩ := u8_wf10 ha
  obtain ⟨st, rfl⟩ : ∃ st : Nat, a = (st : Int) := ⟨a.toNat, by omega⟩
  exact dawgAll_walk u l st (by omega) w h hu h1 h2
end Go.Proofs.YtnjhbblhlgpgdaaDoor
