/- AlignBack, AlignWays, AlignPrefers under the second form's bound. -/
import Derived.Test.YthigbnklekdemaaDoorABack
import Derived.Test.YthigbnklekdemaaDoorAWays
import Derived.Test.YthigbnklekdemaaDoorAPref
import Derived.Test.YthigbnklekdemaaDoorRows
namespace Go.Proofs.YthigbnklekdemaaDoor
open Go.RowKit Go.Shelf
theorem alignBack_upto {H : Type} {d : DataW H} (a b : ByteArray) (u : Value) (l : List St) (w : World) (h : Okw w) (_ : a.size ≤ maxLen) (_ : b.size ≤ maxLen) (hu : StRuns w u l) (hf : stFit l) (hk : Rows.uptoSmall H ([.lit (.string a.data.toList), .lit (.string b.data.toList), d] ++ []) = true) :
    Calls Tryd.prog 5 #[.string a, .string b, u] w (RetTrue w) := by
  have h' := of_decide_eq_true hk
  simp only [List.append_nil, Rows.uptoBulkAll, Rows.uptoBulk] at h'
  exact alignBack_walk a b u l w h hu hf (by rw [Lib.size_eq]; omega) (by rw [Lib.size_eq]; omega)
theorem alignWays_upto {H : Type} (a b c : ByteArray) (w : World) (h : Okw w) (_ : a.size ≤ maxLen) (_ : b.size ≤ maxLen) (_ : c.size ≤ maxLen) (hk : Rows.uptoSmall H ([.lit (.string a.data.toList), .lit (.string b.data.toList), .lit (.string c.data.toList)] ++ []) = true) :
    Calls Tryd.prog 6 #[.string a, .string b, .string c] w (RetTrue w) := by
  have h' := of_decide_eq_true hk
  simp only [List.append_nil, Rows.uptoBulkAll, Rows.uptoBulk] at h'
  exact alignWays_walk a b c w h (by rw [Lib.size_eq]; omega) (by rw [Lib.size_eq]; omega) (by rw [Lib.size_eq]; omega)
theorem alignPrefers_upto {H : Type} (a b : ByteArray) (w : World) (h : Okw w) (_ : a.size ≤ maxLen) (_ : b.size ≤ maxLen) (hk : Rows.uptoSmall H ([.lit (.string a.data.toList), .lit (.string b.data.toList)] ++ []) = true) :
    Calls Tryd.prog 8 #[.string a, .string b] w (RetTrue w) := by
  have h' := of_decide_eq_true hk
  simp only [List.append_nil, Rows.uptoBulkAll, Rows.uptoBulk] at h'
  exact alignPrefers_walk a b w h (by rw [Lib.size_eq]; omega) (by rw [Lib.size_eq]; omega)
end Go.Proofs.YthigbnklekdemaaDoor
