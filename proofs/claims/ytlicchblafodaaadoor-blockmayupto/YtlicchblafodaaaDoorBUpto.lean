/- BlockMay and BlockLone under the second form's bound: two strings of together at most so many letters. -/
import Derived.Test.YtlicchblafodaaaDoorBLone
import Derived.Test.YtlicchblafodaaaDoorRows
namespace Go.Proofs.YtlicchblafodaaaDoor
open Go.RowKit Go.Shelf
theorem blockMay_upto {H : Type} (a b : ByteArray) (w : World) (h : Okw w) (_ : a.size ≤ maxLen) (_ : b.size ≤ maxLen) (hk : Rows.uptoSmall H ([.lit (.string a.data.toList), .lit (.string b.data.toList)] ++ []) = true) :
    Calls Tryd.prog 6 #[.string a, .string b] w (RetTrue w) := by
  have h' := of_decide_eq_true hk
  simp only [List.append_nil, Rows.uptoBulkAll, Rows.uptoBulk] at h'
  exact blockMay_walk a b w h (by rw [Lib.size_eq]; omega) (by rw [Lib.size_eq]; omega)
theorem blockLone_upto {H : Type} (a b : ByteArray) (w : World) (h : Okw w) (_ : a.size ≤ maxLen) (_ : b.size ≤ maxLen) (hk : Rows.uptoSmall H ([.lit (.string a.data.toList), .lit (.string b.data.toList)] ++ []) = true) :
    Calls Tryd.prog 9 #[.string a, .string b] w (RetTrue w) := by
  have h' := of_decide_eq_true hk
  simp only [List.append_nil, Rows.uptoBulkAll, Rows.uptoBulk] at h'
  exact blockLone_walk a b w h (by rw [Lib.size_eq]; omega) (by rw [Lib.size_eq]; omega)
end Go.Proofs.YtlicchblafodaaaDoor
