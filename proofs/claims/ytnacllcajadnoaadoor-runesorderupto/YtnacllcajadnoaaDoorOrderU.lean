/- RunesOrder under the second form's bound: two strings of together at most so many letters. -/
import Derived.Test.YtnacllcajadnoaaDoorOrder
import Derived.Test.YtnacllcajadnoaaDoorRows
namespace Go.Proofs.YtnacllcajadnoaaDoor
open Go.RowKit Go.Shelf
theorem small_two {H : Type} (a b : List UInt8) (h : Rows.uptoSmall H ([.lit (.string a), .lit (.string b)] ++ []) = true) : a.length ≤ 1048576 ∧ b.length ≤ 1048576 := by
  have h' := of_decide_eq_true h
  simp only [List.append_nil, Rows.uptoBulkAll, Rows.uptoBulk] at h'
  exact ⟨by omega, by omega⟩
theorem order_upto {H : Type} (a b : ByteArray) (w : World) (h : Okw w) (_ : a.size ≤ maxLen) (_ : b.size ≤ maxLen) (hk : Rows.uptoSmall H ([.lit (.string a.data.toList), .lit (.string b.data.toList)] ++ []) = true) :
    Calls Tryd.prog 7 #[.string a, .string b] w (RetTrue w) := by
  have hs := small_two _ _ hk
  rw [← Lib.size_eq, ← Lib.size_eq] at hs
  exact order_walk a b w h hs.1 hs.2
end Go.Proofs.YtnacllcajadnoaaDoor
