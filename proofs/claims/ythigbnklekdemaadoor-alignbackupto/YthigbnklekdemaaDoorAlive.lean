/- The document's examples of layer 1 stand. -/
import Derived.Test.YthigbnklekdemaaDoorLetters
namespace Go.Proofs.YthigbnklekdemaaDoor
open Go.RowKit Go.Shelf

/-- The world holds the two tables, as old blocks. -/
def Okw (w : World) : Prop := Tabs w ∧ 0 < w.heap.size ∧ 1 < w.heap.size
theorem Okw.below {w w' : World} (h : Okw w) (hb : Below w.heap.size w w') : Okw w' := ⟨h.1.below hb, Nat.lt_of_lt_of_le h.2.1 hb.size, Nat.lt_of_lt_of_le h.2.2 hb.size⟩

end Go.Proofs.YthigbnklekdemaaDoor
