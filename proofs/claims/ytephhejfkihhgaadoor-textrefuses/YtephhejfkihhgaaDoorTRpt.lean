/- strings.Repeat of one letter, thrice. -/
import Derived.Test.YtephhejfkihhgaaDoorTOwn2
namespace Go.Proofs.YtephhejfkihhgaaDoor
open Go.RowKit Go.Shelf
theorem repeat3 (w : World) : Calls Tryd.prog 24 #[.string ⟨#[120]⟩, .int .i64 3] w fun e w' => e = .returned (.string ⟨#[120, 120, 120]⟩) ∧ Below w.heap.size w w' := by
  have h := Tryd.strings_Repeat ⟨#[120]⟩ 3 w (by omega) (by show 1 * 3 ≤ 140737488355328; omega)
  refine h.mono ?_
  rintro e w' ⟨rfl, hb⟩
  exact ⟨congrArg (fun x => Ending.returned (Value.string x)) repeatX, hb⟩
end Go.Proofs.YtephhejfkihhgaaDoor
