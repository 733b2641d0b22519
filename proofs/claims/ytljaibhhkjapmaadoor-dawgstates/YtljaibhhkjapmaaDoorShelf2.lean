/- slices.SortFunc, sort.Search: the library's contracts at this program's own numbers. -/
import Derived.Shelf.SlSortCmp.WholeK
import Derived.Shelf.SlSorted.Search
import Derived.Test.YtljaibhhkjapmaaDoorProg
namespace Go.Proofs
open Go.Shelf
def Tryd.searchL_ren : Go.Shelf.Ren := ⟨fun | 16 => 84 | n => n, fun | 3 => 3 | 35 => 161 | 4 => 4 | 38 => 185 | n => n, fun | n => n⟩
theorem Tryd.searchL : Go.Proofs.SlLaysO.n16 Tryd.prog Tryd.searchL_ren := {
  mixed := by kernel_rfl
  f16 := Tryd.func84.trans (congrArg some (by kernel_rfl))
  t3 := Tryd.underlying3
  a3 := Tryd.isAgg3
  z3 := Tryd.sizeOf3
  v3 := Tryd.zeroValue3
  t4 := Tryd.underlying4
  a4 := Tryd.isAgg4
  z4 := Tryd.sizeOf4
  v4 := Tryd.zeroValue4
  t35 := Tryd.underlying161
  a35 := Tryd.isAgg161
  z35 := Tryd.sizeOf161
  v35 := Tryd.zeroValue161
  t38 := Tryd.underlying185
  a38 := Tryd.isAgg185
  z38 := Tryd.sizeOf185
  v38 := Tryd.zeroValue185 }
end Go.Proofs
