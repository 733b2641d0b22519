/- The law RunesBack, walked: what is encoded is decoded, what is decoded is encoded as it was. -/
import Derived.Test.YtephhejfkihhgaaDoorJoin
import Derived.Test.YtephhejfkihhgaaDoorEncode
namespace Go.Proofs.YtephhejfkihhgaaDoor
open Go.RowKit Go.Shelf

theorem mk_toList (l : List UInt8) : (ByteArray.mk l.toArray).data.toList = l := by simp
theorem mk_data (s : ByteArray) (l : List UInt8) (h : l = s.data.toList) : (⟨l.toArray⟩ : ByteArray) = s := by subst h; rfl
theorem rune_i32 {r : Int} (h : Lib.validRune r = true) : -2147483648 ≤ r ∧ r ≤ 2147483647 := by have := rune_bd h; omega


end Go.Proofs.YtephhejfkihhgaaDoor
