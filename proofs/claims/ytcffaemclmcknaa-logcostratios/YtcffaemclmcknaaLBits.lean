/- The library's call math/bits.Add64, at this program's number. -/
import Derived.Shelf.Spec.BitsCarry
import Derived.Test.YtcffaemclmcknaaProg
import Derived.Test.YtcffaemclmcknaaShelf
import Derived.Test.YtcffaemclmcknaaBase
namespace Go.Proofs.Ytcffaemclmcknaa
open Go.RowKit

theorem add64_n (x y c : Nat) (hc : c ≤ 1) (w : World) : (callFunc 26 #[.int .u64 x, .int .u64 y, .int .u64 c]).run Try.prog w =
    .ok (.value (.tuple #[.int .u64 (((x + y + c) % 18446744073709551616 : Nat) : Int), .int .u64 (((x + y + c) / 18446744073709551616 : Nat) : Int)])) w := by
  rw [run_callFunc_extern Try.func26 (by kernel_rfl) (by kernel_rfl) (by kernel_rfl) (e := add64Entry) (by kernel_rfl), run_add64 x y c (by omega) (by omega) (by omega) (by omega)]
  simp only [Result.andThen]
  congr 5 <;> omega

theorem add64_0 (x y : Int) (hx : 0 ≤ x) (hy : 0 ≤ y) (w : World) : (callFunc 26 #[.int .u64 x, .int .u64 y, .int .u64 0]).run Try.prog w =
    .ok (.value (.tuple #[.int .u64 ((x + y) % 18446744073709551616), .int .u64 ((x + y) / 18446744073709551616)])) w := by
  obtain ⟨x, rfl⟩ := Int.eq_ofNat_of_zero_le hx
  obtain ⟨y, rfl⟩ := Int.eq_ofNat_of_zero_le hy
  refine (add64_n x y 0 (by omega) w).trans ?_
  congr 5 <;> omega
end Go.Proofs.Ytcffaemclmcknaa
