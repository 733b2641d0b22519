/- Ratio is the document's; so are Cost and Sum. -/
import Derived.Test.YtcffaemclmcknaaLAlive
import Derived.Test.YtcffaemclmcknaaLSixt
namespace Go.Proofs.Ytcffaemclmcknaa
open Go.RowKit

set_option maxRecDepth 100000 in
set_option maxHeartbeats 4000000 in
theorem ratios_any (a b : Int) (_h0 : -9223372036854775808 ≤ a ∧ a ≤ 9223372036854775807) (_h1 : -9223372036854775808 ≤ b ∧ b ≤ 9223372036854775807) (w : World) :
    Calls Try.prog 3 #[.int .i64 a, .int .i64 b] w (Holds w) := by
  have ca := alive_any
  obtain ⟨z, f, hc, hr⟩ : ∃ z f : Int, (∀ w, Calls Try.prog 11 #[.int .i64 a, .int .i64 b] w fun e w' => e = .returned (.tuple #[.int .i64 z, .int .i64 f]) ∧ Below w.heap.size w w') ∧
      (∀ w, Calls Try.prog 12 #[.int .i64 a, .int .i64 b] w fun e w' => e = .returned (.tuple #[.int .i64 z, .int .i64 f]) ∧ Below w.heap.size w w') := by
    by_cases h : b < 1 ∨ a < b ∨ 2147483648 < a
    · exact ⟨0, 2, ratio_err a b h, refRatio_err a b h⟩
    · obtain ⟨a, rfl⟩ := Int.eq_ofNat_of_zero_le (show 0 ≤ a by omega)
      obtain ⟨b, rfl⟩ := Int.eq_ofNat_of_zero_le (show 0 ≤ b by omega)
      exact ⟨rat a b, 0, ratio_ok a b (by omega) (by omega) (by omega), refRatio_ok a b (by omega) (by omega) (by omega)⟩
  clear _h0 _h1
  go_enter Try.func3, Try.ntmps3
  go_wp2_with fail
  refine (ca _).mono ?_
  rintro e w1 ⟨rfl, b1⟩
  have B1 := Lib.hid b1; clear b1
  go_wp2_with fail
  refine (hc _).mono ?_
  rintro e w2 ⟨rfl, b2⟩
  have B2 := Lib.hid (B1.out.trans (b2.mono B1.out.size)); clear b2
  go_wp2_with fail
  refine (hr _).mono ?_
  rintro e w3 ⟨rfl, b3⟩
  have B3 := Lib.hid (B2.out.trans (b3.mono B2.out.size)); clear b3
  clear hc hr ca
  go_wp2
  go_ret
  exact ⟨ret_bool (by first | rfl | simp), B3.out⟩
end Go.Proofs.Ytcffaemclmcknaa
