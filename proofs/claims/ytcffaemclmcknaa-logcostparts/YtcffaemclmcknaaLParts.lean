/- What is between is together, or one more. -/
import Derived.Test.YtcffaemclmcknaaLAlive
namespace Go.Proofs.Ytcffaemclmcknaa
open Go.RowKit

set_option maxRecDepth 100000 in
set_option maxHeartbeats 4000000 in
theorem parts_any (a b c : Nat) (ha : a ≤ 4294967295) (hb : b ≤ 4294967295) (hc : c ≤ 4294967295) (w : World) :
    Calls Try.prog 6 #[.int .u32 a, .int .u32 b, .int .u32 c] w (Holds w) := by
  have ca := alive_any
  obtain ⟨x, hx⟩ : ∃ x : Nat, (a : Int) % 2147483648 = (x : Int) := ⟨a % 2147483648, by omega⟩
  obtain ⟨y, hy⟩ : ∃ x : Nat, (b : Int) % 2147483648 = (x : Int) := ⟨b % 2147483648, by omega⟩
  obtain ⟨z, hz⟩ : ∃ x : Nat, (c : Int) % 2147483648 = (x : Int) := ⟨c % 2147483648, by omega⟩
  have bx : x ≤ 2147483647 := by omega
  have bY : y ≤ 2147483647 := by omega
  have bz : z ≤ 2147483647 := by omega
  go_enter Try.func6, Try.ntmps6
  go_wp2_with fail
  refine (ca _).mono ?_
  rintro e w1 ⟨rfl, b1⟩
  have B1 := Lib.hid b1; clear b1
  go_wp2_with fail
  all_goals
    refine (ratio_int _ _ (by omega) (by omega) (by omega) _).mono ?_
    rintro e w2 ⟨k, rfl, B2, bk, K1⟩
    go_wp2_with fail
    refine (ratio_int _ _ (by omega) (by omega) (by omega) _).mono ?_
    rintro e w3 ⟨m, rfl, B3, bm, K2⟩
    go_wp2_with fail
    refine (ratio_int _ _ (by omega) (by omega) (by omega) _).mono ?_
    rintro e w4 ⟨n, rfl, B4, bn, K3⟩
    have B : Hid (Below w.heap.size w w4) := Lib.hid (((B1.out.trans (B2.out.mono B1.out.size)).trans (B3.out.mono (Nat.le_trans B1.out.size B2.out.size))).trans (B4.out.mono (Nat.le_trans B1.out.size (Nat.le_trans B2.out.size B3.out.size))))
    clear B1 B2 B3 B4 ca
    rcases isK_parts K1.out K2.out K3.out with hn | hn
    · clear K1 K2 K3
      subst hn
      go_wp2
      go_ret
      exact ⟨ret_bool (decide_eq_true (by omega)), B.out⟩
    · clear K1 K2 K3
      subst hn
      go_wp2
      go_ret
      exact ⟨ret_bool (decide_eq_true (by omega)), B.out⟩
end Go.Proofs.Ytcffaemclmcknaa
