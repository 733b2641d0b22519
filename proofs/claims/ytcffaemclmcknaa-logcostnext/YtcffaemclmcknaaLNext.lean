/- Between a number and its double there are sixteen. -/
import Derived.Test.YtcffaemclmcknaaLAlive
namespace Go.Proofs.Ytcffaemclmcknaa
open Go.RowKit

set_option maxRecDepth 100000 in
set_option maxHeartbeats 4000000 in
theorem next_any (a b : Nat) (ha : a ≤ 4294967295) (hb : b ≤ 4294967295) (w : World) :
    Calls Try.prog 9 #[.int .u32 a, .int .u32 b] w (Holds w) := by
  have ca := alive_any
  obtain ⟨y, hy⟩ : ∃ x : Nat, (b : Int) % 1048576 = (x : Int) := ⟨b % 1048576, by omega⟩
  have bY : y ≤ 1048575 := by omega
  obtain ⟨t, ht⟩ : ∃ t : Nat, (a : Int) % ((y : Int) + 1 + 1) = (t : Int) := Int.eq_ofNat_of_zero_le (Int.emod_nonneg _ (by omega))
  have bt : t ≤ y + 1 := by have := Int.emod_lt_of_pos (a : Int) (show 0 < (y : Int) + 1 + 1 by omega); omega
  have hne : ¬ ((y : Int) + 1 + 1 = 0) := by omega
  go_enter Try.func9, Try.ntmps9
  go_wp2_with fail
  refine (ca _).mono ?_
  rintro e w1 ⟨rfl, b1⟩
  have B1 := Lib.hid b1; clear b1
  go_wp2_with fail
  refine (ratio_int _ _ (by omega) (by omega) (by omega) _).mono ?_
  rintro e w2 ⟨k, rfl, B2, bk, K1⟩
  go_wp2_with fail
  refine (ratio_int _ _ (by omega) (by omega) (by omega) _).mono ?_
  rintro e w3 ⟨m, rfl, B3, bm, K2⟩
  go_wp2_with fail
  refine (ratio_int _ _ (by omega) (by omega) (by omega) _).mono ?_
  rintro e w4 ⟨n, rfl, B4, bn, K3⟩
  have B : Hid (Below w.heap.size w w4) := Lib.hid (((B1.out.trans (B2.out.mono B1.out.size)).trans (B3.out.mono (Nat.le_trans B1.out.size B2.out.size))).trans (B4.out.mono (Nat.le_trans B1.out.size (Nat.le_trans B2.out.size B3.out.size))))
  clear B1 B2 B3 B4 ca
  have h1 := isK_mono K1.out K2.out (by omega)
  have h2 := isK_anti K2.out K3.out (by omega)
  obtain ⟨h3, h4⟩ := isK_sixteen K1.out (by omega)
  clear K1 K2 K3 hne ht hy
  have i1 : (0 : Int) ≤ (k : Int) := by omega
  have i2 : (k : Int) ≤ 16 := by omega
  have i3 : (k : Int) ≤ (m : Int) := by omega
  have i4 : (n : Int) ≤ (m : Int) := by omega
  by_cases hk : k = 16
  · have hx := h4.1 hk
    have ht2 : t = y + 1 := by omega
    subst hk ht2
    clear h4 hx
    go_wp2
    go_ret
    exact ⟨ret_bool (by simp; omega), B.out⟩
  · have hx : ¬ (y : Int) + 1 + (t : Int) = 2 * ((y : Int) + 1) := fun h => hk (h4.2 h)
    have hk' : ¬ (k : Int) = 16 := by omega
    clear h4
    go_wp2
    go_ret
    exact ⟨ret_bool (by simp [beq_eq_false_iff_ne.2 hk', beq_eq_false_iff_ne.2 hx]), B.out⟩
end Go.Proofs.Ytcffaemclmcknaa
