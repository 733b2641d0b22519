/- A number that is doubled has sixteen more. -/
import Derived.Test.YtcffaemclmcknaaLAlive
namespace Go.Proofs.Ytcffaemclmcknaa
open Go.RowKit

set_option maxRecDepth 100000 in
set_option maxHeartbeats 4000000 in
theorem doubles_any (a b c : Nat) (ha : a ≤ 4294967295) (hb : b ≤ 4294967295) (hc : c ≤ 255) (w : World) :
    Calls Try.prog 5 #[.int .u32 a, .int .u32 b, .int .u8 c] w (Holds w) := by
  have ca := alive_any
  obtain ⟨X, hX⟩ : ∃ X : Nat, X = max a b := ⟨_, rfl⟩
  obtain ⟨Y, hY⟩ : ∃ Y : Nat, Y = min a b := ⟨_, rfl⟩
  have m1 : (if (a : Int) < (b : Int) then (b : Int) else (a : Int)) = (X : Int) := by split <;> omega
  have m2 : (if (b : Int) < (a : Int) then (b : Int) else (a : Int)) = (Y : Int) := by split <;> omega
  have m3 : (if a < b then (b : Int) else (a : Int)) = (X : Int) := by split <;> omega
  have m4 : (if b < a then (b : Int) else (a : Int)) = (Y : Int) := by split <;> omega
  have hYX : Y ≤ X := by omega
  have bX : X ≤ 4294967295 := by omega
  clear hX hY
  by_cases h0 : Y < 1
  · have h0' : (Y : Int) < 1 := by omega
    go_enter Try.func5, Try.ntmps5
    go_wp2_with fail
    refine (ca _).mono ?_
    rintro e w1 ⟨rfl, b1⟩
    have B1 := Lib.hid b1; clear b1
    go_wp2_with fail
    go_ret
    exact ⟨rfl, B1.out⟩
  have h0' : ¬ ((Y : Int) < 1) := by omega
  by_cases h1 : 2147483648 < X
  · have h1' : (2147483648 : Int) < (X : Int) := by omega
    have cz : ∀ w, Calls Try.prog 11 #[.int .i64 Y, .int .i64 Y] w fun e w' => ∃ z f : Int, e = .returned (.tuple #[.int .i64 z, .int .i64 f]) ∧ Hid (Below w.heap.size w w') := by
      intro w
      by_cases h2 : 2147483648 < Y
      · exact (ratio_err Y Y (by omega) w).mono fun e w' h => ⟨0, 2, h.1, Lib.hid h.2⟩
      · exact (ratio_int Y Y (by omega) (by omega) (by omega) w).mono fun e w' ⟨k, h, hb, _⟩ => ⟨k, 0, h, hb⟩
    go_enter Try.func5, Try.ntmps5
    go_wp2_with fail
    refine (ca _).mono ?_
    rintro e w1 ⟨rfl, b1⟩
    have B1 := Lib.hid b1; clear b1
    go_wp2_with fail
    refine (ratio_err _ _ (by omega) _).mono ?_
    rintro e w2 ⟨rfl, b2⟩
    have B2 := Lib.hid (B1.out.trans (b2.mono B1.out.size)); clear b2
    go_wp2_with fail
    refine (cz _).mono ?_
    rintro e w3 ⟨z, f, rfl, b3⟩
    have B3 := Lib.hid (B2.out.trans (b3.out.mono B2.out.size)); clear b3
    go_wp2_with fail
    go_ret
    exact ⟨rfl, B3.out⟩
  have h1' : ¬ ((2147483648 : Int) < (X : Int)) := by omega
  have hX1 : 1 ≤ X := by omega
  have hX2 : X ≤ 2147483648 := by omega
  obtain ⟨P, hP⟩ : ∃ P : Nat, P = (c + 1) * X := ⟨_, rfl⟩
  obtain ⟨Q, hQ⟩ : ∃ Q : Nat, Q = (c + 1) * Y := ⟨_, rfl⟩
  have bP : P ≤ 256 * 4294967295 := by rw [hP]; exact Nat.mul_le_mul (by omega) bX
  have bQ : Q ≤ P := by rw [hP, hQ]; exact Nat.mul_le_mul_left _ hYX
  have bQ1 : 1 ≤ Q := by rw [hQ]; exact Nat.mul_pos (by omega) (by omega)
  have r1 : ((c : Int) + 1) * (X : Int) = (P : Int) := by rw [hP, Int.natCast_mul]; rfl
  have r2 : ((c : Int) + 1) * (Y : Int) = (Q : Int) := by rw [hQ, Int.natCast_mul]; rfl
  have HP := Lib.hid hP; clear hP
  have HQ := Lib.hid hQ; clear hQ
  go_enter Try.func5, Try.ntmps5
  go_wp2_with fail
  refine (ca _).mono ?_
  rintro e w1 ⟨rfl, b1⟩
  have B1 := Lib.hid b1; clear b1
  go_wp2_with fail
  refine (ratio_int _ _ (by omega) (by omega) (by omega) _).mono ?_
  rintro e w2 ⟨k, rfl, b2, bk, K1⟩
  have B2 := Lib.hid (B1.out.trans (b2.out.mono B1.out.size)); clear b2
  go_wp2_with fail
  refine (ratio_int _ _ (by omega) (by omega) (by omega) _).mono ?_
  rintro e w3 ⟨z, rfl, b3, bz, K2⟩
  have B3 := Lib.hid (B2.out.trans (b3.out.mono B2.out.size)); clear b3
  have hz := isK_self K2.out
  subst hz
  have hY2 : (Y : Int) ≤ 2147483648 := by omega
  clear K2 B1 B2 ca
  by_cases h2 : 2 * X ≤ 2147483648
  · have h2' : 2 * (X : Int) ≤ 2147483648 := by omega
    go_wp2_with fail
    refine (ratio_int _ _ (by omega) (by omega) (by omega) _).mono ?_
    rintro e w4 ⟨d, rfl, b4, bd, K3⟩
    have B4 := Lib.hid (B3.out.trans (b4.out.mono B3.out.size)); clear b4
    have hd := isK_double K1.out K3.out
    subst hd
    clear K3 B3
    by_cases h3 : P ≤ 2147483648
    · have h3' : (P : Int) ≤ 2147483648 := by omega
      go_wp2_with fail
      refine (ratio_int _ _ (by omega) (by omega) (by omega) _).mono ?_
      rintro e w5 ⟨d, rfl, b5, bd', K4⟩
      have B5 := Lib.hid (B4.out.trans (b5.out.mono B4.out.size)); clear b5
      have hd := isK_mul (m := c + 1) K1.out (by omega) (by have := K4.out; rw [← r1, ← r2] at this; exact this)
      subst hd
      clear K4 B4 K1
      go_wp2
      go_ret
      exact ⟨ret_bool (decide_eq_true (by omega)), B5.out⟩
    · have h3' : ¬ (P : Int) ≤ 2147483648 := by omega
      go_wp2
      go_ret
      exact ⟨ret_bool (decide_eq_true (by omega)), B4.out⟩
  · have h2' : ¬ 2 * (X : Int) ≤ 2147483648 := by omega
    by_cases h3 : P ≤ 2147483648
    · have h3' : (P : Int) ≤ 2147483648 := by omega
      go_wp2_with fail
      refine (ratio_int _ _ (by omega) (by omega) (by omega) _).mono ?_
      rintro e w5 ⟨d, rfl, b5, bd', K4⟩
      have B5 := Lib.hid (B3.out.trans (b5.out.mono B3.out.size)); clear b5
      have hd := isK_mul (m := c + 1) K1.out (by omega) (by have := K4.out; rw [← r1, ← r2] at this; exact this)
      subst hd
      clear K4 B3 K1
      go_wp2
      go_ret
      exact ⟨ret_bool (decide_eq_true (by omega)), B5.out⟩
    · have h3' : ¬ (P : Int) ≤ 2147483648 := by omega
      go_wp2
      go_ret
      exact ⟨ret_bool (decide_eq_true (by omega)), B3.out⟩
end Go.Proofs.Ytcffaemclmcknaa
