/- Cost and Sum. -/
import Derived.Test.YtcffaemclmcknaaLRatio
namespace Go.Proofs.Ytcffaemclmcknaa
open Go.RowKit

/-- What something costs. -/
def costN (t k n : Nat) : Nat := min (max (rat (t + k) (n + 1)) 1) 255

set_option maxRecDepth 100000 in
set_option maxHeartbeats 4000000 in
theorem cost_ok (t k n : Nat) (ht : t ≤ 1073741824) (hk1 : 1 ≤ k) (hk : k ≤ 4096) (hn : n ≤ t) (w : World) :
    Calls Try.prog 13 #[.int .i64 t, .int .i64 k, .int .i64 n] w fun e w' => e = .returned (.tuple #[.int .i64 (costN t k n), .int .i64 0]) ∧ Below w.heap.size w w' := by
  have hr := ratio_ok (t + k) (n + 1) (by omega) (by omega) (by omega)
  obtain ⟨r, hr0⟩ : ∃ r, rat (t + k) (n + 1) = r := ⟨_, rfl⟩
  have hr2 : r ≤ 496 := by rw [← hr0]; exact rat_bound (by omega) (by omega) (by omega)
  rw [hr0] at hr
  have HC : Hid (costN t k n = min (max r 1) 255) := Lib.hid (by rw [costN, hr0])
  clear hr0
  have t1 : decide ((t : Int) < 0) = false := decide_eq_false (by omega)
  have t2 : decide ((1073741824 : Int) < (t : Int)) = false := decide_eq_false (by omega)
  have t3 : decide ((k : Int) < 1) = false := decide_eq_false (by omega)
  have t4 : decide ((4096 : Int) < (k : Int)) = false := decide_eq_false (by omega)
  have t5 : decide ((n : Int) < 0) = false := decide_eq_false (by omega)
  have t6 : decide ((t : Int) < (n : Int)) = false := decide_eq_false (by omega)
  have t6' : decide (t < n) = false := decide_eq_false (by omega)
  go_enter Try.func13, Try.ntmps13
  go_wp2_with fail
  refine (hr _).mono ?_
  rintro e w1 ⟨rfl, b1⟩
  have B1 := Lib.hid b1; clear b1
  by_cases c1 : r < 1
  · have e0 : r = 0 := by omega
    subst e0
    go_wp2
    go_ret2
    exact ⟨by rw [HC.out]; rfl, B1.out⟩
  · by_cases c2 : 255 < r
    · have c1' : ¬ ((r : Int) < 1) := by omega
      have c2' : (255 : Int) < (r : Int) := by omega
      go_wp2
      go_ret2
      exact ⟨by rw [HC.out, show min (max r 1) 255 = 255 by omega]; rfl, B1.out⟩
    · have c1' : ¬ ((r : Int) < 1) := by omega
      have c2' : ¬ ((255 : Int) < (r : Int)) := by omega
      go_wp2
      go_ret2
      exact ⟨by rw [HC.out, show min (max r 1) 255 = r by omega]; rfl, B1.out⟩

/-- What Cost asks of its numbers. -/
def costOK (t k n : Int) : Bool := decide (0 ≤ t) && decide (t ≤ 1073741824) && decide (1 ≤ k) && decide (k ≤ 4096) && decide (0 ≤ n) && decide (n ≤ t)

set_option maxRecDepth 100000 in
set_option maxHeartbeats 4000000 in
theorem cost_err (t k n : Int) (h : t < 0 ∨ 1073741824 < t ∨ k < 1 ∨ 4096 < k ∨ n < 0 ∨ t < n) (w : World) :
    Calls Try.prog 13 #[.int .i64 t, .int .i64 k, .int .i64 n] w fun e w' => e = .returned (.tuple #[.int .i64 0, .int .i64 2]) ∧ w' = w := by
  by_cases h1 : t < 0
  · go_enter Try.func13, Try.ntmps13
    go_wp2
    go_ret2
    exact ⟨rfl, rfl⟩
  by_cases h2 : 1073741824 < t
  · go_enter Try.func13, Try.ntmps13
    go_wp2
    go_ret2
    exact ⟨rfl, rfl⟩
  by_cases h3 : k < 1
  · go_enter Try.func13, Try.ntmps13
    go_wp2
    go_ret2
    exact ⟨rfl, rfl⟩
  by_cases h4 : 4096 < k
  · go_enter Try.func13, Try.ntmps13
    go_wp2
    go_ret2
    exact ⟨rfl, rfl⟩
  by_cases h5 : n < 0
  · go_enter Try.func13, Try.ntmps13
    go_wp2
    go_ret2
    exact ⟨rfl, rfl⟩
  · have h6 : t < n := by omega
    clear h
    go_enter Try.func13, Try.ntmps13
    go_wp2
    go_ret2
    exact ⟨rfl, rfl⟩

/-- Two costs together. -/
def sumC (a b : Int) : Int := if a < 0 ∨ b < 0 then 0 else min (a + b) 4351

set_option maxRecDepth 100000 in
set_option maxHeartbeats 4000000 in
theorem sum_any (a b : Int) (w : World) :
    Calls Try.prog 15 #[.int .i64 a, .int .i64 b] w fun e w' => e = .returned (.int .i64 (sumC a b)) ∧ w' = w := by
  by_cases h1 : a < 0
  · go_enter Try.func15, Try.ntmps15
    go_wp2
    go_ret
    exact ⟨ret_int (by rw [sumC, if_pos (.inl h1)]), rfl⟩
  by_cases h2 : b < 0
  · go_enter Try.func15, Try.ntmps15
    go_wp2
    go_ret
    exact ⟨ret_int (by rw [sumC, if_pos (.inr h2)]), rfl⟩
  · have HS : Hid (sumC a b = min (a + b) 4351) := Lib.hid (if_neg (by omega))
    have ha : 0 ≤ a := by omega
    have hb : 0 ≤ b := by omega
    clear h1 h2
    go_enter Try.func15, Try.ntmps15
    go_wp2
    all_goals
      go_ret
      exact ⟨ret_int (by rw [HS.out]; omega), rfl⟩

set_option maxRecDepth 100000 in
set_option maxHeartbeats 4000000 in
theorem refSum_any (a b : Int) (w : World) (hb1 : b ≤ 9223372036854775807) (ha1 : a ≤ 9223372036854775807) :
    Calls Try.prog 16 #[.int .i64 a, .int .i64 b] w fun e w' => e = .returned (.int .i64 (sumC a b)) ∧ w' = w := by
  by_cases h1 : a < 0
  · go_enter Try.func16, Try.ntmps16
    go_wp2
    go_ret
    exact ⟨ret_int (by rw [sumC, if_pos (.inl h1)]), rfl⟩
  by_cases h2 : b < 0
  · go_enter Try.func16, Try.ntmps16
    go_wp2
    go_ret
    exact ⟨ret_int (by rw [sumC, if_pos (.inr h2)]), rfl⟩
  have HS : Hid (sumC a b = min (a + b) 4351) := Lib.hid (if_neg (by omega))
  by_cases h3 : 4351 < a
  · go_enter Try.func16, Try.ntmps16
    go_wp2
    go_ret
    exact ⟨ret_int (by rw [HS.out]; omega), rfl⟩
  by_cases h4 : 4351 < b
  · go_enter Try.func16, Try.ntmps16
    go_wp2
    go_ret
    exact ⟨ret_int (by rw [HS.out]; omega), rfl⟩
  by_cases h5 : 4351 < a + b
  · go_enter Try.func16, Try.ntmps16
    go_wp2
    go_ret
    exact ⟨ret_int (by rw [HS.out]; omega), rfl⟩
  · go_enter Try.func16, Try.ntmps16
    go_wp2
    go_ret
    exact ⟨ret_int (by rw [HS.out]; omega), rfl⟩
end Go.Proofs.Ytcffaemclmcknaa
