/- Cost and Sum are the document's. -/
import Derived.Test.YtcffaemclmcknaaLAlive
import Derived.Test.YtcffaemclmcknaaLSixt
namespace Go.Proofs.Ytcffaemclmcknaa
open Go.RowKit

set_option maxRecDepth 100000 in
set_option maxHeartbeats 4000000 in
theorem refCost_ok (t k n : Nat) (ht : t ≤ 1073741824) (hk1 : 1 ≤ k) (hk : k ≤ 4096) (hn : n ≤ t) (w : World) :
    Calls Try.prog 14 #[.int .i64 t, .int .i64 k, .int .i64 n] w fun e w' => e = .returned (.tuple #[.int .i64 (costN t k n), .int .i64 0]) ∧ Below w.heap.size w w' := by
  have hr := refRatio_ok (t + k) (n + 1) (by omega) (by omega) (by omega)
  obtain ⟨r, hr0⟩ : ∃ r, rat (t + k) (n + 1) = r := ⟨_, rfl⟩
  have hr2 : r ≤ 496 := by rw [← hr0]; exact rat_bound (by omega) (by omega) (by omega)
  rw [hr0] at hr
  have HC : Hid (costN t k n = min (max r 1) 255) := Lib.hid (by rw [costN, hr0])
  clear hr0
  have t1 : decide ((t : Int) < 0) = false := decide_eq_false (by omega)
  have t2 : decide ((1073741824 : Int) < (t : Int)) = false := decide_eq_false (by omega)
  have t3 : decide ((k : Int) < 1) = false := decide_eq_false (by omega)
  have t4 : decide ((4096 : Int) < (k : Int)) = false := decide_eq_false (by omega)
  have t5 : decide ((n : Int) < 0) = false := decide_eq_false (by omega)
  have t6 : decide ((t : Int) < (n : Int)) = false := decide_eq_false (by omega)
  have t6' : decide (t < n) = false := decide_eq_false (by omega)
  go_enter Try.func14, Try.ntmps14
  go_wp2_with fail
  refine (hr _).mono ?_
  rintro e w1 ⟨rfl, b1⟩
  have B1 := Lib.hid b1; clear b1
  by_cases c1 : r < 1
  · have e0 : r = 0 := by omega
    subst e0
    go_wp2
    go_ret2
    exact ⟨by rw [HC.out]; rfl, B1.out⟩
  · by_cases c2 : 255 < r
    · have c1' : ¬ ((r : Int) < 1) := by omega
      have c2' : (255 : Int) < (r : Int) := by omega
      go_wp2
      go_ret2
      exact ⟨by rw [HC.out, show min (max r 1) 255 = 255 by omega]; rfl, B1.out⟩
    · have c1' : ¬ ((r : Int) < 1) := by omega
      have c2' : ¬ ((255 : Int) < (r : Int)) := by omega
      have c3 : (1 : Int) ≤ (r : Int) := by omega
      by_cases c4 : r = 1
      · subst c4
        go_wp2
        go_ret2
        exact ⟨by rw [HC.out]; rfl, B1.out⟩
      · by_cases c5 : r = 255
        · subst c5
          go_wp2
          go_ret2
          exact ⟨by rw [HC.out]; rfl, B1.out⟩
        · have c6 : (1 : Int) < (r : Int) := by omega
          have c7 : (r : Int) < 255 := by omega
          go_wp2
          go_ret2
          exact ⟨by rw [HC.out, show min (max r 1) 255 = r by omega]; rfl, B1.out⟩

set_option maxRecDepth 100000 in
set_option maxHeartbeats 4000000 in
theorem refCost_err (t k n : Int) (h : t < 0 ∨ 1073741824 < t ∨ k < 1 ∨ 4096 < k ∨ n < 0 ∨ t < n) (w : World) :
    Calls Try.prog 14 #[.int .i64 t, .int .i64 k, .int .i64 n] w fun e w' => e = .returned (.tuple #[.int .i64 0, .int .i64 2]) ∧ w' = w := by
  by_cases h1 : t < 0
  · go_enter Try.func14, Try.ntmps14
    go_wp2
    go_ret2
    exact ⟨rfl, rfl⟩
  by_cases h2 : 1073741824 < t
  · go_enter Try.func14, Try.ntmps14
    go_wp2
    go_ret2
    exact ⟨rfl, rfl⟩
  by_cases h3 : k < 1
  · go_enter Try.func14, Try.ntmps14
    go_wp2
    go_ret2
    exact ⟨rfl, rfl⟩
  by_cases h4 : 4096 < k
  · go_enter Try.func14, Try.ntmps14
    go_wp2
    go_ret2
    exact ⟨rfl, rfl⟩
  by_cases h5 : n < 0
  · go_enter Try.func14, Try.ntmps14
    go_wp2
    go_ret2
    exact ⟨rfl, rfl⟩
  · have h6 : t < n := by omega
    clear h
    go_enter Try.func14, Try.ntmps14
    go_wp2
    go_ret2
    exact ⟨rfl, rfl⟩

set_option maxRecDepth 100000 in
set_option maxHeartbeats 4000000 in
theorem costs_any (t k n a b : Int) (ha : a ≤ 9223372036854775807) (hb : b ≤ 9223372036854775807) (w : World) :
    Calls Try.prog 4 #[.agg #[.int .i64 t, .int .i64 k, .int .i64 n, .int .i64 a, .int .i64 b]] w (Holds w) := by
  have ca := alive_any
  obtain ⟨z, f, hc, hr⟩ : ∃ z f : Int, (∀ w, Calls Try.prog 13 #[.int .i64 t, .int .i64 k, .int .i64 n] w fun e w' => e = .returned (.tuple #[.int .i64 z, .int .i64 f]) ∧ Below w.heap.size w w') ∧
      (∀ w, Calls Try.prog 14 #[.int .i64 t, .int .i64 k, .int .i64 n] w fun e w' => e = .returned (.tuple #[.int .i64 z, .int .i64 f]) ∧ Below w.heap.size w w') := by
    by_cases h : t < 0 ∨ 1073741824 < t ∨ k < 1 ∨ 4096 < k ∨ n < 0 ∨ t < n
    · exact ⟨0, 2, fun w => (cost_err t k n h w).mono fun e w' ⟨h1, h2⟩ => ⟨h1, h2 ▸ Below.refl _ _⟩, fun w => (refCost_err t k n h w).mono fun e w' ⟨h1, h2⟩ => ⟨h1, h2 ▸ Below.refl _ _⟩⟩
    · obtain ⟨t, rfl⟩ := Int.eq_ofNat_of_zero_le (show 0 ≤ t by omega)
      obtain ⟨k, rfl⟩ := Int.eq_ofNat_of_zero_le (show 0 ≤ k by omega)
      obtain ⟨n, rfl⟩ := Int.eq_ofNat_of_zero_le (show 0 ≤ n by omega)
      exact ⟨costN t k n, 0, cost_ok t k n (by omega) (by omega) (by omega) (by omega), refCost_ok t k n (by omega) (by omega) (by omega) (by omega)⟩
  have s1 := sum_any a b
  have s2 := fun w => refSum_any a b w hb ha
  obtain ⟨s, hs⟩ : ∃ s, sumC a b = s := ⟨_, rfl⟩
  rw [hs] at s1
  simp only [hs] at s2
  clear hs ha hb
  go_enter Try.func4, Try.ntmps4
  go_wp2_with fail
  refine (ca _).mono ?_
  rintro e w1 ⟨rfl, b1⟩
  have f0 : w1.cell? ⟨w.heap.size, 0, none⟩ = some (.int .i64 t) := (b1.cell (by simp)).trans (by simp)
  have f1 : w1.cell? ⟨w.heap.size, 1, none⟩ = some (.int .i64 k) := (b1.cell (by simp)).trans (by simp)
  have f2 : w1.cell? ⟨w.heap.size, 2, none⟩ = some (.int .i64 n) := (b1.cell (by simp)).trans (by simp)
  have f3 : w1.cell? ⟨w.heap.size, 3, none⟩ = some (.int .i64 a) := (b1.cell (by simp)).trans (by simp)
  have f4 : w1.cell? ⟨w.heap.size, 4, none⟩ = some (.int .i64 b) := (b1.cell (by simp)).trans (by simp)
  have B1 : Hid (Below w.heap.size w w1) := Lib.hid (((Below.refl w.heap.size w).alloc (Nat.le_refl _) _).trans (b1.mono (by simp)))
  clear b1
  go_wp2_with fail
  go_quiet (fail)
  clear f0 f1 f2 f3 f4
  go_wp2_with fail
  refine (hc _).mono ?_
  rintro e w2 ⟨rfl, b2⟩
  have B2 : Hid (Below w.heap.size w w2) := Lib.hid ((below_draws B1.out _).trans (b2.mono B1.out.size)); clear b2
  go_wp2_with fail
  refine (hr _).mono ?_
  rintro e w3 ⟨rfl, b3⟩
  have B3 := Lib.hid (B2.out.trans (b3.mono B2.out.size)); clear b3
  clear hc hr ca B1 B2
  go_wp2_with fail
  refine (s1 _).mono ?_
  rintro e w4 ⟨rfl, rfl⟩
  go_wp2_with fail
  refine (s2 _).mono ?_
  rintro e w5 ⟨rfl, rfl⟩
  go_wp2
  go_ret
  exact ⟨ret_bool (by first | rfl | simp), B3.out⟩
end Go.Proofs.Ytcffaemclmcknaa
