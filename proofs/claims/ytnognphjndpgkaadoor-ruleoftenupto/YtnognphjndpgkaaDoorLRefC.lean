/- The document's Cost. -/
import Derived.Test.YtnognphjndpgkaaDoorPk9
import Derived.Test.YtnognphjndpgkaaDoorLSixt
namespace Go.Proofs.YtnognphjndpgkaaDoor
open Go.RowKit

set_option maxRecDepth 100000 in
set_option maxHeartbeats 4000000 in
theorem refCost_ok (t k n : Nat) (ht : t ≤ 1073741824) (hk1 : 1 ≤ k) (hk : k ≤ 4096) (hn : n ≤ t) (w : World) :
    Calls Tryd.prog 42 #[.int .i64 t, .int .i64 k, .int .i64 n] w fun e w' => e = .returned (.tuple #[.int .i64 (costN t k n), .int .i64 0]) ∧ Below w.heap.size w w' := by
  have hr := refRatio_ok (t + k) (n + 1) (by omega) (by omega) (by omega)
  obtain ⟨r, hr0⟩ : ∃ r, rat (t + k) (n + 1) = r := ⟨_, rfl⟩
  have hr2 : r ≤ 496 := by rw [← hr0]; exact rat_bound (by omega) (by omega) (by omega)
  rw [hr0] at hr
  have HC : Hid (costN t k n = min (max r 1) 255) := Lib.hid (by rw [costN, hr0])
  clear hr0
  have t1 : decide ((t : Int) < 0) = false := decide_eq_false (by omega)
  have t2 : decide ((1073741824 : Int) < (t : Int)) = false := decide_eq_false (by omega)
  have t3 : decide ((k : Int) < 1) = false := decide_eq_false (by omega)
  have t4 : decide ((4096 : Int) < (k : Int)) = false := decide_eq_false (by omega)
  have t5 : decide ((n : Int) < 0) = false := decide_eq_false (by omega)
  have t6 : decide ((t : Int) < (n : Int)) = false := decide_eq_false (by omega)
  have t6' : decide (t < n) = false := decide_eq_false (by omega)
  go_enter Tryd.func42, Tryd.ntmps42
  go_wp2_with fail
  refine (hr _).mono ?_
  rintro e w1 ⟨rfl, b1⟩
  have B1 := Lib.hid b1; clear b1
  by_cases c1 : r < 1
  · have e0 : r = 0 := by omega
    subst e0
    go_wp2
    go_ret2
    exact ⟨by rw [HC.out]; rfl, B1.out⟩
  · by_cases c2 : 255 < r
    · have c1' : ¬ ((r : Int) < 1) := by omega
      have c2' : (255 : Int) < (r : Int) := by omega
      go_wp2
      go_ret2
      exact ⟨by rw [HC.out, show min (max r 1) 255 = 255 by omega]; first | rfl | exact (show Ending.returned (Value.tuple #[.int .i64 (max 1 (min 255 (r : Int))), .int .i64 0]) = _ from by rw [show max 1 (min 255 (r : Int)) = ((255 : Nat) : Int) by omega]), B1.out⟩
    · have c1' : ¬ ((r : Int) < 1) := by omega
      have c2' : ¬ ((255 : Int) < (r : Int)) := by omega
      have c3 : (1 : Int) ≤ (r : Int) := by omega
      by_cases c4 : r = 1
      · subst c4
        go_wp2
        go_ret2
        exact ⟨by rw [HC.out]; rfl, B1.out⟩
      · by_cases c5 : r = 255
        · subst c5
          go_wp2
          go_ret2
          exact ⟨by rw [HC.out]; rfl, B1.out⟩
        · have c6 : (1 : Int) < (r : Int) := by omega
          have c7 : (r : Int) < 255 := by omega
          go_wp2
          go_ret2
          exact ⟨by rw [HC.out, show min (max r 1) 255 = r by omega]; first | rfl | exact (show Ending.returned (Value.tuple #[.int .i64 (max 1 (min 255 (r : Int))), .int .i64 0]) = _ from by rw [show max 1 (min 255 (r : Int)) = ((r : Nat) : Int) by omega]), B1.out⟩

set_option maxRecDepth 100000 in
set_option maxHeartbeats 4000000 in
theorem refCost_err (t k n : Int) (h : t < 0 ∨ 1073741824 < t ∨ k < 1 ∨ 4096 < k ∨ n < 0 ∨ t < n) (w : World) :
    Calls Tryd.prog 42 #[.int .i64 t, .int .i64 k, .int .i64 n] w fun e w' => e = .returned (.tuple #[.int .i64 0, .int .i64 2]) ∧ w' = w := by
  by_cases h1 : t < 0
  · go_enter Tryd.func42, Tryd.ntmps42
    go_wp2
    go_ret2
    exact ⟨rfl, rfl⟩
  by_cases h2 : 1073741824 < t
  · go_enter Tryd.func42, Tryd.ntmps42
    go_wp2
    go_ret2
    exact ⟨rfl, rfl⟩
  by_cases h3 : k < 1
  · go_enter Tryd.func42, Tryd.ntmps42
    go_wp2
    go_ret2
    exact ⟨rfl, rfl⟩
  by_cases h4 : 4096 < k
  · go_enter Tryd.func42, Tryd.ntmps42
    go_wp2
    go_ret2
    exact ⟨rfl, rfl⟩
  by_cases h5 : n < 0
  · go_enter Tryd.func42, Tryd.ntmps42
    go_wp2
    go_ret2
    exact ⟨rfl, rfl⟩
  · have h6 : t < n := by omega
    clear h
    go_enter Tryd.func42, Tryd.ntmps42
    go_wp2
    go_ret2
    exact ⟨rfl, rfl⟩

end Go.Proofs.YtnognphjndpgkaaDoor
