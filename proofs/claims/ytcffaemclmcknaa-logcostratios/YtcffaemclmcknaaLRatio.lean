/- Ratio: how often a sixteenth of a doubling fits between two numbers. -/
import Derived.Test.YtcffaemclmcknaaLPart
import Derived.WalkMore
namespace Go.Proofs.Ytcffaemclmcknaa
open Go.RowKit

set_option maxRecDepth 100000 in
set_option maxHeartbeats 4000000 in
theorem ratio_ok (a b : Nat) (hb : 1 ≤ b) (hab : b ≤ a) (ha : a ≤ 2147483648) (w : World) :
    Calls Try.prog 11 #[.int .i64 a, .int .i64 b] w fun e w' => e = .returned (.tuple #[.int .i64 (rat a b), .int .i64 0]) ∧ Below w.heap.size w w' := by
  have g1 : ¬ ((b : Int) < 1) := by omega
  have g2 : ¬ ((a : Int) < (b : Int)) := by omega
  have g3 : ¬ ((2147483648 : Int) < (a : Int)) := by omega
  have t1 : decide ((b : Int) < 1) = false := by simp; omega
  have t2 : decide ((a : Int) < (b : Int)) = false := by simp; omega
  have t2' : decide (a < b) = false := by simp; omega
  have t3 : decide ((2147483648 : Int) < (a : Int)) = false := by simp; omega
  have HB := Lib.hid hb; clear hb
  have HAB := Lib.hid hab; clear hab
  have HA := Lib.hid ha; clear ha
  go_enter Try.func11, Try.ntmps11
  go_wp2
  go_step3
  go_wp2
  go_step3
  go_wp2
  go_loopg [1, 6] a (fun g s1 s6 wr => ∃ (c k : Nat), s1 = .int .i64 c ∧ s6 = .int .i64 k ∧ c ≤ a ∧ a - c ≤ g ∧ Hid (1 ≤ c) ∧ Hid (rat a b = rat a c + k) ∧ wr = w)
  case atStart => exact ⟨b, 0, rfl, rfl, HAB.out, by omega, HB, Lib.hid rfl, rfl⟩
  case round =>
    obtain ⟨c, k, rfl, rfl, hca, hg, HC, HR, rfl⟩ := hrel
    have hk : k ≤ 496 := by have := HR.out; have := rat_bound HB.out HAB.out HA.out; omega
    by_cases h : a / 2 < c
    · have hp := part_any a c HC.out hca HA.out
      obtain ⟨r, hr⟩ : ∃ r, rat a c = r := ⟨_, rfl⟩
      have hr2 : r ≤ 496 := by rw [← hr]; exact rat_bound HC.out hca HA.out
      rw [hr] at hp HR
      clear hr
      go_wp2_with fail
      refine (hp _).mono ?_
      rintro e w6 ⟨rfl, b6⟩
      have B6 := Lib.hid b6; clear b6
      go_wp2
      rw [Exit.noGoto_ret]
      go_ret2
      exact ⟨by rw [HR.out]; congr 4; go_num, B6.out⟩
    · have h' : ¬ ((a : Int) / 2 < (c : Int)) := by omega
      have hc2 : 2 * c ≤ a := by omega
      have ha2 : a ≤ 2147483648 := HA.out
      go_wp2
      go_roundg (a - 2 * c)
      case measure => have := HC.out; omega
      case rel => exact ⟨2 * c, k + 16, by go_num, by go_num, hc2, by omega, Lib.hid (by have := HC.out; omega), Lib.hid (by rw [HR.out, rat_half HC.out hc2]; omega), rfl⟩

set_option maxRecDepth 100000 in
set_option maxHeartbeats 4000000 in
theorem ratio_err (a b : Int) (h : b < 1 ∨ a < b ∨ 2147483648 < a) (w : World) :
    Calls Try.prog 11 #[.int .i64 a, .int .i64 b] w fun e w' => e = .returned (.tuple #[.int .i64 0, .int .i64 2]) ∧ Below w.heap.size w w' := by
  have hq : (decide (b < 1) || decide (a < b) || decide (2147483648 < a)) = true := by
    rcases h with h | h | h <;> simp [h]
  by_cases h1 : b < 1
  · go_enter Try.func11, Try.ntmps11
    go_wp2
    go_step3
    go_wp2
    rw [Exit.noGoto_ret]
    go_ret2
    exact ⟨rfl, Below.refl _ _⟩
  · by_cases h2 : a < b
    · go_enter Try.func11, Try.ntmps11
      go_wp2
      go_step3
      go_wp2
      rw [Exit.noGoto_ret]
      go_ret2
      exact ⟨rfl, Below.refl _ _⟩
    · have h3 : 2147483648 < a := by omega
      go_enter Try.func11, Try.ntmps11
      go_wp2
      go_step3
      go_wp2
      rw [Exit.noGoto_ret]
      go_ret2
      exact ⟨rfl, Below.refl _ _⟩
end Go.Proofs.Ytcffaemclmcknaa
