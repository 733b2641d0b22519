/- A number of eight words, so many times: word by word, with what is carried. -/
import Derived.Test.YtcffaemclmcknaaLBits
namespace Go.Proofs.Ytcffaemclmcknaa
open Go.RowKit

/-- What is carried into word k. -/
def crr (c : Nat → Nat) (n : Nat) : Nat → Nat
  | 0 => 0
  | k + 1 => (c k * n + crr c n k) / 18446744073709551616
/-- Word k of the product. -/
def dig (c : Nat → Nat) (n k : Nat) : Nat := (c k * n + crr c n k) % 18446744073709551616
/-- The words of a number, of which the first k are done. -/
def mixW (c d : Nat → Nat) (k j : Nat) : Nat := if j < k then d j else c j
/-- Eight words. -/
def wA (c : Nat → Nat) : Array Value := #[.int .u64 (c 0), .int .u64 (c 1), .int .u64 (c 2), .int .u64 (c 3), .int .u64 (c 4), .int .u64 (c 5), .int .u64 (c 6), .int .u64 (c 7)]

theorem crr_le (c : Nat → Nat) (n : Nat) (hc : ∀ k, c k < 18446744073709551616) (k : Nat) : crr c n k ≤ n := by
  induction k with
  | zero => exact Nat.zero_le _
  | succ k ih =>
    have h1 := hc k
    have h2 : c k * n ≤ 18446744073709551615 * n := Nat.mul_le_mul_right n (by omega)
    show (c k * n + crr c n k) / 18446744073709551616 ≤ n
    generalize c k * n = x at *
    omega

theorem step_facts (x n cr : Nat) (hx : x < 18446744073709551616) (hn : n < 18446744073709551616) (hcr : cr ≤ n) :
    ∃ hi lo mo d cr' : Nat, (∀ w, Calls Try.prog 25 #[.int .u64 x, .int .u64 n] w fun e w' => e = .returned (.tuple #[.int .u64 hi, .int .u64 lo]) ∧ w' = w) ∧
      (∀ w, (callFunc 26 #[.int .u64 lo, .int .u64 cr, .int .u64 0]).run Try.prog w = .ok (.value (.tuple #[.int .u64 d, .int .u64 mo])) w) ∧
      IntKind.u64.wrap ((hi : Int) + (mo : Int)) = (cr' : Int) ∧ Hid (d = (x * n + cr) % 18446744073709551616) ∧ Hid (cr' = (x * n + cr) / 18446744073709551616) := by
  have h2 : x * n ≤ 18446744073709551615 * n := Nat.mul_le_mul_right n (by omega)
  refine ⟨x * n / 18446744073709551616, x * n % 18446744073709551616, (x * n % 18446744073709551616 + cr) / 18446744073709551616, (x * n + cr) % 18446744073709551616, (x * n + cr) / 18446744073709551616, fun w => Try.bits_Mul64 x n hx hn w, fun w => ?_, ?_, Lib.hid rfl, Lib.hid rfl⟩
  · have h := add64_n (x * n % 18446744073709551616) cr 0 (by omega) w
    generalize x * n = y at *
    have e1 : (y % 18446744073709551616 + cr + 0) % 18446744073709551616 = (y + cr) % 18446744073709551616 := by omega
    rw [e1, Nat.add_zero] at h
    exact h
  · generalize x * n = y at *
    have e : ∀ z : Int, IntKind.u64.wrap z = z % 18446744073709551616 := fun z => by simp [IntKind.wrap, IntKind.signed, IntKind.bits]
    rw [e]
    omega

set_option maxRecDepth 100000 in
set_option maxHeartbeats 4000000 in
theorem times_any (c : Nat → Nat) (n : Nat) (hc : ∀ k, c k < 18446744073709551616) (hn : n < 18446744073709551616) (w : World) :
    Calls Try.prog 22 #[.agg (wA c), .int .u64 n] w fun e w' => e = .returned (.agg (wA (dig c n))) ∧ Below w.heap.size w w' := by
  have HC := Lib.hid hc; clear hc
  have HN := Lib.hid hn; clear hn
  have i0 : ∀ w : World, (Instr.index 49 (.agg (wA c)) (.int .i64 0)).run Try.prog w = .ok (.int .u64 (c 0)) w := fun _ => by kernel_rfl
  have i1 : ∀ w : World, (Instr.index 49 (.agg (wA c)) (.int .i64 1)).run Try.prog w = .ok (.int .u64 (c 1)) w := fun _ => by kernel_rfl
  have i2 : ∀ w : World, (Instr.index 49 (.agg (wA c)) (.int .i64 2)).run Try.prog w = .ok (.int .u64 (c 2)) w := fun _ => by kernel_rfl
  have i3 : ∀ w : World, (Instr.index 49 (.agg (wA c)) (.int .i64 3)).run Try.prog w = .ok (.int .u64 (c 3)) w := fun _ => by kernel_rfl
  have i4 : ∀ w : World, (Instr.index 49 (.agg (wA c)) (.int .i64 4)).run Try.prog w = .ok (.int .u64 (c 4)) w := fun _ => by kernel_rfl
  have i5 : ∀ w : World, (Instr.index 49 (.agg (wA c)) (.int .i64 5)).run Try.prog w = .ok (.int .u64 (c 5)) w := fun _ => by kernel_rfl
  have i6 : ∀ w : World, (Instr.index 49 (.agg (wA c)) (.int .i64 6)).run Try.prog w = .ok (.int .u64 (c 6)) w := fun _ => by kernel_rfl
  have i7 : ∀ w : World, (Instr.index 49 (.agg (wA c)) (.int .i64 7)).run Try.prog w = .ok (.int .u64 (c 7)) w := fun _ => by kernel_rfl
  simp only [wA] at i0 i1 i2 i3 i4 i5 i6 i7 ⊢
  go_enter Try.func22, Try.ntmps22
  go_wp2
  go_loopg [5, 13] 8 (fun g s5 s13 wr => ∃ k : Nat, k ≤ 8 ∧ 8 - k ≤ g ∧ s5 = .int .u64 (crr c n k) ∧ s13 = .int .i64 k ∧ wr = ((w.alloc (.cells (wA (mixW c (dig c n) k)) 49)).alloc (.cells (wA fun _ => 0) 49)))
  case atStart => exact ⟨0, by omega, by omega, rfl, rfl, rfl⟩
  case round =>
    obtain ⟨k, hk, hg, rfl, rfl, rfl⟩ := hrel
    obtain ⟨hi, lo, mo, d, cr', hmul, hadd, hcr, HD, HC'⟩ := step_facts (c k) n (crr c n k) (HC.out k) HN.out (crr_le c n HC.out k)
    have hk5 : k = 0 ∨ k = 1 ∨ k = 2 ∨ k = 3 ∨ k = 4 ∨ k = 5 ∨ k = 6 ∨ k = 7 ∨ k = 8 := by omega
    rcases hk5 with rfl | rfl | rfl | rfl | rfl | rfl | rfl | rfl | rfl
    · simp only [wA, mixW]
      go_wp2_with (go_at_call 25; refine (hmul _).mono ?_; rintro e w' ⟨rfl, rfl⟩)
      rw [show d = dig c n 0 from HD.out, show cr' = crr c n 1 from HC'.out] at *
      go_roundg (8 - 1)
      case measure => omega
      case rel => exact ⟨1, by omega, by omega, rfl, rfl, rfl⟩
    · simp only [wA, mixW]
      go_wp2_with (go_at_call 25; refine (hmul _).mono ?_; rintro e w' ⟨rfl, rfl⟩)
      rw [show d = dig c n 1 from HD.out, show cr' = crr c n 2 from HC'.out] at *
      go_roundg (8 - 2)
      case measure => omega
      case rel => exact ⟨2, by omega, by omega, rfl, rfl, rfl⟩
    · simp only [wA, mixW]
      go_wp2_with (go_at_call 25; refine (hmul _).mono ?_; rintro e w' ⟨rfl, rfl⟩)
      rw [show d = dig c n 2 from HD.out, show cr' = crr c n 3 from HC'.out] at *
      go_roundg (8 - 3)
      case measure => omega
      case rel => exact ⟨3, by omega, by omega, rfl, rfl, rfl⟩
    · simp only [wA, mixW]
      go_wp2_with (go_at_call 25; refine (hmul _).mono ?_; rintro e w' ⟨rfl, rfl⟩)
      rw [show d = dig c n 3 from HD.out, show cr' = crr c n 4 from HC'.out] at *
      go_roundg (8 - 4)
      case measure => omega
      case rel => exact ⟨4, by omega, by omega, rfl, rfl, rfl⟩
    · simp only [wA, mixW]
      go_wp2_with (go_at_call 25; refine (hmul _).mono ?_; rintro e w' ⟨rfl, rfl⟩)
      rw [show d = dig c n 4 from HD.out, show cr' = crr c n 5 from HC'.out] at *
      go_roundg (8 - 5)
      case measure => omega
      case rel => exact ⟨5, by omega, by omega, rfl, rfl, rfl⟩
    · simp only [wA, mixW]
      go_wp2_with (go_at_call 25; refine (hmul _).mono ?_; rintro e w' ⟨rfl, rfl⟩)
      rw [show d = dig c n 5 from HD.out, show cr' = crr c n 6 from HC'.out] at *
      go_roundg (8 - 6)
      case measure => omega
      case rel => exact ⟨6, by omega, by omega, rfl, rfl, rfl⟩
    · simp only [wA, mixW]
      go_wp2_with (go_at_call 25; refine (hmul _).mono ?_; rintro e w' ⟨rfl, rfl⟩)
      rw [show d = dig c n 6 from HD.out, show cr' = crr c n 7 from HC'.out] at *
      go_roundg (8 - 7)
      case measure => omega
      case rel => exact ⟨7, by omega, by omega, rfl, rfl, rfl⟩
    · simp only [wA, mixW]
      go_wp2_with (go_at_call 25; refine (hmul _).mono ?_; rintro e w' ⟨rfl, rfl⟩)
      rw [show d = dig c n 7 from HD.out, show cr' = crr c n 8 from HC'.out] at *
      go_roundg (8 - 8)
      case measure => omega
      case rel => exact ⟨8, by omega, by omega, rfl, rfl, rfl⟩
    · simp only [wA, mixW]
      clear hmul hadd
      go_wp2
      simp [bodyPost, results, Try.results22, go_sem]
      exact ((Below.refl _ _).alloc (Nat.le_refl _) _).alloc (by simp) _
end Go.Proofs.Ytcffaemclmcknaa
