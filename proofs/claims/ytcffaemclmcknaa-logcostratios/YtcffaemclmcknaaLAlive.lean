/- The document's examples. -/
import Derived.Test.YtcffaemclmcknaaLCost
namespace Go.Proofs.Ytcffaemclmcknaa
open Go.RowKit

theorem rat21 : rat 2 1 = 16 := by decide +kernel
theorem rat32 : rat 3 2 = 9 := by decide +kernel
theorem cost15 : costN 15 1 0 = 64 := by decide +kernel

set_option maxRecDepth 100000 in
set_option maxHeartbeats 4000000 in
theorem alive_any (w : World) : Calls Try.prog 10 #[] w fun e w' => e = .returned (.bool true) ∧ Below w.heap.size w w' := by
  have c1 := ratio_ok 2 1 (by decide) (by decide) (by decide)
  have c2 := ratio_ok 3 2 (by decide) (by decide) (by decide)
  have c3 := cost_ok 15 1 0 (by decide) (by decide) (by decide) (by decide)
  rw [rat21] at c1
  rw [rat32] at c2
  rw [cost15] at c3
  go_enter Try.func10, Try.ntmps10
  go_wp2_with fail
  refine (c1 _).mono ?_
  rintro e w1 ⟨rfl, b1⟩
  have B1 := Lib.hid b1; clear b1
  go_wp2_with fail
  refine (c2 _).mono ?_
  rintro e w2 ⟨rfl, b2⟩
  have B2 := Lib.hid (B1.out.trans (b2.mono B1.out.size)); clear b2
  go_wp2_with fail
  refine (c3 _).mono ?_
  rintro e w3 ⟨rfl, b3⟩
  have B3 := Lib.hid (B2.out.trans (b3.mono B2.out.size)); clear b3
  clear c1 c2 c3
  go_wp2
  go_ret
  exact ⟨rfl, B3.out⟩

/-- k is Ratio's answer at p and q. -/
def IsK (p q : Int) (k : Nat) : Prop := 1 ≤ q ∧ q ≤ p ∧ p ≤ 2147483648 ∧ k = rat p.toNat q.toNat

theorem ratio_int (p q : Int) (hq : 1 ≤ q) (hqp : q ≤ p) (hp : p ≤ 2147483648) (w : World) :
    Calls Try.prog 11 #[.int .i64 p, .int .i64 q] w fun e w' => ∃ k : Nat, e = .returned (.tuple #[.int .i64 k, .int .i64 0]) ∧ Hid (Below w.heap.size w w') ∧ k ≤ 496 ∧ Hid (IsK p q k) := by
  obtain ⟨a, rfl⟩ := Int.eq_ofNat_of_zero_le (show 0 ≤ p by omega)
  obtain ⟨b, rfl⟩ := Int.eq_ofNat_of_zero_le (show 0 ≤ q by omega)
  exact (ratio_ok a b (by omega) (by omega) (by omega) w).mono fun e w' h => ⟨rat a b, h.1, Lib.hid h.2, rat_bound (by omega) (by omega) (by omega), Lib.hid ⟨hq, hqp, hp, rfl⟩⟩

theorem isK_parts {x y z : Int} {k m n : Nat} (h1 : IsK x y k) (h2 : IsK y z m) (h3 : IsK x z n) : n = k + m ∨ n = k + m + 1 := by
  obtain ⟨a1, a2, a3, rfl⟩ := h1
  obtain ⟨b1, b2, b3, rfl⟩ := h2
  obtain ⟨c1, c2, c3, rfl⟩ := h3
  exact rat_parts (by omega) (by omega) (by omega)
theorem isK_self {y : Int} {z : Nat} (h : IsK y y z) : z = 0 := by
  obtain ⟨a1, a2, a3, rfl⟩ := h
  exact rat_self (by omega)
theorem isK_mono {x x' y : Int} {k m : Nat} (h : IsK x y k) (h' : IsK x' y m) (hx : x ≤ x') : k ≤ m := by
  obtain ⟨a1, a2, a3, rfl⟩ := h
  obtain ⟨b1, b2, b3, rfl⟩ := h'
  exact rat_mono (by omega) (by omega) (by omega)
theorem isK_anti {x y y' : Int} {k m : Nat} (h : IsK x y k) (h' : IsK x y' m) (hx : y ≤ y') : m ≤ k := by
  obtain ⟨a1, a2, a3, rfl⟩ := h
  obtain ⟨b1, b2, b3, rfl⟩ := h'
  exact rat_anti (by omega) (by omega) (by omega)
theorem isK_double {x y : Int} {k d : Nat} (h : IsK x y k) (h' : IsK (2 * x) y d) : d = k + 16 := by
  obtain ⟨a1, a2, a3, rfl⟩ := h
  obtain ⟨b1, b2, b3, rfl⟩ := h'
  rw [show (2 * x).toNat = 2 * x.toNat by omega]
  exact rat_double (by omega) (by omega)
theorem isK_mul {x y : Int} {k d m : Nat} (h : IsK x y k) (hm : 1 ≤ m) (h' : IsK ((m : Int) * x) ((m : Int) * y) d) : d = k := by
  obtain ⟨a1, a2, a3, rfl⟩ := h
  obtain ⟨b1, b2, b3, rfl⟩ := h'
  obtain ⟨a, rfl⟩ := Int.eq_ofNat_of_zero_le (show 0 ≤ x by omega)
  obtain ⟨b, rfl⟩ := Int.eq_ofNat_of_zero_le (show 0 ≤ y by omega)
  rw [← Int.natCast_mul, ← Int.natCast_mul, Int.toNat_natCast, Int.toNat_natCast, Int.toNat_natCast, Int.toNat_natCast]
  exact rat_mul (by omega) (by omega) hm
theorem isK_sixteen {x y : Int} {k : Nat} (h : IsK x y k) (hx : x ≤ 2 * y) : k ≤ 16 ∧ (k = 16 ↔ x = 2 * y) := by
  obtain ⟨a1, a2, a3, rfl⟩ := h
  have h1 := rat_le_sixteen (a := x.toNat) (b := y.toNat) (by omega) (by omega) (by omega)
  have h2 := rat_sixteen (a := x.toNat) (b := y.toNat) (by omega) (by omega)
  refine ⟨h1, ?_⟩
  constructor
  · intro h; have := h2.1 (by omega); omega
  · intro h; have := h2.2 (by omega); omega

/-- A law's walk ends so: true, and what was there is as it was. -/
def Holds (w : World) (e : Ending) (w' : World) : Prop := e = .returned (.bool true) ∧ Below w.heap.size w w'
end Go.Proofs.Ytcffaemclmcknaa
