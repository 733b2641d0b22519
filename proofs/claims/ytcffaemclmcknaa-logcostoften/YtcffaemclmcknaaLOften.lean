/- What is seen more often costs no more. -/
import Derived.Test.YtcffaemclmcknaaLAlive
namespace Go.Proofs.Ytcffaemclmcknaa
open Go.RowKit

/-- c is Cost's answer. -/
def IsC (t k n : Int) (c : Nat) : Prop := 0 ≤ t ∧ t ≤ 1073741824 ∧ 1 ≤ k ∧ k ≤ 4096 ∧ 0 ≤ n ∧ n ≤ t ∧ c = costN t.toNat k.toNat n.toNat

theorem cost_int (t k n : Int) (h1 : 0 ≤ t) (h2 : t ≤ 1073741824) (h3 : 1 ≤ k) (h4 : k ≤ 4096) (h5 : 0 ≤ n) (h6 : n ≤ t) (w : World) :
    Calls Try.prog 13 #[.int .i64 t, .int .i64 k, .int .i64 n] w fun e w' => ∃ c : Nat, e = .returned (.tuple #[.int .i64 c, .int .i64 0]) ∧ Hid (Below w.heap.size w w') ∧ 1 ≤ c ∧ c ≤ 255 ∧ Hid (IsC t k n c) := by
  obtain ⟨a, rfl⟩ := Int.eq_ofNat_of_zero_le h1
  obtain ⟨b, rfl⟩ := Int.eq_ofNat_of_zero_le (show 0 ≤ k by omega)
  obtain ⟨d, rfl⟩ := Int.eq_ofNat_of_zero_le h5
  exact (cost_ok a b d (by omega) (by omega) (by omega) (by omega) w).mono fun e w' h => ⟨costN a b d, h.1, Lib.hid h.2, by unfold costN; omega, by unfold costN; omega, Lib.hid ⟨h1, h2, h3, h4, h5, h6, rfl⟩⟩

theorem isC_le {t k n t' k' n' : Int} {c c' : Nat} (h : IsC t k n c) (h' : IsC t' k' n' c') (ht : t ≤ t') (hk : k ≤ k') (hn : n' ≤ n) : c ≤ c' := by
  obtain ⟨a1, a2, a3, a4, a5, a6, rfl⟩ := h
  obtain ⟨b1, b2, b3, b4, b5, b6, rfl⟩ := h'
  have g1 := rat_mono (a := t.toNat + k.toNat) (a' := t'.toNat + k'.toNat) (b := n.toNat + 1) (by omega) (by omega) (by omega)
  have g2 := rat_anti (a := t'.toNat + k'.toNat) (b := n'.toNat + 1) (b' := n.toNat + 1) (by omega) (by omega) (by omega)
  unfold costN
  omega

set_option maxRecDepth 100000 in
set_option maxHeartbeats 4000000 in
theorem often_any (tt kk nn mm : Nat) (h1 : tt ≤ 4294967295) (h2 : kk ≤ 4294967295) (h3 : nn ≤ 4294967295) (h4 : mm ≤ 4294967295) (w : World) :
    Calls Try.prog 7 #[.agg #[.int .u32 tt, .int .u32 kk, .int .u32 nn, .int .u32 mm]] w (Holds w) := by
  have ca := alive_any
  obtain ⟨t, ht⟩ : ∃ x : Nat, (tt : Int) % 536870912 = (x : Int) := ⟨tt % 536870912, by omega⟩
  have bt : t ≤ 536870911 := by omega
  obtain ⟨k, hk⟩ : ∃ x : Nat, (kk : Int) % 2000 = (x : Int) := ⟨kk % 2000, by omega⟩
  have bk : k ≤ 1999 := by omega
  obtain ⟨a, ha⟩ : ∃ x : Nat, (nn : Int) % ((t : Int) + 1) = (x : Int) := Int.eq_ofNat_of_zero_le (Int.emod_nonneg _ (by omega))
  have ba : a ≤ t := by have := Int.emod_lt_of_pos (nn : Int) (show 0 < (t : Int) + 1 by omega); omega
  obtain ⟨d, hd⟩ : ∃ x : Nat, (mm : Int) % ((t : Int) - (a : Int) + 1) = (x : Int) := Int.eq_ofNat_of_zero_le (Int.emod_nonneg _ (by omega))
  have bd : a + d ≤ t := by have := Int.emod_lt_of_pos (mm : Int) (show 0 < (t : Int) - (a : Int) + 1 by omega); omega
  have z1 : ¬ ((t : Int) + 1 = 0) := by omega
  have z2 : ¬ ((t : Int) - (a : Int) + 1 = 0) := by omega
  go_enter Try.func7, Try.ntmps7
  go_wp2_with fail
  refine (ca _).mono ?_
  rintro e w1 ⟨rfl, b1⟩
  have f0 : w1.cell? ⟨w.heap.size, 0, none⟩ = some (.int .u32 tt) := (b1.cell (by simp)).trans (by simp)
  have f1 : w1.cell? ⟨w.heap.size, 1, none⟩ = some (.int .u32 kk) := (b1.cell (by simp)).trans (by simp)
  have f2 : w1.cell? ⟨w.heap.size, 2, none⟩ = some (.int .u32 nn) := (b1.cell (by simp)).trans (by simp)
  have f3 : w1.cell? ⟨w.heap.size, 3, none⟩ = some (.int .u32 mm) := (b1.cell (by simp)).trans (by simp)
  have B1 : Hid (Below w.heap.size w w1) := Lib.hid (((Below.refl w.heap.size w).alloc (Nat.le_refl _) _).trans (b1.mono (by simp)))
  clear b1
  go_wp2_with fail
  go_quiet (fail)
  go_wp2_with fail
  refine (cost_int _ _ _ (by omega) (by omega) (by omega) (by omega) (by omega) (by omega) _).mono ?_
  rintro e w2 ⟨x, rfl, b2, x1, x2, K1⟩
  have B2 : Hid (Below w.heap.size w w2) := Lib.hid ((below_draws B1.out _).trans (b2.out.mono B1.out.size)); clear b2 f0 f1 f2 f3 B1
  go_wp2_with fail
  refine (cost_int _ _ _ (by omega) (by omega) (by omega) (by omega) (by omega) (by omega) _).mono ?_
  rintro e w3 ⟨y, rfl, b3, y1, y2, K2⟩
  have B3 : Hid (Below w.heap.size w w3) := Lib.hid (B2.out.trans (b3.out.mono B2.out.size)); clear b3 B2
  go_wp2_with fail
  refine (cost_int _ _ _ (by omega) (by omega) (by omega) (by omega) (by omega) (by omega) _).mono ?_
  rintro e w4 ⟨z, rfl, b4, _, _, K3⟩
  have B4 : Hid (Below w.heap.size w w4) := Lib.hid (B3.out.trans (b4.out.mono B3.out.size)); clear b4 B3
  go_wp2_with fail
  refine (cost_int _ _ _ (by omega) (by omega) (by omega) (by omega) (by omega) (by omega) _).mono ?_
  rintro e w5 ⟨v, rfl, b5, _, _, K4⟩
  have B5 : Hid (Below w.heap.size w w5) := Lib.hid (B4.out.trans (b5.out.mono B4.out.size)); clear b5 B4
  have g1 := isC_le K2.out K1.out (by omega) (by omega) (by omega)
  have g2 := isC_le K1.out K3.out (by omega) (by omega) (by omega)
  have g3 := isC_le K1.out K4.out (by omega) (by omega) (by omega)
  clear K1 K2 K3 K4 ht hk ha hd z1 z2 ca
  have i1 : (y : Int) ≤ (x : Int) := by omega
  have i2 : (x : Int) ≤ (z : Int) := by omega
  have i3 : (x : Int) ≤ (v : Int) := by omega
  have i4 : (1 : Int) ≤ (x : Int) := by omega
  have i5 : (x : Int) ≤ 255 := by omega
  have i6 : (1 : Int) ≤ (y : Int) := by omega
  go_wp2
  go_ret
  exact ⟨ret_bool (by first | rfl | exact decide_eq_true (by omega)), B5.out⟩
end Go.Proofs.Ytcffaemclmcknaa
