/- How many steps lie between two numbers. -/
import Derived.Test.YtcffaemclmcknaaLPow
import Derived.Test.YtcffaemclmcknaaLPlain

namespace Go.Proofs.Ytcffaemclmcknaa
open Go.RowKit

/-- Two new variables of eight words, and what is laid into them. -/
theorem two_vars (w : World) (ca cb : Nat → Nat) : ∃ w4 w5 : World,
    (storeCells ⟨w.heap.size, 0, none⟩ (wA ca).toList 0).run Try.prog ((w.alloc (.cells #[.int .u64 0, .int .u64 0, .int .u64 0, .int .u64 0, .int .u64 0, .int .u64 0, .int .u64 0, .int .u64 0] 49)).alloc (.cells #[.int .u64 0, .int .u64 0, .int .u64 0, .int .u64 0, .int .u64 0, .int .u64 0, .int .u64 0, .int .u64 0] 49)) = .ok () w4 ∧
    (storeCells ⟨w.heap.size + 1, 0, none⟩ (wA cb).toList 0).run Try.prog w4 = .ok () w5 ∧
    Hid (RowW w5 w.heap.size ca) ∧ Hid (RowW w5 (w.heap.size + 1) cb) ∧ Hid (Below w.heap.size w w5) ∧ Hid (w5.heap.size = w.heap.size + 2) := by
  have r1 := row_new1 w (.cells (wA fun _ => 0) 49) fun _ => 0
  have r2 := row_new2 w (.cells (wA fun _ => 0) 49) fun _ => 0
  have hb : Below w.heap.size w ((w.alloc (.cells (wA fun _ => 0) 49)).alloc (.cells (wA fun _ => 0) 49)) := ((Below.refl _ _).alloc (Nat.le_refl _) _).alloc (by simp) _
  have r4 := setRow_row' r2 (b := w.heap.size) (by omega) (wA ca)
  refine ⟨_, _, store8 r1 ca, store8 r4 cb, Lib.hid (setRow_row' (setRow_row r1 ca) (by omega) _), Lib.hid (setRow_row r4 cb), Lib.hid (setRow_below (setRow_below hb (Nat.le_refl _) _) (by omega) _), Lib.hid (by simp)⟩

theorem twice_top {a x : Nat} (ha : a ≤ 2147483648) (hx : x ≤ a ^ 16) : x * 2 < topW 8 := by
  have h1 : a ^ 16 ≤ 2147483648 ^ 16 := Nat.pow_le_pow_left ha _
  have h2 : x * 2 ≤ 2147483648 ^ 16 * 2 := Nat.mul_le_mul_right 2 (Nat.le_trans hx h1)
  exact Nat.lt_of_le_of_lt h2 (by decide +kernel)

set_option maxRecDepth 100000 in
set_option maxHeartbeats 4000000 in
theorem part_any (a b : Nat) (hb : 1 ≤ b) (hab : b ≤ a) (ha : a ≤ 2147483648) (w : World) :
    Calls Try.prog 17 #[.int .u64 a, .int .u64 b] w fun e w' => e = .returned (.int .i64 (rat a b)) ∧ Below w.heap.size w w' := by
  have HB := Lib.hid hb; clear hb
  have HAB := Lib.hid hab; clear hab
  have HA := Lib.hid ha; clear ha
  go_enter Try.func17, Try.ntmps17
  have hp1 := power_any a HA.out
  have hp2 := power_any b (Nat.le_trans HAB.out HA.out)
  go_wp2_with fail
  refine (hp1 _).mono ?_
  rintro e w1 ⟨⟨ca, ia, rfl⟩, b1⟩
  have IA := Lib.hid ia; clear ia
  have B1 := Lib.hid b1; clear b1
  go_wp2_with fail
  refine (hp2 _).mono ?_
  rintro e w2 ⟨⟨cb, ib, rfl⟩, b2⟩
  have IB := Lib.hid ib; clear ib
  have B2 := Lib.hid (B1.out.trans (b2.mono B1.out.size)); clear b2
  have ht := times_w IB.out 2 (by decide)
  go_wp2_with fail
  refine (ht _).mono ?_
  rintro e w3 ⟨rfl, b3⟩
  have B3 := Lib.hid (B2.out.trans (b3.mono B2.out.size)); clear b3
  clear ht hp1 hp2 B1 B2
  obtain ⟨w4, w5, s4, s5, R6, R7, B5, Z5⟩ := two_vars w3 ca (dig cb 2)
  have z1 : (wA ca).size = 8 := rfl
  have z2 : (wA (dig cb 2)).size = 8 := rfl
  go_wp2
  clear s4 s5 z1 z2
  obtain ⟨b6, hb6⟩ : ∃ b6, b6 = w3.heap.size := ⟨_, rfl⟩
  rw [← hb6] at R6 R7 B5 Z5 ⊢
  have HL : Hid (w.heap.size ≤ b6) := Lib.hid (by rw [hb6]; exact B3.out.size)
  have HB5 : Hid (Below w.heap.size w w5) := Lib.hid (B3.out.trans (B5.out.mono HL.out))
  have HI : Hid (IsW (dig cb 2) (2 ^ (0 + 1) * b ^ 16)) := Lib.hid (by rw [Nat.mul_comm]; exact IB.out.dig 2 (twice_top (a := b) (Nat.le_trans HAB.out HA.out) (Nat.le_refl _)))
  have HE : Hid (2 ^ 0 * b ^ 16 ≤ a ^ 16) := Lib.hid (by rw [Nat.pow_zero, Nat.one_mul]; exact Nat.pow_le_pow_left HAB.out 16)
  clear B3 B5 hb6
  go_loopg [5] 497 (fun g s5 wr => ∃ (k : Nat) (c : Nat → Nat), k ≤ 496 ∧ 497 - k ≤ g ∧ s5 = .int .i64 k ∧ Hid (IsW c (2 ^ (k + 1) * b ^ 16)) ∧ Hid (2 ^ k * b ^ 16 ≤ a ^ 16) ∧ Hid (Below w.heap.size w wr) ∧ Hid (RowW wr b6 ca) ∧ Hid (RowW wr (b6 + 1) c) ∧ Hid (b6 + 2 ≤ wr.heap.size))
  case atStart => exact ⟨0, _, by omega, by omega, rfl, HI, HE, HB5, R6, R7, Lib.hid (by have := Z5.out; omega)⟩
  case round =>
    clear R6 R7 Z5 HB5 HI HE
    obtain ⟨k, c, hk, hg, rfl, HI, HE, HBL, R6, R7, Z5⟩ := hrel
    obtain ⟨p0, p1, p2, p3, p4, p5, p6, p7⟩ := R6.out.cells
    obtain ⟨r0, r1, r2, r3, r4, r5, r6, r7⟩ := R7.out.cells
    have hx := exceeds_any c ca
    have HG : Hid (gtW c ca 8 = decide (a ^ 16 < 2 ^ (k + 1) * b ^ 16)) := Lib.hid (by rw [gtW_iff c ca HI.out.1 IA.out.1, HI.out.2, IA.out.2])
    obtain ⟨t, ht⟩ : ∃ t, gtW c ca 8 = t := ⟨_, rfl⟩
    rw [ht] at HG
    rw [ht] at hx
    clear ht
    go_wp2_with fail
    refine (hx _).mono ?_
    rintro e w6 ⟨rfl, b6'⟩
    have HR6 := Lib.hid (R6.out.below b6' (by have := Z5.out; omega))
    have HR7 := Lib.hid (R7.out.below b6' (by have := Z5.out; omega))
    have HBM := Lib.hid (HBL.out.trans (b6'.mono HBL.out.size))
    have Z6 : Hid (b6 + 2 ≤ w6.heap.size) := Lib.hid (Nat.le_trans Z5.out b6'.size)
    clear b6' p0 p1 p2 p3 p4 p5 p6 p7 r0 r1 r2 r3 r4 r5 r6 r7 hx
    cases t with
    | true =>
      go_wp2
      go_ret
      exact ⟨ret_int (by rw [rat_eq HB.out HAB.out HE.out (of_decide_eq_true HG.out.symm)]), HBM.out⟩
    | false =>
      have HE2 : Hid (2 ^ (k + 1) * b ^ 16 ≤ a ^ 16) := Lib.hid (Nat.not_lt.1 (of_decide_eq_false HG.out.symm))
      have hk2 : k + 1 ≤ 496 := Nat.le_trans ((le_rat HB.out HAB.out).2 HE2.out) (rat_bound HB.out HAB.out HA.out)
      obtain ⟨r0, r1, r2, r3, r4, r5, r6, r7⟩ := HR7.out.cells
      have htm := times_w HI.out 2 (by decide)
      go_wp2_with fail
      refine (htm _).mono ?_
      rintro e w7 ⟨rfl, b7'⟩
      have HR6' := Lib.hid (HR6.out.below b7' (by have := Z6.out; omega))
      have HR7' := Lib.hid (HR7.out.below b7' (by have := Z6.out; omega))
      have HBN := Lib.hid (HBM.out.trans (b7'.mono HBM.out.size))
      have Z7 : Hid (b6 + 2 ≤ w7.heap.size) := Lib.hid (Nat.le_trans Z6.out b7'.size)
      clear b7' htm r0 r1 r2 r3 r4 r5 r6 r7
      have hst := store8 HR7'.out (dig c 2)
      have hsz : (wA (dig c 2)).size = 8 := rfl
      go_wp2
      go_roundg (497 - (k + 1))
      case measure => omega
      case rel => exact ⟨k + 1, dig c 2, by omega, by omega, by go_num, Lib.hid (by have := HI.out.dig 2 (twice_top HA.out HE2.out); rw [Nat.mul_right_comm, ← Nat.pow_succ] at this; exact this), HE2, Lib.hid (setRow_below HBN.out (by have := HL.out; omega) _), Lib.hid (setRow_row' HR6'.out (by omega) _), Lib.hid (setRow_row HR7'.out _), Lib.hid (by have := Z7.out; simp; omega)⟩
end Go.Proofs.Ytcffaemclmcknaa
