/- A power of a number, and how often a sixteenth of a doubling fits, as errataref03 tells them. -/
import Derived.Test.YtnognphjndpgkaaDoorLMul
import Derived.Test.YtnognphjndpgkaaDoorLMore
import Derived.Test.YtnognphjndpgkaaDoorLOf
import Derived.Test.YtnognphjndpgkaaDoorPk8
namespace Go.Proofs.YtnognphjndpgkaaDoor
open Go.RowKit

theorem pow_next (j c : Nat) : 2 ^ j * c * 2 = 2 ^ (j + 1) * c := by rw [Nat.pow_succ, Nat.mul_right_comm]
theorem len40 {l : List Nat} (h : Can l) {n k : Nat} (hn : n ≤ 2147483648) (hk : k ≤ 16) (hv : valD l ≤ n ^ k) : l.length ≤ 40 := by
  have h1 : n ^ k ≤ 2147483648 ^ k := Nat.pow_le_pow_left hn _
  have h2 : 2147483648 ^ k ≤ 2147483648 ^ 16 := Nat.pow_le_pow_right (by decide) hk
  exact h.len (Nat.lt_of_le_of_lt (Nat.le_trans hv (Nat.le_trans h1 h2)) (by decide +kernel))

set_option maxRecDepth 100000 in
set_option maxHeartbeats 4000000 in
theorem sixteenth_any (n : Nat) (hn : n ≤ 2147483648) (w : World) :
    Calls Tryd.prog 76 #[.int .i64 n] w fun e w' => ∃ v l, e = .returned v ∧ NRuns w' v l ∧ Can l ∧ valD l = n ^ 16 ∧ Below w.heap.size w w' := by
  have HN := Lib.hid hn; clear hn
  have ho := of_any n HN.out
  go_enter Tryd.func76, Tryd.ntmps76
  go_wp2_with fail
  refine (ho _).mono ?_
  rintro e w1 ⟨v1, l1, rfl, r1, c1, e1, b1⟩
  have R1 := Lib.hid r1; clear r1
  have C1 := Lib.hid c1; clear c1
  have E1 := Lib.hid e1; clear e1
  have B1 := Lib.hid b1; clear b1
  clear ho
  go_wp2
  go_loopg [3, 4] 4 (fun g s3 s4 wr => ∃ (i : Nat) (l : List Nat), s4 = .int .i64 i ∧ i ≤ 4 ∧ 4 - i ≤ g ∧ Hid (NRuns wr s3 l) ∧ Hid (Can l) ∧ Hid (valD l = n ^ 2 ^ i) ∧ Hid (Below w.heap.size w wr))
  case atStart => exact ⟨0, l1, rfl, by omega, by omega, R1, C1, Lib.hid (by rw [E1.out]; simp), B1⟩
  case round =>
    clear R1 C1 E1 B1
    obtain ⟨i, l, rfl, hi, hg, R, C, E, B⟩ := hrel
    by_cases h : i < 4
    · have h' : (i : Int) < 4 := by omega
      have h2 : 2 ^ i ≤ 16 := Nat.le_trans (Nat.pow_le_pow_right (by decide) (show i ≤ 4 by omega)) (by decide)
      have hl := len40 C.out HN.out h2 (Nat.le_of_eq E.out)
      have hm := fun w' (hb : Below wr.heap.size wr w') => mul_any u3 u3 l l w' (R.out.below hb) (R.out.below hb) hl hl C.out.1 C.out.1
      have hm' := hm wr (Below.refl _ _)
      clear hm
      go_wp2_with fail
      refine hm'.mono ?_
      rintro e w2 ⟨v2, l2, rfl, r2, c2, e2, b2⟩
      have R2 := Lib.hid r2; clear r2
      have C2 := Lib.hid c2; clear c2
      have E2 := Lib.hid e2; clear e2
      have B2 := Lib.hid (B.out.trans (b2.mono B.out.size)); clear b2 hm'
      go_wp2
      go_roundg (4 - (i + 1))
      case measure => omega
      case rel => exact ⟨i + 1, l2, by go_num, by omega, by omega, R2, C2, Lib.hid (by rw [E2.out, E.out, ← Nat.pow_add, Nat.pow_succ]; congr 1; omega), B2⟩
    · obtain rfl : i = 4 := by omega
      go_wp2
      go_ret
      exact ⟨_, l, rfl, R.out, C.out, E.out, B.out⟩

set_option maxRecDepth 100000 in
set_option maxHeartbeats 4000000 in
theorem refRatio_ok (a b : Nat) (hb : 1 ≤ b) (hab : b ≤ a) (ha : a ≤ 2147483648) (w : World) :
    Calls Tryd.prog 58 #[.int .i64 a, .int .i64 b] w fun e w' => e = .returned (.tuple #[.int .i64 (rat a b), .int .i64 0]) ∧ Below w.heap.size w w' := by
  have t1 : decide ((b : Int) < 1) = false := decide_eq_false (by omega)
  have t2 : decide ((a : Int) < (b : Int)) = false := decide_eq_false (by omega)
  have t2' : decide (a < b) = false := decide_eq_false (by omega)
  have t3 : decide ((2147483648 : Int) < (a : Int)) = false := decide_eq_false (by omega)
  have g1 : ¬ ((b : Int) < 1) := by omega
  have g2 : ¬ ((a : Int) < (b : Int)) := by omega
  have g3 : ¬ ((2147483648 : Int) < (a : Int)) := by omega
  have HB := Lib.hid hb; clear hb
  have HAB := Lib.hid hab; clear hab
  have HA := Lib.hid ha; clear ha
  have sa := sixteenth_any a HA.out
  have sb := sixteenth_any b (Nat.le_trans HAB.out HA.out)
  go_enter Tryd.func58, Tryd.ntmps58
  go_wp2_with fail
  refine (sa _).mono ?_
  rintro e w1 ⟨v1, l1, rfl, r1, c1, e1, b1⟩
  have R1 := Lib.hid r1; clear r1
  have C1 := Lib.hid c1; clear c1
  have E1 := Lib.hid e1; clear e1
  have B1 := Lib.hid b1; clear b1
  go_wp2_with fail
  refine (sb _).mono ?_
  rintro e w2 ⟨v2, l2, rfl, r2, c2, e2, b2⟩
  have R1' := Lib.hid (R1.out.below b2)
  have R2 := Lib.hid r2; clear r2 R1
  have C2 := Lib.hid c2; clear c2
  have E2 := Lib.hid e2; clear e2
  have B2 := Lib.hid (B1.out.trans (b2.mono B1.out.size)); clear b2 B1
  clear sa sb
  go_wp2
  go_loopg [7, 8] 498 (fun g s7 s8 wr => ∃ (j : Nat) (l : List Nat), s8 = .int .i64 ((j : Int) - 1) ∧ j ≤ 497 ∧ 498 - j ≤ g ∧ Hid (NRuns wr s7 l) ∧ Hid (NRuns wr v1 l1) ∧ Hid (Can l) ∧ Hid (valD l = 2 ^ j * b ^ 16) ∧ Hid (∀ i, i + 1 = j → 2 ^ i * b ^ 16 ≤ a ^ 16) ∧ Hid (Below w.heap.size w wr))
  case atStart => exact ⟨0, l2, rfl, by omega, by omega, R2, R1', C2, Lib.hid (by rw [E2.out]; simp), Lib.hid (fun i hi => by omega), B2⟩
  case round =>
    clear R1' R2 C2 E2 B2
    obtain ⟨j, l, rfl, hj, hg, R, R1, C, E, HI, B⟩ := hrel
    have hx := more_any u7 v1 l l1 wr R.out R1.out
    have HM : Hid (moreD l l1 = decide (a ^ 16 < 2 ^ j * b ^ 16)) := Lib.hid (by rw [moreD_iff C.out C1.out, E.out, E1.out])
    obtain ⟨t, ht⟩ : ∃ t, moreD l l1 = t := ⟨_, rfl⟩
    rw [ht] at HM
    rw [ht] at hx
    clear ht
    go_wp2_with fail
    refine hx.mono ?_
    rintro e w3 ⟨rfl, b3⟩
    have R' := Lib.hid (R.out.below b3)
    have R1' := Lib.hid (R1.out.below b3)
    have B3 := Lib.hid (B.out.trans (b3.mono B.out.size))
    clear b3 hx R R1 B
    cases t with
    | true =>
      have hlt := of_decide_eq_true HM.out.symm
      have hj0 : j ≠ 0 := by
        intro h0
        rw [h0, Nat.pow_zero, Nat.one_mul] at hlt
        exact Nat.not_le.2 hlt (Nat.pow_le_pow_left HAB.out 16)
      obtain ⟨i, rfl⟩ : ∃ i, j = i + 1 := ⟨j - 1, by omega⟩
      have HR : Hid (rat a b = i) := Lib.hid (rat_eq HB.out HAB.out (HI.out i rfl) hlt)
      clear hlt hj0
      go_wp2
      go_ret2
      exact ⟨by rw [HR.out]; congr 4; first | done | omega, B3.out⟩
    | false =>
      have HE : Hid (2 ^ j * b ^ 16 ≤ a ^ 16) := Lib.hid (Nat.not_lt.1 (of_decide_eq_false HM.out.symm))
      have hj2 : j ≤ 496 := Nat.le_trans ((le_rat HB.out HAB.out).2 HE.out) (rat_bound HB.out HAB.out HA.out)
      have hl := len40 C.out (k := 16) HA.out (Nat.le_refl _) (by rw [E.out]; exact HE.out)
      have hba : Below w3.heap.size w3 (w3.alloc (.cells #[.int .i64 2] 3)) := (Below.refl _ _).alloc (Nat.le_refl _) _
      have hm := mul_any u7 (.slice (some ⟨w3.heap.size, 0, none⟩) 1 1) l [2] (w3.alloc (.cells #[.int .i64 2] 3)) (R'.out.below hba) (nruns_lit w3 2) hl (by simp) C.out.1 (fun j => by cases j <;> simp)
      have HBA := Lib.hid hba; clear hba
      go_wp2_with fail
      refine hm.mono ?_
      rintro e w4 ⟨v4, l4, rfl, r4, c4, e4, b4⟩
      have hb4 : Below w3.heap.size w3 w4 := HBA.out.trans (b4.mono HBA.out.size)
      have R4 := Lib.hid r4; clear r4
      have C4 := Lib.hid c4; clear c4
      have E4 := Lib.hid e4; clear e4
      have R5 := Lib.hid (R1'.out.below hb4)
      have B4 := Lib.hid (B3.out.trans (hb4.mono B3.out.size)); clear hb4 b4 hm HBA
      go_wp2
      go_roundg (498 - (j + 1))
      case measure => omega
      case rel => exact ⟨j + 1, l4, by go_num, by omega, by omega, R4, R5, C4, Lib.hid (by rw [E4.out, E.out]; exact pow_next j (b ^ 16)), Lib.hid (fun i hi => by obtain rfl : i = j := (by omega); exact HE.out), B4⟩

set_option maxRecDepth 100000 in
set_option maxHeartbeats 4000000 in
theorem refRatio_err (a b : Int) (h : b < 1 ∨ a < b ∨ 2147483648 < a) (w : World) :
    Calls Tryd.prog 58 #[.int .i64 a, .int .i64 b] w fun e w' => e = .returned (.tuple #[.int .i64 0, .int .i64 2]) ∧ Below w.heap.size w w' := by
  by_cases h1 : b < 1
  · go_enter Tryd.func58, Tryd.ntmps58
    go_wp2
    go_ret2
    exact ⟨rfl, Below.refl _ _⟩
  · by_cases h2 : a < b
    · go_enter Tryd.func58, Tryd.ntmps58
      go_wp2
      go_ret2
      exact ⟨rfl, Below.refl _ _⟩
    · have h3 : 2147483648 < a := by omega
      clear h
      go_enter Tryd.func58, Tryd.ntmps58
      go_wp2
      go_ret2
      exact ⟨rfl, Below.refl _ _⟩
end Go.Proofs.YtnognphjndpgkaaDoor
