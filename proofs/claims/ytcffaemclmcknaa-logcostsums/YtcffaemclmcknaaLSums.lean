/- Two costs together, either way. -/
import Derived.Test.YtcffaemclmcknaaLAlive
namespace Go.Proofs.Ytcffaemclmcknaa
open Go.RowKit

set_option maxRecDepth 100000 in
set_option maxHeartbeats 4000000 in
theorem sums_any (a b c : Nat) (ha : a ≤ 65535) (hb : b ≤ 65535) (hc : c ≤ 65535) (w : World) :
    Calls Try.prog 8 #[.int .u16 a, .int .u16 b, .int .u16 c] w (Holds w) := by
  have e0 : sumC a b = min ((a : Int) + b) 4351 := if_neg (by omega)
  have e1 : sumC b a = min ((a : Int) + b) 4351 := by rw [sumC, if_neg (by omega)]; omega
  obtain ⟨s, hs⟩ : ∃ s, s = min (a + b) 4351 := ⟨_, rfl⟩
  have hsI : min ((a : Int) + b) 4351 = (s : Int) := by omega
  rw [hsI] at e0 e1
  have e2 : sumC b c = min ((b : Int) + c) 4351 := if_neg (by omega)
  obtain ⟨p, hp⟩ : ∃ p, p = min (b + c) 4351 := ⟨_, rfl⟩
  have hpI : min ((b : Int) + c) 4351 = (p : Int) := by omega
  rw [hpI] at e2
  obtain ⟨q, hq⟩ : ∃ q, q = min (a + b + c) 4351 := ⟨_, rfl⟩
  have e3 : sumC s c = (q : Int) := by rw [sumC, if_neg (by omega)]; omega
  have e4 : sumC a p = (q : Int) := by rw [sumC, if_neg (by omega)]; omega
  have e5 : sumC (-1 - (a : Int)) b = 0 := if_pos (by omega)
  obtain ⟨m, hm⟩ : ∃ m, m = min a 4351 := ⟨_, rfl⟩
  have e6 : sumC a 0 = (m : Int) := by rw [sumC, if_neg (by omega)]; omega
  have c0 := sum_any a b
  have c1 := sum_any b a
  have c2 := sum_any b c
  have c3 := sum_any s c
  have c4 := sum_any a p
  have c5 := sum_any (-1 - (a : Int)) b
  have c6 := sum_any a 0
  rw [e0] at c0; rw [e1] at c1; rw [e2] at c2; rw [e3] at c3; rw [e4] at c4; rw [e5] at c5; rw [e6] at c6
  have n0 : s ≤ 4351 := by omega
  have n1 : p ≤ 4351 := by omega
  have n2 : q ≤ 4351 := by omega
  have n3 : m ≤ 4351 := by omega
  clear e0 e1 e2 e3 e4 e5 e6 hsI hpI
  have HS := Lib.hid hs; clear hs
  have HP := Lib.hid hp; clear hp
  have HQ := Lib.hid hq; clear hq
  have HM := Lib.hid hm; clear hm
  have ca := alive_any
  have m1 : (if (4351 : Int) < (a : Int) + (b : Int) then (4351 : Int) else (a : Int) + (b : Int)) = (s : Int) := by have := HS.out; split <;> omega
  have m2 : (if (4351 : Int) < (a : Int) then (4351 : Int) else (a : Int)) = (m : Int) := by have := HM.out; split <;> omega
  go_enter Try.func8, Try.ntmps8
  go_wp2_with fail
  refine (ca _).mono ?_
  rintro e w1 ⟨rfl, b1⟩
  have B1 := Lib.hid b1; clear b1
  go_wp2_with fail
  refine (c0 _).mono ?_
  rintro e w2 ⟨rfl, rfl⟩
  go_wp2_with fail
  refine (c1 _).mono ?_
  rintro e w2 ⟨rfl, rfl⟩
  go_wp2_with fail
  refine (c3 _).mono ?_
  rintro e w2 ⟨rfl, rfl⟩
  go_wp2_with fail
  refine (c2 _).mono ?_
  rintro e w2 ⟨rfl, rfl⟩
  go_wp2_with fail
  refine (c4 _).mono ?_
  rintro e w2 ⟨rfl, rfl⟩
  go_wp2_with fail
  refine (c5 _).mono ?_
  rintro e w2 ⟨rfl, rfl⟩
  go_wp2_with fail
  refine (c6 _).mono ?_
  rintro e w2 ⟨rfl, rfl⟩
  go_wp2
  go_ret
  exact ⟨rfl, B1.out⟩
end Go.Proofs.Ytcffaemclmcknaa
