/- The order of two lists of runes, as errataref01.Compare and Same tell it. -/
import Derived.Test.YtnacllcajadnoaaDoorBase
import Derived.Test.YtnacllcajadnoaaDoorProg
namespace Go.Proofs.YtnacllcajadnoaaDoor
open Go.RowKit

set_option maxRecDepth 100000 in
set_option maxHeartbeats 1000000 in
theorem refCompare_any (u v : Value) (x y : List Int) (w : World) (hx : Runs w u x) (hy : Runs w v y) :
    Calls Tryd.prog 22 #[u, v] w fun e w' => e = .returned (.int .i64 (cmpL x y)) ∧ Drawn w w' := by
  obtain ⟨A, c, rfl, hxc, ⟨hxm, _⟩, hxx⟩ := hx
  obtain ⟨B, d, rfl, hyc, ⟨hym, _⟩, hyy⟩ := hy
  unfold maxLen at hxm hym
  obtain ⟨n, hn⟩ : ∃ n, x.length = n := ⟨_, rfl⟩
  obtain ⟨m, hm⟩ : ∃ m, y.length = m := ⟨_, rfl⟩
  rw [hn] at hxc hxx ⊢
  rw [hm] at hyc hyy ⊢
  have Hn := Lib.hid hn; clear hn
  have Hm := Lib.hid hm; clear hm
  have HX := Lib.hid hxx; clear hxx
  have HY := Lib.hid hyy; clear hyy
  go_enter Tryd.func22, Tryd.ntmps22
  go_wp2
  go_loopg [5] n (fun g s5 wr => ∃ k q : Nat, k ≤ n ∧ k ≤ m ∧ n - k ≤ g ∧ s5 = .int .i64 k ∧ wr = w.drewN q ∧ Hid (cmpL x y = cmpL (x.drop k) (y.drop k)))
  case atStart => exact ⟨0, 0, Nat.zero_le _, Nat.zero_le _, by omega, rfl, rfl, Lib.hid (by simp)⟩
  case round =>
    obtain ⟨k, q, hkn, hkm, hg, rfl, rfl, HC⟩ := hrel
    by_cases h1 : k < n
    · by_cases h2 : k < m
      · obtain ⟨b, o, rfl, hb, hc1⟩ := HX.out (by omega)
        obtain ⟨b', o', rfl, hb', hc2⟩ := HY.out (by omega)
        have e1 := hc1 k h1
        have e2 := hc2 k h2
        clear hc1 hc2
        obtain ⟨p, hp⟩ : ∃ p, x.getD k 0 = p := ⟨_, rfl⟩
        obtain ⟨r, hr⟩ : ∃ r, y.getD k 0 = r := ⟨_, rfl⟩
        have HC2 := Lib.hid (HC.out.trans (cmpL_drop (by rw [Hn.out]; exact h1) (by rw [Hm.out]; exact h2)))
        rw [hp, hr] at HC2
        rw [hp] at e1
        rw [hr] at e2
        clear hp hr
        have i1 : (k : Int) < (n : Int) := by omega
        have i2 : (k : Int) < (m : Int) := by omega
        by_cases l1 : p < r
        · go_wp2
          go_quiet (fail)
          go_wp2
          go_ret
          exact ⟨ret_int (by rw [HC2.out, if_pos (by omega)]), by first | exact Drawn.of2 _ _ _ | exact Drawn.of3 _ _ _ _⟩
        · by_cases l2 : r < p
          · go_wp2
            go_quiet (fail)
            go_wp2
            go_quiet (fail)
            go_wp2
            go_ret
            exact ⟨ret_int (by rw [HC2.out, if_neg (by omega), if_pos (by omega)]), by first | exact Drawn.of2 _ _ _ | exact Drawn.of3 _ _ _ _⟩
          · go_wp2
            go_quiet (fail)
            go_wp2
            go_quiet (fail)
            go_wp2
            go_roundg (n - (k + 1))
            case measure => omega
            case rel => exact ⟨k + 1, _, by omega, by omega, by omega, by go_num, by first | rfl | rw [World.drewN_drewN], Lib.hid (by rw [HC2.out, if_neg (by omega), if_neg (by omega)])⟩
      · obtain rfl : m = k := by omega
        have HC2 := Lib.hid (HC.out.trans (cmpL_gt (by simp [Hn.out]; omega) (by simp [Hm.out])))
        have i1 : ¬ ((n : Int) < (m : Int)) := by omega
        have i2 : ((m : Int) < (n : Int)) := by omega
        go_wp2
        go_ret
        exact ⟨ret_int (by rw [HC2.out]), Drawn.of _ _⟩
    · obtain rfl : n = k := by omega
      by_cases h2 : n < m
      · have HC2 := Lib.hid (HC.out.trans (cmpL_lt (by simp [Hn.out]) (by simp [Hm.out]; omega)))
        go_wp2
        go_ret
        exact ⟨ret_int (by rw [HC2.out]), Drawn.of _ _⟩
      · obtain rfl : n = m := by omega
        have HC2 := Lib.hid (HC.out.trans (show cmpL (x.drop n) (y.drop n) = 0 from cmpL_eq.2 (by rw [List.drop_of_length_le (by rw [Hn.out]; exact Nat.le_refl _), List.drop_of_length_le (by rw [Hm.out]; exact Nat.le_refl _)])))
        go_wp2
        go_ret
        exact ⟨ret_int (by rw [HC2.out]), Drawn.of _ _⟩

set_option maxHeartbeats 1000000 in
theorem same_any (u v : Value) (x y : List Int) (w : World) (hx : Runs w u x) (hy : Runs w v y) :
    Calls Tryd.prog 14 #[u, v] w fun e w' => e = .returned (.bool (decide (x = y))) ∧ Drawn w w' := by
  have hq : (cmpL x y == 0) = decide (x = y) := by rw [Bool.eq_iff_iff]; simp [cmpL_eq]
  obtain ⟨z, hz⟩ : ∃ z, cmpL x y = z := ⟨_, rfl⟩
  rw [hz] at hq
  have Hq := Lib.hid hq; clear hq
  have c := refCompare_any u v x y w hx hy
  rw [hz] at c
  clear hz
  have C := Lib.hid c; clear c
  go_enter Tryd.func14, Tryd.ntmps14
  go_wp2_with fail
  refine C.out.mono ?_
  rintro e w' ⟨rfl, hd⟩
  go_wp2
  go_ret
  exact ⟨ret_bool Hq.out, hd⟩
end Go.Proofs.YtnacllcajadnoaaDoor
