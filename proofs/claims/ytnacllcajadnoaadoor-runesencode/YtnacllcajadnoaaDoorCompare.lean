/- runes.Compare (slices.Compare, cmp.Compare): the order of two lists. -/
import Derived.Test.YtnacllcajadnoaaDoorBase
import Derived.Test.YtnacllcajadnoaaDoorProg
namespace Go.Proofs.YtnacllcajadnoaaDoor
open Go.RowKit

theorem isNaN_any (x : Int) (w : World) : Calls Tryd.prog 45 #[.int .i32 x] w fun e w' => e = .returned (.bool false) ∧ w = w' := by
  go_enter Tryd.func45, Tryd.ntmps45
  go_wp2
  go_ret
  exact ⟨by simp, rfl⟩
def cmpI (x y : Int) : Int := if x < y then -1 else if y < x then 1 else 0
set_option maxHeartbeats 1000000 in
theorem cmp32_any (x y : Int) (w : World) : Calls Tryd.prog 40 #[.int .i32 x, .int .i32 y] w fun e w' => e = .returned (.int .i64 (cmpI x y)) ∧ w = w' := by
  by_cases h1 : x < y
  · go_enter Tryd.func40, Tryd.ntmps40
    go_wp2_with (go_at_call 45; refine (isNaN_any _ _).mono ?_; rintro e w' ⟨rfl, rfl⟩)
    go_ret
    exact ⟨ret_int (by simp [cmpI, h1]), rfl⟩
  · by_cases h2 : y < x
    · go_enter Tryd.func40, Tryd.ntmps40
      go_wp2_with (go_at_call 45; refine (isNaN_any _ _).mono ?_; rintro e w' ⟨rfl, rfl⟩)
      go_ret
      exact ⟨ret_int (by unfold cmpI; rw [if_neg (by omega), if_pos (by omega)]), rfl⟩
    · go_enter Tryd.func40, Tryd.ntmps40
      go_wp2_with (go_at_call 45; refine (isNaN_any _ _).mono ?_; rintro e w' ⟨rfl, rfl⟩)
      go_ret
      exact ⟨ret_int (by unfold cmpI; rw [if_neg (by omega), if_neg (by omega)]), rfl⟩

set_option maxRecDepth 100000 in
set_option maxHeartbeats 1000000 in
theorem slicesCompare_any (u v : Value) (x y : List Int) (w : World) (hx : Runs w u x) (hy : Runs w v y) :
    Calls Tryd.prog 33 #[u, v] w fun e w' => e = .returned (.int .i64 (cmpL x y)) ∧ w = w' := by
  obtain ⟨A, c, rfl, hxc, ⟨hxm, _⟩, hxx⟩ := hx
  obtain ⟨B, d, rfl, hyc, ⟨hym, _⟩, hyy⟩ := hy
  unfold maxLen at hxm hym
  obtain ⟨n, hn⟩ : ∃ n, x.length = n := ⟨_, rfl⟩
  obtain ⟨m, hm⟩ : ∃ m, y.length = m := ⟨_, rfl⟩
  rw [hn] at hxc hxx ⊢
  rw [hm] at hyc hyy ⊢
  have Hn := Lib.hid hn; clear hn
  have Hm := Lib.hid hm; clear hm
  have HX := Lib.hid hxx; clear hxx
  have HY := Lib.hid hyy; clear hyy
  go_enter Tryd.func33, Tryd.ntmps33
  go_wp2
  go_loopg [11] n (fun g s wr => ∃ k : Nat, k ≤ n ∧ k ≤ m ∧ n - k ≤ g ∧ s = .int .i64 k ∧ w = wr ∧ Hid (cmpL x y = cmpL (x.drop k) (y.drop k)))
  case atStart => exact ⟨0, Nat.zero_le _, Nat.zero_le _, by omega, rfl, rfl, Lib.hid (by simp)⟩
  case round =>
    obtain ⟨k, hkn, hkm, hg, rfl, rfl, HC⟩ := hrel
    by_cases h1 : k < n
    · obtain ⟨b, o, rfl, hb, hc1⟩ := HX.out (by omega)
      have e1 := hc1 k h1
      have i1 : (k : Int) < (n : Int) := by omega
      by_cases h2 : k < m
      · obtain ⟨b', o', rfl, hb', hc2⟩ := HY.out (by omega)
        have e2 := hc2 k h2
        clear hc1 hc2
        obtain ⟨p, hp⟩ : ∃ p, x.getD k 0 = p := ⟨_, rfl⟩
        obtain ⟨r, hr⟩ : ∃ r, y.getD k 0 = r := ⟨_, rfl⟩
        have HC2 := Lib.hid (HC.out.trans (cmpL_drop (by rw [Hn.out]; exact h1) (by rw [Hm.out]; exact h2)))
        rw [hp, hr] at HC2
        rw [hp] at e1
        rw [hr] at e2
        clear hp hr
        have i2 : (k : Int) < (m : Int) := by omega
        have cc := cmp32_any p r w
        by_cases l1 : p < r
        · rw [show cmpI p r = -1 by simp [cmpI, l1]] at cc
          have CC := Lib.hid cc
          clear cc
          go_wp2_with (go_at_call 40; refine CC.out.mono ?_; rintro e w' ⟨rfl, rfl⟩)
          go_ret
          exact ⟨ret_int (by rw [HC2.out, if_pos (by omega)]), rfl⟩
        · by_cases l2 : r < p
          · rw [show cmpI p r = 1 by unfold cmpI; rw [if_neg l1, if_pos l2]] at cc
            have CC := Lib.hid cc
            clear cc
            go_wp2_with (go_at_call 40; refine CC.out.mono ?_; rintro e w' ⟨rfl, rfl⟩)
            go_ret
            exact ⟨ret_int (by rw [HC2.out, if_neg (by omega), if_pos (by omega)]), rfl⟩
          · rw [show cmpI p r = 0 by unfold cmpI; rw [if_neg l1, if_neg l2]] at cc
            have CC := Lib.hid cc
            clear cc
            go_wp2_with (go_at_call 40; refine CC.out.mono ?_; rintro e w' ⟨rfl, rfl⟩)
            go_roundg (n - (k + 1))
            case measure => omega
            case rel => exact ⟨k + 1, by omega, by omega, by omega, by go_num, rfl, Lib.hid (by rw [HC2.out, if_neg (by omega), if_neg (by omega)])⟩
      · obtain rfl : m = k := by omega
        have HC2 := Lib.hid (HC.out.trans (cmpL_gt (by simp [Hn.out]; omega) (by simp [Hm.out])))
        clear hc1
        go_wp2
        go_ret
        exact ⟨ret_int (by rw [HC2.out]), rfl⟩
    · obtain rfl : n = k := by omega
      by_cases h2 : n < m
      · have HC2 := Lib.hid (HC.out.trans (cmpL_lt (by simp [Hn.out]) (by simp [Hm.out]; omega)))
        go_wp2
        go_ret
        exact ⟨ret_int (by rw [HC2.out]), rfl⟩
      · obtain rfl : n = m := by omega
        have HC2 := Lib.hid (HC.out.trans (show cmpL (x.drop n) (y.drop n) = 0 from cmpL_eq.2 (by rw [List.drop_of_length_le (by rw [Hn.out]; exact Nat.le_refl _), List.drop_of_length_le (by rw [Hm.out]; exact Nat.le_refl _)])))
        go_wp2
        go_ret
        exact ⟨ret_int (by rw [HC2.out]), rfl⟩

theorem compare_any (u v : Value) (x y : List Int) (w : World) (hx : Runs w u x) (hy : Runs w v y) :
    Calls Tryd.prog 21 #[u, v] w fun e w' => e = .returned (.int .i64 (cmpL x y)) ∧ w = w' := by
  have C := Lib.hid (slicesCompare_any u v x y w hx hy)
  obtain ⟨z, hz⟩ : ∃ z, cmpL x y = z := ⟨_, rfl⟩
  rw [hz] at C ⊢
  clear hz
  go_enter Tryd.func21, Tryd.ntmps21
  go_wp2_with (go_at_call 33; refine C.out.mono ?_; rintro e w' ⟨rfl, rfl⟩)
  go_ret
  exact ⟨rfl, rfl⟩
end Go.Proofs.YtnacllcajadnoaaDoor
