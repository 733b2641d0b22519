/- The greater of two numbers by their digits, as errataref03.more tells it. -/
import Derived.Test.YtnognphjndpgkaaDoorLRow
namespace Go.Proofs.YtnognphjndpgkaaDoor
open Go.RowKit

set_option maxRecDepth 100000 in
set_option maxHeartbeats 4000000 in
theorem more_any (u v : Value) (x y : List Nat) (w : World) (hx : NRuns w u x) (hy : NRuns w v y) :
    Calls Tryd.prog 77 #[u, v] w fun e w' => e = .returned (.bool (moreD x y)) ∧ Below w.heap.size w w' := by
  obtain ⟨A, c, rfl, hxc, ⟨hxm, _⟩, hxx⟩ := hx
  obtain ⟨B, d, rfl, hyc, ⟨hym, _⟩, hyy⟩ := hy
  unfold maxLen at hxm hym
  have HM : Hid (moreD x y = if x.length = y.length then gtD x y x.length else decide (y.length < x.length)) := Lib.hid rfl
  obtain ⟨n, hn⟩ : ∃ n, x.length = n := ⟨_, rfl⟩
  obtain ⟨m, hm⟩ : ∃ m, y.length = m := ⟨_, rfl⟩
  rw [hn] at hxc hxx HM ⊢
  rw [hm] at hyc hyy HM ⊢
  clear hn hm
  have HX := Lib.hid hxx; clear hxx
  have HY := Lib.hid hyy; clear hyy
  by_cases h : n = m
  · subst h
    have HM2 := Lib.hid (HM.out.trans (if_pos rfl)); clear HM
    go_enter Tryd.func77, Tryd.ntmps77
    go_wp2
    go_loopg [5] n (fun g s5 wr => ∃ k q : Nat, k ≤ n ∧ k ≤ g ∧ s5 = .int .i64 ((k : Int) - 1) ∧ wr = w.drewN q ∧ Hid (moreD x y = gtD x y k))
    case atStart => exact ⟨n, 0, Nat.le_refl _, Nat.le_refl _, rfl, rfl, HM2⟩
    case round =>
      clear HM2
      obtain ⟨k, q, hkn, hg, rfl, rfl, HC⟩ := hrel
      cases k with
      | zero =>
        go_wp2
        go_ret
        exact ⟨ret_bool (by rw [HC.out]; rfl), below_draws (Below.refl _ _) _⟩
      | succ j =>
        obtain ⟨b, o, rfl, hb, hc1⟩ := HX.out (by omega)
        obtain ⟨b', o', rfl, hb', hc2⟩ := HY.out (by omega)
        have e1 := hc1 j (by omega)
        have e2 := hc2 j (by omega)
        clear hc1 hc2
        have HC2 : Hid (moreD x y = if x.getD j 0 = y.getD j 0 then gtD x y j else decide (y.getD j 0 < x.getD j 0)) := Lib.hid (HC.out.trans rfl)
        clear HC
        obtain ⟨p, hp⟩ : ∃ p, x.getD j 0 = p := ⟨_, rfl⟩
        obtain ⟨r, hr⟩ : ∃ r, y.getD j 0 = r := ⟨_, rfl⟩
        rw [hp, hr] at HC2
        rw [hp] at e1
        rw [hr] at e2
        clear hp hr
        have s5 : (((j + 1 : Nat) : Int) - 1) = (j : Int) := by omega
        rw [s5]
        clear s5
        have i1 : (j : Int) < (n : Int) := by omega
        by_cases e : p = r
        · subst e
          have HC3 := Lib.hid (HC2.out.trans (if_pos rfl)); clear HC2
          go_wp2
          go_quiet (fail)
          go_wp2
          go_roundg j
          case measure => omega
          case rel => exact ⟨j, _, by omega, by omega, by go_num, by first | rfl | rw [World.drewN_drewN], HC3⟩
        · have HC3 := Lib.hid (HC2.out.trans (if_neg e)); clear HC2
          have e' : ¬ (p : Int) = (r : Int) := by omega
          by_cases l : r < p
          · have l' : (r : Int) < (p : Int) := by omega
            go_wp2
            go_quiet (fail)
            go_wp2
            go_quiet (fail)
            go_wp2
            go_ret
            exact ⟨ret_bool (by rw [HC3.out]; simp [l]), below_draws (below_draws (below_draws (Below.refl _ _) _) _) _⟩
          · have l' : ¬ (r : Int) < (p : Int) := by omega
            go_wp2
            go_quiet (fail)
            go_wp2
            go_quiet (fail)
            go_wp2
            go_ret
            exact ⟨ret_bool (by rw [HC3.out]; simp [l]), below_draws (below_draws (below_draws (Below.refl _ _) _) _) _⟩
  · have HM2 := Lib.hid (HM.out.trans (if_neg h)); clear HM
    have h' : ¬ ((n : Int) = (m : Int)) := by omega
    go_enter Tryd.func77, Tryd.ntmps77
    go_wp2
    go_ret
    exact ⟨ret_bool (by rw [HM2.out]), Below.refl _ _⟩
end Go.Proofs.YtnognphjndpgkaaDoor
