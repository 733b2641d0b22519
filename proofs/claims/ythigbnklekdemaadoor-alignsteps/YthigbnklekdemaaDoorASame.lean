/- The same steps, as errataref04.Same tells it. -/
import Derived.Test.YthigbnklekdemaaDoorAStep
import Derived.Laws.StructEq
namespace Go.Proofs.YthigbnklekdemaaDoor
open Go.RowKit Go.Shelf

theorem getD_eq_of (x y : List St) (k : Nat) (h : x.getD k (0, 0, 0) ≠ y.getD k (0, 0, 0)) : x ≠ y := by
  rintro rfl; exact h rfl
theorem take_eq_all {α : Type} (x y : List α) (h : x.length = y.length) (ht : x.take x.length = y.take x.length) : x = y := by
  rw [List.take_length] at ht; rw [ht, List.take_of_length_le (by omega)]
theorem take_succ_eq {α : Type} (d : α) (x y : List α) (k : Nat) (hx : k < x.length) (hy : k < y.length) (h : x.take k = y.take k) (he : x.getD k d = y.getD k d) : x.take (k + 1) = y.take (k + 1) := by
  rw [List.take_succ_eq_append_getElem hx, List.take_succ_eq_append_getElem hy, h]
  simp [List.getD_eq_getElem?_getD, hx, hy] at he
  rw [he]

set_option maxRecDepth 100000 in
set_option maxHeartbeats 2000000 in
theorem refSame_any (u v : Value) (x y : List St) (w : World) (hx : StRuns w u x) (hy : StRuns w v y) :
    Calls Tryd.prog 14 #[u, v] w fun e w' => e = .returned (.bool (decide (x = y))) ∧ Drawn w w' := by
  obtain ⟨A, c, rfl, hxc, ⟨hxm, _⟩, hxx⟩ := hx
  obtain ⟨B, d, rfl, hyc, ⟨hym, _⟩, hyy⟩ := hy
  unfold maxLen at hxm hym
  obtain ⟨n, hn⟩ : ∃ n, x.length = n := ⟨_, rfl⟩
  obtain ⟨m, hm⟩ : ∃ m, y.length = m := ⟨_, rfl⟩
  rw [hn] at hxc hxx ⊢
  rw [hm] at hyc hyy ⊢
  have Hn := Lib.hid hn; clear hn
  have Hm := Lib.hid hm; clear hm
  have HX := Lib.hid hxx; clear hxx
  have HY := Lib.hid hyy; clear hyy
  obtain ⟨r, hr⟩ : ∃ r, decide (x = y) = r := ⟨_, rfl⟩
  rw [hr]
  have HR := Lib.hid hr; clear hr
  by_cases hnm : n = m
  · subst hnm
    go_enter Tryd.func14, Tryd.ntmps14
    go_wp2
    go_loopg [13] n (fun g s13 wr => ∃ k q : Nat, k ≤ n ∧ n - k ≤ g ∧ s13 = .int .i64 k ∧ wr = w.drewN q ∧ Hid (x.take k = y.take k))
    case atStart => exact ⟨0, 0, Nat.zero_le _, by omega, rfl, rfl, Lib.hid (by simp)⟩
    case round =>
      obtain ⟨k, q, hkn, hg, rfl, rfl, HC⟩ := hrel
      by_cases h1 : k < n
      · obtain ⟨b, o, rfl, hb, hc1⟩ := HX.out (by omega)
        obtain ⟨b', o', rfl, hb', hc2⟩ := HY.out (by omega)
        obtain ⟨e1, e2, e3⟩ := hc1 k h1
        obtain ⟨f1, f2, f3⟩ := hc2 k h1
        clear hc1 hc2
        have hne := getD_eq_of x y k
        have hst := take_succ_eq (0, 0, 0) x y k (by rw [Hn.out]; exact h1) (by rw [Hm.out]; exact h1) HC.out
        obtain ⟨⟨p1, p2, p3⟩, hp⟩ : ∃ p, x.getD k (0, 0, 0) = p := ⟨_, rfl⟩
        obtain ⟨⟨q1, q2, q3⟩, hq⟩ : ∃ p, y.getD k (0, 0, 0) = p := ⟨_, rfl⟩
        rw [hp, hq] at hne hst
        rw [hp] at e1 e2 e3
        rw [hq] at f1 f2 f3
        have NE := Lib.hid hne; have ST := Lib.hid hst
        clear hne hst hp hq
        have i1 : (k : Int) < (n : Int) := by omega
        have hcs : (p1 = q1 ∧ p2 = q2 ∧ p3 = q3) ∨ (p1 == q1) = false ∨ ((p1 == q1) = true ∧ (p2 == q2) = false) ∨ ((p1 == q1) = true ∧ (p2 == q2) = true ∧ (p3 == q3) = false) := by
          by_cases h1 : p1 = q1
          · by_cases h2 : p2 = q2
            · by_cases h3 : p3 = q3
              · exact .inl ⟨h1, h2, h3⟩
              · exact .inr (.inr (.inr ⟨by simpa using h1, by simpa using h2, by simpa using h3⟩))
            · exact .inr (.inr (.inl ⟨by simpa using h1, by simpa using h2⟩))
          · exact .inr (.inl (by simpa using h1))
        rcases hcs with ⟨rfl, rfl, rfl⟩ | h1 | ⟨h1, h2⟩ | ⟨h1, h2, h3⟩
        · go_wp2
          go_quiet (fail)
          go_wp2
          go_roundg (n - (k + 1))
          case measure => omega
          case rel => exact ⟨k + 1, _, by omega, by omega, by go_num, by first | rfl | rw [World.drewN_drewN], Lib.hid (ST.out (by first | rfl | trivial))⟩
        all_goals
          have hno : x ≠ y := NE.out (by simp_all)
          have HNO := Lib.hid hno
          clear hno
          go_wp2
          go_quiet (fail)
          go_wp2
          go_ret
          exact ⟨ret_bool (by rw [← HR.out]; symm; simpa using HNO.out), by first | exact Drawn.of2 _ _ _ | exact Drawn.of3 _ _ _ _⟩
      · obtain rfl : n = k := by omega
        go_wp2
        go_ret
        exact ⟨ret_bool (by rw [← HR.out, decide_eq_true (take_eq_all x y (by rw [Hn.out, Hm.out]) (by rw [Hn.out]; exact HC.out))]), Drawn.of _ _⟩
  · have h1 : ((n : Int) == (m : Int)) = false := by simp; omega
    go_enter Tryd.func14, Tryd.ntmps14
    go_wp2
    go_ret
    exact ⟨ret_bool (by rw [← HR.out]; symm; rw [decide_eq_false_iff_not]; rintro rfl; exact hnm (Hn.out.symm.trans Hm.out)), Drawn.refl _⟩
end Go.Proofs.YthigbnklekdemaaDoor
