/- The table of align: whether two beginnings end in one rune, and their distance by those above and on the left. -/
import Derived.Test.YthigbnklekdemaaDoorATable
namespace Go.Proofs.YthigbnklekdemaaDoor
open Go.RowKit

/-- A table as a value: what was read, what should have been, the rows. -/
def tblV (u v d : Value) : Value := .agg #[u, v, d]
def sameB (x y : List Int) (i j : Nat) : Bool := decide (0 < i ∧ 0 < j ∧ x.getD (i - 1) 0 = y.getD (j - 1) 0)

set_option maxRecDepth 100000 in
set_option maxHeartbeats 4000000 in
theorem same_any (u v d : Value) (x y : List Int) (i j : Nat) (w : World) (hx : Runs w u x) (hy : Runs w v y) (lx : x.length ≤ 64) (ly : y.length ≤ 64) (hi : i ≤ x.length) (hj : j ≤ y.length) (hd : ∃ A n c, d = .slice A n c) :
    Calls Tryd.prog 35 #[.agg #[u, v, d], .int .i64 i, .int .i64 j] w fun e w' => e = .returned (.bool (sameB x y i j)) ∧ Below w.heap.size w w' := by
  obtain ⟨A, c, rfl, hxc, ⟨hxm, _⟩, hxx⟩ := hx
  obtain ⟨B, c', rfl, hyc, ⟨hym, _⟩, hyy⟩ := hy
  obtain ⟨D, dn, dc, rfl⟩ := hd
  unfold maxLen at hxm hym
  obtain ⟨n, hn⟩ : ∃ n, x.length = n := ⟨_, rfl⟩
  obtain ⟨m, hm⟩ : ∃ m, y.length = m := ⟨_, rfl⟩
  rw [hn] at hxc hxx lx hi ⊢
  rw [hm] at hyc hyy ly hj ⊢
  clear hn hm
  have HX := Lib.hid hxx; clear hxx
  have HY := Lib.hid hyy; clear hyy
  obtain ⟨res, hres⟩ : ∃ r, sameB x y i j = r := ⟨_, rfl⟩
  rw [hres]
  have HR := Lib.hid hres; clear hres
  have hal : Hid (Below w.heap.size w (w.alloc (.cells #[.slice A n c, .slice B m c', .slice D dn dc] 45))) := Lib.hid ((Below.refl _ _).alloc (Nat.le_refl _) _)
  rcases Nat.eq_zero_or_pos i with hi0 | hi0
  · have hr : res = false := by rw [← HR.out, sameB, decide_eq_false_iff_not]; omega
    subst hr hi0
    go_enter Tryd.func35, Tryd.ntmps35
    go_wp2
    go_quiet (fail)
    go_wp2
    go_ret
    exact ⟨rfl, below_draws hal.out _⟩
  rcases Nat.eq_zero_or_pos j with hj0 | hj0
  · have hr : res = false := by rw [← HR.out, sameB, decide_eq_false_iff_not]; omega
    subst hr hj0
    have g1 : (0 : Int) < (i : Int) := by omega
    go_enter Tryd.func35, Tryd.ntmps35
    go_wp2
    go_quiet (fail)
    go_wp2
    go_ret
    exact ⟨rfl, below_draws hal.out _⟩
  obtain ⟨i', hi'⟩ : ∃ i' : Nat, (i : Int) - 1 = (i' : Int) := ⟨i - 1, by omega⟩
  obtain ⟨j', hj'⟩ : ∃ j' : Nat, (j : Int) - 1 = (j' : Int) := ⟨j - 1, by omega⟩
  have ei : i - 1 = i' := by omega
  have ej : j - 1 = j' := by omega
  obtain ⟨b, o, rfl, hb, hc1⟩ := HX.out (by omega)
  obtain ⟨b', o', rfl, hb', hc2⟩ := HY.out (by omega)
  have f1 := hc1 i' (by omega)
  have f2 := hc2 j' (by omega)
  clear hc1 hc2
  have hr : res = decide (x.getD i' 0 = y.getD j' 0) := by
    rw [← HR.out, sameB, ei, ej]
    exact decide_eq_decide.2 ⟨fun h => h.2.2, fun h => ⟨hi0, hj0, h⟩⟩
  obtain ⟨p, hp⟩ : ∃ p, x.getD i' 0 = p := ⟨_, rfl⟩
  obtain ⟨q, hq⟩ : ∃ q, y.getD j' 0 = q := ⟨_, rfl⟩
  rw [hp] at f1 hr
  rw [hq] at f2 hr
  have HR2 := Lib.hid hr
  clear hp hq hr ei ej HR
  have g1 : (0 : Int) < (i : Int) := by omega
  have g2 : (0 : Int) < (j : Int) := by omega
  have g3 : (i' : Int) < (n : Int) := by omega
  have g4 : (j' : Int) < (m : Int) := by omega
  have wrp : ∀ z : Int, 0 ≤ z → z ≤ 9000000000000000000 → IntKind.i64.wrap z = z := fun z h1 h2 => by rw [IntKind.wrap_i64]; omega
  have q1 : IntKind.i64.wrap (i' : Int) = (i' : Int) := wrp _ (by omega) (by omega)
  have q2 : IntKind.i64.wrap (j' : Int) = (j' : Int) := wrp _ (by omega) (by omega)
  clear wrp
  go_enter Tryd.func35, Tryd.ntmps35
  go_wp2
  go_quiet (fail)
  go_wp2
  go_ret
  exact ⟨ret_bool (by rw [HR2.out]; rfl), below_draws hal.out _⟩

/-- The three cells of the table ahead of one, where there are such. -/
def Ahead (w : World) (d : Value) (x y : List Int) (m i j : Nat) : Prop :=
  ∀ i' j' : Nat, i = i' + 1 → j = j' + 1 → ∃ G b0 b1 dn dc, d = .slice (some ⟨G, 0, none⟩) dn dc ∧ i < dn ∧ dn ≤ 1000 ∧
    w.cell? ⟨G, i', none⟩ = some (.slice (some ⟨b0, 0, none⟩) (m + 1) (m + 1)) ∧ w.cell? ⟨G, i, none⟩ = some (.slice (some ⟨b1, 0, none⟩) (m + 1) (m + 1)) ∧
    w.cell? ⟨b0, j', none⟩ = some (.int .i64 (tab x y i' j' : Nat)) ∧ w.cell? ⟨b0, j, none⟩ = some (.int .i64 (tab x y i' j : Nat)) ∧ w.cell? ⟨b1, j', none⟩ = some (.int .i64 (tab x y i j' : Nat))
theorem cell_lt {w : World} {a : Addr} {v : Value} (hc : w.cell? a = some v) : a.block < w.heap.size := by
  rcases Nat.lt_or_ge a.block w.heap.size with h' | h'
  · exact h'
  · simp [World.cell?, Array.getElem?_eq_none h'] at hc

theorem tab_same (x y : List Int) (i j : Nat) (hi : i < x.length) (hj : j < y.length) (h : x.getD i 0 = y.getD j 0) : tab x y (i + 1) (j + 1) = tab x y i j := by
  unfold tab
  rw [rev_take x i hi, rev_take y j hj, h, levR_same]

set_option maxRecDepth 100000 in
set_option maxHeartbeats 4000000 in
theorem fewest_any (u v d : Value) (x y : List Int) (i j : Nat) (w : World) (hx : Runs w u x) (hy : Runs w v y) (lx : x.length ≤ 64) (ly : y.length ≤ 64) (hi : i ≤ x.length) (hj : j ≤ y.length) (hd : ∃ A n c, d = .slice A n c) (hT : Ahead w d x y y.length i j) :
    Calls Tryd.prog 33 #[.agg #[u, v, d], .int .i64 i, .int .i64 j] w fun e w' => e = .returned (.int .i64 (tab x y i j : Nat)) ∧ Below w.heap.size w w' := by
  have hx' := hx
  have hy' := hy
  have hd' := hd
  obtain ⟨A, c, rfl, hxc, ⟨hxm, _⟩, _⟩ := hx'
  obtain ⟨B, c', rfl, hyc, ⟨hym, _⟩, _⟩ := hy'
  unfold maxLen at hxm hym
  have hal : Below w.heap.size w (w.alloc (.cells #[.slice A x.length c, .slice B y.length c', d] 45)) := (Below.refl _ _).alloc (Nat.le_refl _) _
  have cs := same_any _ _ d x y i j (w.alloc (.cells #[.slice A x.length c, .slice B y.length c', d] 45)) (hx.below hal) (hy.below hal) lx ly hi hj hd
  obtain ⟨D, dn, dc, rfl⟩ := hd'
  obtain ⟨n, hn⟩ : ∃ n, x.length = n := ⟨_, rfl⟩
  obtain ⟨m, hm⟩ : ∃ m, y.length = m := ⟨_, rfl⟩
  simp only [hn, hm] at hxc lx hi hyc ly hj cs hT hal hxm hym
  rw [hn, hm]
  have HAL := Lib.hid hal
  have HN := Lib.hid hn
  have HM := Lib.hid hm
  clear hn hm hx hy hal hd
  rcases Nat.eq_zero_or_pos i with hi0 | hi0
  · have HV : Hid (tab x y i j = j) := Lib.hid (by rw [hi0, tab_zero x y j (by rw [HM.out]; exact hj)])
    subst hi0
    rw [HV.out]
    clear cs hT
    go_enter Tryd.func33, Tryd.ntmps33
    go_wp2
    go_ret
    exact ⟨ret_int (by omega), HAL.out⟩
  rcases Nat.eq_zero_or_pos j with hj0 | hj0
  · have HV : Hid (tab x y i j = i) := Lib.hid (by rw [hj0, tab_zero' x y i (by rw [HN.out]; exact hi)])
    subst hj0
    rw [HV.out]
    have g1 : ((i : Int) == 0) = false := by simp; omega
    clear cs hT
    go_enter Tryd.func33, Tryd.ntmps33
    go_wp2
    go_ret
    exact ⟨ret_int (by omega), HAL.out⟩
  have g1 : ((i : Int) == 0) = false := by simp; omega
  have g2 : ((j : Int) == 0) = false := by simp; omega
  obtain ⟨i', hi'⟩ : ∃ i' : Nat, (i : Int) - 1 = (i' : Int) := ⟨i - 1, by omega⟩
  obtain ⟨j', hj'⟩ : ∃ j' : Nat, (j : Int) - 1 = (j' : Int) := ⟨j - 1, by omega⟩
  have ei : i = i' + 1 := by omega
  have ej : j = j' + 1 := by omega
  obtain ⟨G, b0, b1, dn', dc', e0, hdn, hdl, c1, c2, c3, c4, c5⟩ := hT i' j' ei ej
  clear hT
  simp only [Value.slice.injEq] at e0
  obtain ⟨rfl, rfl, rfl⟩ := e0
  have mv : ∀ (w1 : World) (a : Addr) (z : Value), Below (w.alloc (.cells #[.slice A n c, .slice B m c', .slice (some ⟨G, 0, none⟩) dn dc] 45)).heap.size (w.alloc (.cells #[.slice A n c, .slice B m c', .slice (some ⟨G, 0, none⟩) dn dc] 45)) w1 → w.cell? a = some z → w1.cell? a = some z := fun w1 a z hb hc => by
    have hlt := cell_lt hc
    exact (hb.cell (Nat.lt_of_lt_of_le hlt HAL.out.size)).trans ((HAL.out.cell hlt).trans hc)
  have HS : Hid (tab x y i j = min (tab x y i' j' + if x.getD i' 0 = y.getD j' 0 then 0 else 1) (min (tab x y i' j + 1) (tab x y i j' + 1))) := Lib.hid (by
    rw [ei, ej]
    exact tab_step x y i' j' (by rw [HN.out]; omega) (by rw [HM.out]; omega))
  have HS2 : Hid (x.getD i' 0 = y.getD j' 0 → tab x y i j = tab x y i' j') := Lib.hid (fun h => by
    rw [ei, ej]
    exact tab_same x y i' j' (by rw [HN.out]; omega) (by rw [HM.out]; omega) h)
  have hsb : sameB x y i j = decide (x.getD i' 0 = y.getD j' 0) := by
    rw [sameB, show i - 1 = i' by omega, show j - 1 = j' by omega]
    exact decide_eq_decide.2 ⟨fun h => h.2.2, fun h => ⟨hi0, hj0, h⟩⟩
  have t1 := tab_le x y i' j'
  have t2 := tab_le x y i' j
  have t3 := tab_le x y i j'
  rw [HN.out, HM.out] at t1 t2 t3
  rw [hsb] at cs
  obtain ⟨p, hp⟩ : ∃ p, x.getD i' 0 = p := ⟨_, rfl⟩
  obtain ⟨q, hq⟩ : ∃ q, y.getD j' 0 = q := ⟨_, rfl⟩
  obtain ⟨T, hT⟩ : ∃ t, tab x y i j = t := ⟨_, rfl⟩
  obtain ⟨T1, hT1⟩ : ∃ t, tab x y i' j' = t := ⟨_, rfl⟩
  obtain ⟨T2, hT2⟩ : ∃ t, tab x y i' j = t := ⟨_, rfl⟩
  obtain ⟨T3, hT3⟩ : ∃ t, tab x y i j' = t := ⟨_, rfl⟩
  rw [hp, hq] at cs HS HS2
  rw [hT, hT1, hT2, hT3] at HS
  rw [hT, hT1] at HS2
  rw [hT1] at c3 t1
  rw [hT2] at c4 t2
  rw [hT3] at c5 t3
  rw [hT]
  clear hp hq hT hT1 hT2 hT3 hsb ei ej HN HM
  have g3 : (i' : Int) < (dn : Int) := by omega
  have g4 : (i : Int) < (dn : Int) := by omega
  have g5 : (j' : Int) < ((m : Int) + 1) := by omega
  have g6 : (j : Int) < ((m : Int) + 1) := by omega
  have MV := Lib.hid mv; clear mv
  by_cases hpq : p = q
  · have HE := Lib.hid (HS2.out hpq)
    rw [decide_eq_true hpq] at cs
    clear HS HS2
    go_enter Tryd.func33, Tryd.ntmps33
    go_wp2_with fail
    refine cs.mono ?_
    rintro e w1 ⟨rfl, hb1⟩
    have d0 : w1.cell? ⟨w.heap.size, 2, none⟩ = some (.slice (some ⟨G, 0, none⟩) dn dc) := (hb1.cell (by simp)).trans (by simp)
    have d1 := MV.out _ _ _ hb1 c1
    have d3 := MV.out _ _ _ hb1 c3
    have B1 : Hid (Below w.heap.size w w1) := Lib.hid (HAL.out.trans (hb1.mono HAL.out.size))
    clear hb1 cs c1 c2 c3 c4 c5 MV
    go_wp2
    go_ret
    exact ⟨ret_int (by rw [HE.out]), B1.out⟩
  · have HE := Lib.hid HS.out
    rw [if_neg hpq] at HE
    rw [decide_eq_false hpq] at cs
    clear HS HS2
    have wrp : ∀ z : Int, 0 ≤ z → z ≤ 9000000000000000000 → IntKind.i64.wrap z = z := fun z h1 h2 => by rw [IntKind.wrap_i64]; omega
    have q1 : IntKind.i64.wrap (i' : Int) = (i' : Int) := wrp _ (by omega) (by omega)
    have q2 : IntKind.i64.wrap (j' : Int) = (j' : Int) := wrp _ (by omega) (by omega)
    clear wrp
    go_enter Tryd.func33, Tryd.ntmps33
    go_wp2_with fail
    refine cs.mono ?_
    rintro e w1 ⟨rfl, hb1⟩
    have d0 : w1.cell? ⟨w.heap.size, 2, none⟩ = some (.slice (some ⟨G, 0, none⟩) dn dc) := (hb1.cell (by simp)).trans (by simp)
    have d1 := MV.out _ _ _ hb1 c1
    have d2 := MV.out _ _ _ hb1 c2
    have d3 := MV.out _ _ _ hb1 c3
    have d4 := MV.out _ _ _ hb1 c4
    have d5 := MV.out _ _ _ hb1 c5
    have B1 : Hid (Below w.heap.size w w1) := Lib.hid (HAL.out.trans (hb1.mono HAL.out.size))
    clear hb1 cs c1 c2 c3 c4 c5 MV
    go_wp2
    go_quiet (fail)
    go_wp2
    all_goals
      go_ret
      exact ⟨ret_int (by have := HE.out; omega), below_draws B1.out _⟩
end Go.Proofs.YthigbnklekdemaaDoor
