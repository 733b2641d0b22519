/- errataref10: behind a rune, the runes that rests begin with, the same rests: walked. -/
import Derived.Test.YtljaibhhkjapmaaDoorKVisR
import Derived.Test.YtljaibhhkjapmaaDoorPk4
import Derived.Test.YtljaibhhkjapmaaDoorPk6
namespace Go.Proofs.YtljaibhhkjapmaaDoor
open Go.RowKit Go.Shelf
attribute [local go_sem] Oper.semAt_some
set_option linter.unusedSimpArgs false
set_option linter.unusedVariables false

theorem behR_take {q : List (List Int)} {k : Nat} {x : List Int} (hx : q[k]? = some x) (r : Int) : behR (q.take (k + 1)) r = behR (q.take k) r ++ behR [x] r := by
  rw [List.take_add_one, hx, behR_append]; rfl
theorem info_sl : (Tryd.prog.info? 84).map (fun i => (i.zero, i.size, i.bytes)) = some (some (.slice none 0 0), 1, 24) := by kernel_rfl
theorem append_sl (w : World) (base : Nat) (v : Value) (n : Nat) (pre : List SlV) (hown : w.ownsRow base 84 1 v n (gCells slCell pre)) (x : SlV) (hbase : base ≤ w.heap.size) (hlen : n ≤ 2000000) :
    ∃ v' w', (Builtin.append_ #[34, 34] 34 #[v, .slice (some ⟨w.heap.size, 0, none⟩) 1 1]).run Tryd.prog (w.alloc (.cells #[slv x] 84)) = .ok v' w' ∧ w'.ownsRow base 84 1 v' (n + 1) (gCells slCell (pre ++ [x])) ∧ Below base w w' := by
  obtain ⟨v', w', h1, h2, h3, _⟩ := append_one (P := Tryd.prog) (enc := slCell) sl_ln sl_one info_sl rfl (by decide) (by decide) Tryd.underlying34 w base v n _ hown x hbase (by omega)
  refine ⟨v', w', h1, by rw [gCells_snoc]; exact h2, (Below.refl base w).grown ((World.grownBy_alloc _ _ _).trans h3) hbase (own_block hown)⟩
theorem apt_cut {A : Option Addr} {n c k m : Nat} {X : Nat → Prop} (h : Apt (.slice A n c) X) (hn : 0 < n) : Apt (.slice (cutA A c k) m (c - k)) X := by
  intro A' n' c' e h0 p eA hp
  cases e
  unfold cutA at eA
  split at eA
  · exact h _ _ _ rfl hn p eA hp
  · cases A with
    | none => cases eA
    | some a =>
      have e2 : a.add (k * 1) = p := Option.some.inj eA
      have e3 : p.block = a.block := by rw [← e2]; unfold Addr.add; split <;> rfl
      rw [e3] at hp
      exact h _ _ _ rfl hn _ rfl hp
set_option maxRecDepth 100000 in
set_option maxHeartbeats 8000000 in
theorem rsame_any (u v : Value) (x y : List (List Int)) (X Y : Nat → Prop) (w : World) (hu : RsX w u x X) (hv : RsX w v y Y) :
    Calls Tryd.prog 76 #[u, v] w fun e w' => e = .returned (.bool (decide (x = y))) ∧ Below w.heap.size w w' := by
  obtain ⟨A, c, eu⟩ := hu.slice
  obtain ⟨A2, c2, ev⟩ := hv.slice
  obtain ⟨n, hn⟩ : ∃ z, x.length = z := ⟨_, rfl⟩
  obtain ⟨m, hm⟩ : ∃ z, y.length = z := ⟨_, rfl⟩
  obtain ⟨res, hr⟩ : ∃ z, decide (x = y) = z := ⟨_, rfl⟩
  have hcap := hu.cap
  rw [hn] at hcap
  rw [hn] at eu
  rw [hm] at ev
  rw [hr]
  subst eu ev
  have HU := Lib.hid hu; have HV := Lib.hid hv; have HN := Lib.hid hn; have HM := Lib.hid hm; have HR := Lib.hid hr
  clear hu hv hn hm hr
  by_cases h0 : n = m
  rotate_left
  · have e1 : ((n : Int) == (m : Int)) = false := by simpa using (by omega : ¬ (n : Int) = (m : Int))
    have e2 : ((n : Int) != (m : Int)) = true := by simpa using (by omega : ¬ (n : Int) = (m : Int))
    have hres : Hid (res = false) := Lib.hid (by rw [← HR.out, decide_eq_false_iff_not]; rintro rfl; exact h0 (HN.out.symm.trans HM.out))
    go_enter Tryd.func76, Tryd.ntmps76
    go_wp2
    go_ret
    exact ⟨by rw [hres.out]; rfl, Below.refl _ _⟩
  subst h0
  have e2 : ((n : Int) != (n : Int)) = false := by simp
  go_enter Tryd.func76, Tryd.ntmps76
  go_wp2
  go_loopw [13] (fun s13 wr => ∃ k : Nat, k ≤ n ∧ s13 = .int .i64 k ∧ Hid (x.take k = y.take k) ∧ Hid (Below w.heap.size w wr)) (fun s13 _ => n - (RowKit.intOf s13).toNat)
  case atStart => exact ⟨0, Nat.zero_le _, rfl, Lib.hid (by simp), Lib.hid (Below.refl _ _)⟩
  case round =>
    obtain ⟨k, hkn, rfl, HC, HB⟩ := hrel
    by_cases hk : k < n
    · have k1 : (k : Int) < (n : Int) := by omega
      obtain ⟨p, hp⟩ : ∃ p, x[k]? = some p := ⟨_, List.getElem?_eq_getElem (by rw [HN.out]; exact hk)⟩
      obtain ⟨q, hq⟩ : ∃ p, y[k]? = some p := ⟨_, List.getElem?_eq_getElem (by rw [HM.out]; exact hk)⟩
      obtain ⟨b, o, t, rfl, c1, r1, _⟩ := (HU.out.below HB.out).at_ HN.out hp
      obtain ⟨b', o', t', rfl, c2, r2, _⟩ := (HV.out.below HB.out).at_ HM.out hq
      obtain ⟨np, hnp⟩ : ∃ z, p.length = z := ⟨_, rfl⟩
      obtain ⟨nq, hnq⟩ : ∃ z, q.length = z := ⟨_, rfl⟩
      rw [hnp] at c1 r1
      rw [hnq] at c2 r2
      have cs := fun w' (hb : Below wr.heap.size wr w') => same_any (.slice t.1 np t.2) (.slice t'.1 nq t'.2) p q w' (r1.below hb) (r2.below hb)
      have ST : Hid (p = q → x.take (k + 1) = y.take (k + 1)) := Lib.hid (fun he => by rw [List.take_add_one, List.take_add_one, HC.out, hp, hq, he])
      have NE : Hid (p ≠ q → res = false) := Lib.hid (fun hne => by
        rw [← HR.out, decide_eq_false_iff_not]
        intro e
        rw [e, hq] at hp
        exact hne (Option.some.inj hp).symm)
      obtain ⟨pq, hpq⟩ : ∃ z, decide (p = q) = z := ⟨_, rfl⟩
      rw [hpq] at cs
      have CS := Lib.hid cs
      have HPQ := Lib.hid hpq
      clear hp hq hnp hnq r1 r2 cs hpq
      cases pq
      · have hres : Hid (res = false) := Lib.hid (NE.out (of_decide_eq_false HPQ.out))
        go_wp2
        go_quiet ((go_at_call 106; exact Calls.quiet_of (CS.out _ (below_draws (Below.refl _ _) _))))
        go_wp2
        go_ret
        exact ⟨by rw [hres.out]; rfl, below_draws HB.out _⟩
      · have hs2 := ST.out (of_decide_eq_true HPQ.out)
        have HS2 := Lib.hid hs2
        clear hs2
        go_wp2
        go_quiet ((go_at_call 106; exact Calls.quiet_of (CS.out _ (below_draws (Below.refl _ _) _))))
        go_wp2
        exact ⟨⟨k + 1, by omega, by go_num, HS2, Lib.hid (below_draws HB.out _)⟩, by simp [RowKit.intOf]; omega⟩
    · obtain rfl : k = n := by omega
      have hres : Hid (res = true) := Lib.hid (by
        rw [← HR.out, decide_eq_true_iff]
        have h1 := HC.out
        rw [List.take_of_length_le (by rw [HN.out]; exact Nat.le_refl _), List.take_of_length_le (by rw [HM.out]; exact Nat.le_refl _)] at h1
        exact h1)
      go_wp2
      go_ret
      exact ⟨by rw [hres.out]; rfl, HB.out⟩
set_option maxRecDepth 100000 in
set_option maxHeartbeats 8000000 in
theorem rbehind_any (u : Value) (q : List (List Int)) (r : Int) (X : Nat → Prop) (w : World) (hu : RsX w u q X) (hq : q.length ≤ 2000000) (hrow : ∀ k, X k → k < w.heap.size) :
    Calls Tryd.prog 78 #[u, .int .i32 r] w fun e w' => ∃ v, e = .returned v ∧ RsX w' v (behR q r) X ∧ Below w.heap.size w w' := by
  obtain ⟨A, c, eu⟩ := hu.slice
  obtain ⟨n, hn⟩ : ∃ z, q.length = z := ⟨_, rfl⟩
  rw [hn] at eu hq
  subst eu
  obtain ⟨n1, hn1⟩ : ∃ z, w.heap.size = z := ⟨_, rfl⟩
  have hall : behR (q.take n) r = behR q r := by rw [List.take_of_length_le (by omega)]
  have HU := Lib.hid hu; have HN := Lib.hid hn; have HALL := Lib.hid hall; have HROW := Lib.hid (hn1 ▸ hrow); have HN1 := Lib.hid hn1
  clear hu hn hall hrow hn1
  go_enter Tryd.func78, Tryd.ntmps78
  go_wp2
  go_loopw [5, 10] (fun s5 s10 wr => ∃ (k m : Nat) (Av : Option Addr) (cv : Nat) (T : List SlV), s5 = .slice Av m cv ∧ s10 = .int .i64 (k : Int) ∧ k ≤ n ∧ m ≤ k ∧ Hid (T.length = m) ∧ Hid ((behR (q.take k) r).length = m) ∧ Hid (wr.ownsRow n1 84 1 (.slice Av m cv) m (gCells slCell T)) ∧
    Hid (∀ (i : Nat) (t : SlV) (x : List Int), T[i]? = some t → (behR (q.take k) r)[i]? = some x → Runs w (slv t) x ∧ Apt (slv t) X) ∧ Hid (Below n1 w wr)) (fun _ s10 _ => n - (RowKit.intOf s10).toNat)
  case atStart => exact ⟨0, 0, none, 0, [], rfl, rfl, Nat.zero_le _, Nat.le_refl _, Lib.hid rfl, Lib.hid rfl, Lib.hid (World.ownsRow_nil _ _ _ _), Lib.hid (fun i t x h => by simp at h), Lib.hid (Below.refl _ _)⟩
  case round =>
    obtain ⟨k, m, Av, cv, T, rfl, rfl, hkn, hmk, HT, HM, HR, HE, HB⟩ := hrel
    have hn1w : n1 ≤ wr.heap.size := by have := HB.out.size; have := HN1.out; omega
    by_cases hj : k < n
    · have k1 : (k : Int) < (n : Int) := by omega
      obtain ⟨p, hp⟩ : ∃ p, q[k]? = some p := ⟨_, List.getElem?_eq_getElem (by rw [HN.out]; exact hj)⟩
      have hbw : Below w.heap.size w wr := by rw [HN1.out]; exact HB.out
      obtain ⟨b, o, t, rfl, c1, r1, ap1⟩ := HU.out.at_ HN.out hp
      replace c1 := cell_keep hbw c1
      have hst := behR_take hp r
      cases p with
      | nil =>
        simp only [List.length_nil] at c1 r1 ap1
        have hs2 : Hid (behR (q.take (k + 1)) r = behR (q.take k) r) := Lib.hid (by rw [hst]; simp [behR])
        have HN1W := Lib.hid hn1w
        clear hst hp r1 ap1 hn1w hbw
        go_wp2
        exact ⟨⟨k + 1, m, Av, cv, T, rfl, by go_num, by omega, by omega, HT, by rw [hs2.out]; exact HM, HR, by rw [hs2.out]; exact HE, HB⟩, by simp [RowKit.intOf]; omega⟩
      | cons a x =>
        obtain ⟨np, hnp⟩ : ∃ z, (a :: x).length = z := ⟨_, rfl⟩
        rw [hnp] at c1 r1 ap1
        have hnp1 : 1 ≤ np := by rw [← hnp]; simp
        have hnpc : np ≤ 9223372036854775807 := by
          obtain ⟨A', c', e, hc, hmx, _⟩ := r1
          cases e
          have := hmx.1
          unfold maxLen at this
          omega
        obtain ⟨b2, o2, e2, q0⟩ : ∃ b2 o2, t.1 = some ⟨b2, o2, none⟩ ∧ wr.cell? ⟨b2, o2, none⟩ = some (.int .i32 a) := by
          obtain ⟨A', c', e, hc, hmx, hx⟩ := r1
          cases e
          obtain ⟨b2, o2, e2, _, hc2⟩ := hx (by simp)
          have q0 := hc2 0 (by simp)
          exact ⟨b2, o2, e2, cell_keep hbw q0⟩
        obtain ⟨hsl, _⟩ := slice_l32 (r1.below hbw) hnp 1 hnp1
        obtain ⟨_, hrs⟩ := slice_l32 r1 hnp 1 hnp1
        have ap2 := apt_cut (k := 1) (m := np - 1) ap1 (by omega)
        have i1 : (0 : Int) < (np : Int) := by omega
        have i2 : decide ((0 : Int) < (np : Int)) = true := decide_eq_true i1
        by_cases har : a = r
        · subst har
          have hs2 : Hid (behR (q.take (k + 1)) a = behR (q.take k) a ++ [x]) := Lib.hid (by rw [hst]; simp [behR])
          have g1 : (a == a) = true := beq_self_eq_true _
          obtain ⟨v9, w9, hrun, hown9, hb9⟩ := append_sl wr n1 _ m _ HR.out (cutA t.1 t.2 1, np - 1, t.2 - 1) hn1w (by omega)
          obtain ⟨A9, c9, e9⟩ := (GRuns.of_own (l := T ++ [(cutA t.1 t.2 1, np - 1, t.2 - 1)]) sl_ln (by rw [List.length_append, HT.out]; rfl) hown9).slice
          rw [List.length_append, HT.out] at e9
          change v9 = .slice A9 (m + 1) c9 at e9
          subst e9
          change (Builtin.append_ _ _ _).run _ (wr.alloc (.cells #[.slice (cutA t.1 t.2 1) (np - 1) (t.2 - 1)] 84)) = _ at hrun
          have HRUN := Lib.hid hrun
          have HOWN := Lib.hid hown9
          have HB9 := Lib.hid (HB.out.trans hb9)
          have HE9 : Hid (∀ (i : Nat) (t2 : SlV) (y : List Int), (T ++ [(cutA t.1 t.2 1, np - 1, t.2 - 1)])[i]? = some t2 → (behR (q.take k) a ++ [x])[i]? = some y → Runs w (slv t2) y ∧ Apt (slv t2) X) := Lib.hid (fun i t2 y h1 h2 => by
            by_cases hi : i < m
            · rw [List.getElem?_append_left (by rw [HT.out]; exact hi)] at h1
              rw [List.getElem?_append_left (by rw [HM.out]; exact hi)] at h2
              exact HE.out i t2 y h1 h2
            · have hi2 : i = m := by
                have := (List.getElem?_eq_some_iff.1 h1).1
                rw [List.length_append, HT.out] at this
                simp at this
                omega
              subst hi2
              rw [List.getElem?_append_right (by rw [HT.out]; exact Nat.le_refl _), HT.out, Nat.sub_self] at h1
              rw [List.getElem?_append_right (by rw [HM.out]; exact Nat.le_refl _), HM.out, Nat.sub_self] at h2
              cases h1
              cases h2
              exact ⟨hrs, ap2⟩)
          rw [e2] at c1 hsl hrun HRUN
          clear hst hp r1 ap1 hn1w hrs ap2 hnp hbw hown9 hb9 hrun
          go_wp2_with (at_builtin; refine wpList_append_run (.tmp 24) (.tmp 27) 34 _ _ _ _ HRUN.out rfl rfl rfl rfl ?_)
          exact ⟨⟨k + 1, m + 1, A9, c9, _, rfl, by go_num, by omega, by omega, Lib.hid (by rw [List.length_append, HT.out]; rfl), Lib.hid (by rw [hs2.out, List.length_append, HM.out]; rfl), HOWN, Lib.hid (by rw [hs2.out]; exact HE9.out), HB9⟩, by simp [RowKit.intOf]; omega⟩
        · have hs2 : Hid (behR (q.take (k + 1)) r = behR (q.take k) r) := Lib.hid (by rw [hst]; simp [behR, har])
          have g1 : (a == r) = false := by simpa using har
          rw [e2] at c1
          clear hst hp r1 ap1 hn1w hsl hrs ap2 hnp har hbw
          go_wp2
          exact ⟨⟨k + 1, m, Av, cv, T, rfl, by go_num, by omega, by omega, HT, by rw [hs2.out]; exact HM, HR, by rw [hs2.out]; exact HE, HB⟩, by simp [RowKit.intOf]; omega⟩
    · obtain rfl : k = n := by omega
      have hbw : Below w.heap.size w wr := by rw [HN1.out]; exact HB.out
      have hfin := RsX.of_own HT.out HM.out HR.out HROW.out (fun i t x h1 h2 => by
        obtain ⟨h3, h4⟩ := HE.out i t x h1 h2
        exact ⟨h3.below hbw, h4⟩)
      rw [HALL.out] at hfin
      have HF := Lib.hid hfin
      clear hfin
      go_wp2
      go_ret
      exact ⟨_, rfl, HF.out, by rw [HN1.out]; exact HB.out⟩
def i32Cell (r : Int) : List Value := [.int .i32 r]
theorem i32_ln (r : Int) : (i32Cell r).length = 1 := rfl
theorem i32_one (r : Int) : ∀ u ∈ i32Cell r, u.oneCell' = true := by
  intro u h
  obtain rfl : u = .int .i32 r := by simpa [i32Cell] using h
  rfl
theorem i32_cells (l : List Int) : gCells i32Cell l = l.map (Value.int .i32) := by
  induction l with
  | nil => rfl
  | cons x l ih =>
    show i32Cell x ++ gCells i32Cell l = _
    rw [ih]; rfl
theorem info_i32 : (Tryd.prog.info? 21).map (fun i => (i.zero, i.size, i.bytes)) = some (some (.int .i32 0), 1, 4) := by kernel_rfl
theorem append_i32 (w : World) (base : Nat) (v : Value) (n : Nat) (pre : List Int) (hown : w.ownsRow base 21 1 v n (gCells i32Cell pre)) (x : Int) (hbase : base ≤ w.heap.size) (hlen : n ≤ 2000000) :
    ∃ v' w', (Builtin.append_ #[84, 84] 84 #[v, .slice (some ⟨w.heap.size, 0, none⟩) 1 1]).run Tryd.prog (w.alloc (.cells #[.int .i32 x] 21)) = .ok v' w' ∧ w'.ownsRow base 21 1 v' (n + 1) (gCells i32Cell (pre ++ [x])) ∧ Below base w w' := by
  obtain ⟨v', w', h1, h2, h3, _⟩ := append_one (P := Tryd.prog) (enc := i32Cell) i32_ln i32_one info_i32 rfl (by decide) (by decide) Tryd.underlying84 w base v n _ hown x hbase (by omega)
  refine ⟨v', w', h1, by rw [gCells_snoc]; exact h2, (Below.refl base w).grown ((World.grownBy_alloc _ _ _).trans h3) hbase (own_block hown)⟩
theorem own_last {w : World} {base n c : Nat} {A : Option Addr} {l : List Int} {a : Int} (h : w.ownsRow base 21 1 (.slice A (n + 1) c) (n + 1) (gCells i32Cell l)) (hn : l.length = n + 1) (hl : l.getLast? = some a) : ∃ g, A = some ⟨g, 0, none⟩ ∧ w.cell? ⟨g, n, none⟩ = some (.int .i32 a) ∧ n + 1 ≤ c ∧ c ≤ maxLen := by
  obtain ⟨g, cap, e, hb, hg, h1, h2, _⟩ := z_own_form h (by omega)
  cases e
  have hj : l[n]? = some a := by
    rw [List.getLast?_eq_getElem?, hn] at hl
    exact hl
  have := z_own_at i32_ln h hj (i := 0) rfl
  rw [Nat.mul_one, Nat.add_zero] at this
  exact ⟨g, rfl, this, h1, h2⟩
theorem z_wrap_self (m : Nat) (h : m ≤ 2000000) : IntKind.i64.wrap (m : Int) = (m : Int) := by rw [IntKind.wrap_i64]; omega
set_option maxRecDepth 100000 in
set_option maxHeartbeats 8000000 in
theorem rheads_any (u : Value) (q : List (List Int)) (X : Nat → Prop) (w : World) (hu : RsX w u q X) (hq : q.length ≤ 2000000) (hX : ∀ k, X k → k < w.heap.size) :
    Calls Tryd.prog 77 #[u] w fun e w' => ∃ v, e = .returned v ∧ Runs w' v (hdsR q) ∧ Apt v X ∧ Below w.heap.size w w' := by
  obtain ⟨A, c, eu⟩ := hu.slice
  obtain ⟨n, hn⟩ : ∃ z, q.length = z := ⟨_, rfl⟩
  rw [hn] at eu hq
  subst eu
  obtain ⟨n1, hn1⟩ : ∃ z, w.heap.size = z := ⟨_, rfl⟩
  have hall : hdsR (q.take n) = hdsR q := by rw [List.take_of_length_le (by omega)]
  have HU := Lib.hid hu; have HN := Lib.hid hn; have HALL := Lib.hid hall; have HX := Lib.hid (hn1 ▸ hX); have HN1 := Lib.hid hn1
  clear hu hn hall hX hn1
  go_enter Tryd.func77, Tryd.ntmps77
  go_wp2
  go_loopw [3, 8] (fun s3 s8 wr => ∃ (k m : Nat) (Av : Option Addr) (cv : Nat), s3 = .slice Av m cv ∧ s8 = .int .i64 (k : Int) ∧ k ≤ n ∧ m ≤ k ∧ Hid ((hdsR (q.take k)).length = m) ∧ Hid (wr.ownsRow n1 21 1 (.slice Av m cv) m (gCells i32Cell (hdsR (q.take k)))) ∧ Hid (Below n1 w wr)) (fun _ s8 _ => n - (RowKit.intOf s8).toNat)
  case atStart => exact ⟨0, 0, none, 0, rfl, rfl, Nat.zero_le _, Nat.le_refl _, Lib.hid rfl, Lib.hid (World.ownsRow_nil _ _ _ _), Lib.hid (Below.refl _ _)⟩
  case round =>
    obtain ⟨k, m, Av, cv, rfl, rfl, hkn, hmk, HM, HR, HB⟩ := hrel
    have hn1w : n1 ≤ wr.heap.size := by have := HB.out.size; have := HN1.out; omega
    by_cases hj : k < n
    · have k1 : (k : Int) < (n : Int) := by omega
      obtain ⟨p, hp⟩ : ∃ p, q[k]? = some p := ⟨_, List.getElem?_eq_getElem (by rw [HN.out]; exact hj)⟩
      have hbw : Below w.heap.size w wr := by rw [HN1.out]; exact HB.out
      obtain ⟨b, o, t, rfl, c1, r1, ap1⟩ := HU.out.at_ HN.out hp
      replace c1 := cell_keep hbw c1
      have htk : q.take (k + 1) = q.take k ++ [p] := by rw [List.take_add_one, hp]; rfl
      cases p with
      | nil =>
        simp only [List.length_nil] at c1 r1 ap1
        have hs2 : Hid (hdsR (q.take (k + 1)) = hdsR (q.take k)) := Lib.hid (by rw [htk, hdsR_snoc_nil])
        have e0 : decide ((0 : Int) < 0) = false := by decide
        have HBD : Hid (∀ k, Below n1 w (wr.drewN k)) := Lib.hid (fun k => HB.out.trans ((bel_drewN _ _).mono hn1w))
        have HRD : Hid (∀ i, (wr.drewN i).ownsRow n1 21 1 (.slice Av m cv) m (gCells i32Cell (hdsR (q.take k)))) := Lib.hid (fun i => z_own_below HR.out (bel_drewN _ _))
        clear htk hp r1 ap1 hn1w hbw
        go_wp2
        go_quiet (fail)
        go_wp2
        exact ⟨⟨k + 1, m, Av, cv, rfl, by go_num, by omega, by omega, by rw [hs2.out]; exact HM, Lib.hid (by rw [hs2.out]; exact HRD.out _), Lib.hid (HBD.out _)⟩, by simp [RowKit.intOf]; omega⟩
      | cons a x =>
        obtain ⟨np, hnp⟩ : ∃ z, (a :: x).length = z := ⟨_, rfl⟩
        rw [hnp] at c1 r1 ap1
        have hnp1 : 1 ≤ np := by rw [← hnp]; simp
        have hnpc : np ≤ 9223372036854775807 := by
          obtain ⟨A', c', e, hc, hmx, _⟩ := r1
          cases e
          have := hmx.1
          unfold maxLen at this
          omega
        obtain ⟨b2, o2, e2, q0⟩ : ∃ b2 o2, t.1 = some ⟨b2, o2, none⟩ ∧ wr.cell? ⟨b2, o2, none⟩ = some (.int .i32 a) := by
          obtain ⟨A', c', e, hc, hmx, hx⟩ := r1
          cases e
          obtain ⟨b2, o2, e2, _, hc2⟩ := hx (by simp)
          have q0 := hc2 0 (by simp)
          exact ⟨b2, o2, e2, cell_keep hbw q0⟩
        rw [e2] at c1
        have i1 : (0 : Int) < (np : Int) := by omega
        have i2 : decide ((0 : Int) < (np : Int)) = true := decide_eq_true i1
        have i3 : decide (0 < np) = true := decide_eq_true (by omega)
        have hst := hdsR_snoc (q.take k) a x
        rw [← htk] at hst
        obtain ⟨hd, hhd⟩ : ∃ z, hdsR (q.take k) = z := ⟨_, rfl⟩
        rw [hhd] at hst HM HR
        have HBD : Hid (∀ k, Below n1 w (wr.drewN k)) := Lib.hid (fun k => HB.out.trans ((bel_drewN _ _).mono hn1w))
        have HRD : Hid (∀ i, (wr.drewN i).ownsRow n1 21 1 (.slice Av m cv) m (gCells i32Cell hd)) := Lib.hid (fun i => z_own_below HR.out (bel_drewN _ _))
        have AP : Hid (∀ i, ∃ A9 c9 w9, (Builtin.append_ #[84, 84] 84 #[.slice Av m cv, .slice (some ⟨(wr.drewN i).heap.size, 0, none⟩) 1 1]).run Tryd.prog ((wr.drewN i).alloc (.cells #[.int .i32 a] 21)) = .ok (.slice A9 (m + 1) c9) w9 ∧ w9.ownsRow n1 21 1 (.slice A9 (m + 1) c9) (m + 1) (gCells i32Cell (hd ++ [a])) ∧ Below n1 w w9) := Lib.hid (fun i => by
          obtain ⟨v9, w9, hrun, hown9, hb9⟩ := append_i32 (wr.drewN i) n1 _ m _ (HRD.out i) a (by simpa using hn1w) (by omega)
          obtain ⟨A9, c9, e9⟩ := (GRuns.of_own (l := hd ++ [a]) i32_ln (by rw [List.length_append, HM.out]; rfl) hown9).slice
          rw [List.length_append, HM.out] at e9
          change v9 = .slice A9 (m + 1) c9 at e9
          subst e9
          exact ⟨A9, c9, w9, hrun, hown9, (HBD.out i).trans hb9⟩)
        clear htk hp r1 ap1 hnp hbw e2 hn1w
        by_cases hm0 : m = 0
        · subst hm0
          have hd0 : hd = [] := List.eq_nil_of_length_eq_zero HM.out
          rw [if_neg (by rw [hd0]; simp)] at hst
          have HS := Lib.hid hst
          clear hst hd0
          have z1 : ((0 : Int) == (0 : Int)) = true := rfl
          go_wp2
          go_quiet (fail)
          go_wp2_with (at_builtin; obtain ⟨A9, c9, w9, h1, h2, h3⟩ := AP.out _; refine wpList_append_run (.tmp 32) (.tmp 36) 84 _ _ _ _ h1 rfl rfl rfl rfl ?_; have H2 := Lib.hid h2; have H3 := Lib.hid h3; clear h1 h2 h3)
          exact ⟨⟨k + 1, 0 + 1, A9, c9, rfl, by go_num, by omega, by omega, Lib.hid (by rw [HS.out, List.length_append, HM.out]; rfl), Lib.hid (by rw [HS.out]; exact H2.out), H3⟩, by simp [RowKit.intOf]; omega⟩
        · obtain ⟨m', rfl⟩ : ∃ m', m = m' + 1 := ⟨m - 1, by omega⟩
          obtain ⟨y, hy⟩ : ∃ y, hd.getLast? = some y := by
            cases hg : hd.getLast? with
            | some y => exact ⟨y, rfl⟩
            | none =>
              rw [List.getLast?_eq_none_iff] at hg
              have := HM.out
              rw [hg] at this
              simp at this
          obtain ⟨g, rfl, cy, hcv, hcm⟩ := own_last HR.out HM.out hy
          rw [hy] at hst
          have z1 : (((m' + 1 : Nat) : Int) == (0 : Int)) = false := by simpa using (by omega : ¬ ((m' + 1 : Nat) : Int) = 0)
          have z2 : (((m' : Int) + 1) == (0 : Int)) = false := by simpa using (by omega : ¬ (m' : Int) + 1 = 0)
          have wk : IntKind.i64.wrap (m' : Int) = (m' : Int) := z_wrap_self m' (by omega)
          have hz0 : (0 : Int) ≤ (m' : Int) := by omega
          have hz1 : (m' : Int) < ((m' + 1 : Nat) : Int) := by omega
          have hz3 : (m' : Int) < (m' : Int) + 1 := by omega
          have hz2 : m' < m' + 1 := by omega
          by_cases hya : y = a
          · subst hya
            rw [if_pos rfl] at hst
            have HS := Lib.hid hst
            have d1 : (y != y) = false := by simp
            have HMK := Lib.hid hmk
            clear hst hy hmk hcm
            go_wp2
            go_quiet (fail)
            go_wp2
            exact ⟨⟨k + 1, m' + 1, _, cv, rfl, by go_num, by omega, by have := HMK.out; omega, by rw [HS.out]; exact HM, Lib.hid (by rw [HS.out]; exact HRD.out _), Lib.hid (HBD.out _)⟩, by simp [RowKit.intOf]; omega⟩
          · rw [if_neg (by simpa using hya)] at hst
            have HS := Lib.hid hst
            have d1 : (y != a) = true := by simpa using hya
            have HMK := Lib.hid hmk
            clear hst hy hmk hcm hya
            go_wp2
            go_quiet (fail)
            go_wp2_with (at_builtin; obtain ⟨A9, c9, w9, h1, h2, h3⟩ := AP.out _; refine wpList_append_run (.tmp 32) (.tmp 36) 84 _ _ _ _ h1 rfl rfl rfl rfl ?_; have H2 := Lib.hid h2; have H3 := Lib.hid h3; clear h1 h2 h3)
            exact ⟨⟨k + 1, m' + 1 + 1, A9, c9, rfl, by go_num, by omega, by have := HMK.out; omega, Lib.hid (by rw [HS.out, List.length_append, HM.out]; rfl), Lib.hid (by rw [HS.out]; exact H2.out), H3⟩, by simp [RowKit.intOf]; omega⟩
    · obtain rfl : k = n := by omega
      have hfin : Runs wr (.slice Av m cv) (hdsR q) := by
        have h1 := HR.out
        rw [HALL.out, i32_cells] at h1
        exact Runs.of_own h1
      have HF := Lib.hid hfin
      have HAP := Lib.hid (own_apt_lt HR.out HX.out)
      clear hfin
      go_wp2
      go_ret
      exact ⟨_, rfl, HF.out, HAP.out, by rw [HN1.out]; exact HB.out⟩
end Go.Proofs.YtljaibhhkjapmaaDoor
