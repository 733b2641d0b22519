/- The steps that the table's way back hands on: the iterator's contract. -/
import Derived.Test.YthigbnklekdemaaDoorGDist
import Derived.WalkMore
import Derived.BigRegion
namespace Go.Proofs.YthigbnklekdemaaDoor
open Go.RowKit Go.Shelf
attribute [local go_sem] Oper.semAt_some

/-- A step as a value. -/
def stV (p : St) : Value := .agg #[.int .i64 p.1, .int .i32 p.2.1, .int .i32 p.2.2]

/-- The way back from two beginnings: the step, and where it leads. -/
theorem back_nil (x y : List Int) : pathR (x.take 0).reverse (y.take 0).reverse = [] := by
  rw [List.take_zero, List.take_zero, List.reverse_nil, pathR]

set_option maxRecDepth 100000 in
set_option maxHeartbeats 8000000 in
theorem biter_in (n : Nat) (hn : 1 ≤ n) (l Bs n₀ : Nat) (u v d : Value) (x y : List Int) (lx : x.length ≤ 64) (ly : y.length ≤ 64) (w0 : World) (hw0 : w0.heap.size = n₀) (hx : Runs w0 u x) (hy : Runs w0 v y) (hT : TabR w0 d x y) (J Jx : List St → World → Prop)
    (W : World) (hJ : AbidesFrom W.heap.size J)
    (hY : ∀ pre x W1, J pre W1 → pre.length < 128 → YieldAt Fence.wide (n - 1) Tryd.prog l #[stV x] W1 fun e W' =>
      (e = .returned (.bool true) ∧ J (pre ++ [x]) W' ∧ Keep n₀ Bs W1 W') ∨ (e = .returned (.bool false) ∧ Jx (pre ++ [x]) W'))
    (hn0 : n₀ ≤ W.heap.size) (hW0 : Below n₀ w0 W) (hBs : Bs < W.heap.size)
    (hc : TBox W Bs u v d) (h0 : J [] W) :
    CallsIn Fence.wide n Tryd.prog 34 #[.func (.yield l) #[] #[], .pointer (some ⟨Bs, 0, none⟩)] W fun e W' => (∃ v, e = .returned v) ∧
      ((∃ ys, ys = pathR x.reverse y.reverse ∧ J ys W') ∨ (∃ pre, pre <+: pathR x.reverse y.reverse ∧ Jx pre W')) := by
  obtain ⟨P0, hP0⟩ : ∃ P0, P0 = pathR x.reverse y.reverse := ⟨_, rfl⟩
  rw [← hP0]
  obtain ⟨N, hN⟩ : ∃ n, x.length = n := ⟨_, rfl⟩
  obtain ⟨M, hM⟩ : ∃ n, y.length = n := ⟨_, rfl⟩
  have HP0 : Hid (P0 = pathR (x.take N).reverse (y.take M).reverse) := Lib.hid (by rw [hP0, ← hN, ← hM, List.take_length, List.take_length])
  clear hP0
  rw [hN] at lx
  rw [hM] at ly
  have HN := Lib.hid hN; clear hN
  have HM := Lib.hid hM; clear hM
  have HX := Lib.hid hx; clear hx
  have HYr := Lib.hid hy; clear hy
  have HT := Lib.hid hT; clear hT
  have HW0 := Lib.hid hw0; clear hw0
  obtain ⟨A, ca, eu, _, _, _⟩ := HX.out
  obtain ⟨B, cb, ev, _, _, _⟩ := HYr.out
  obtain ⟨G, dc, ed, _⟩ := HT.out
  subst eu ev ed
  rw [HN.out] at hc HX HT
  rw [HM.out] at hc HYr
  obtain ⟨p0, p1, p2⟩ := hc.cell
  refine callsIn_of_wp Tryd.func34 rfl trivial ?_ rfl
  simp only [Tryd.ntmps34, List.size_toArray, List.length_cons, List.length_nil, Nat.reduceAdd, Nat.reduceSub, Array.replicate_succ, Array.replicate_zero, List.push_toArray, List.append_toArray, List.nil_append, List.cons_append]
  refine wpIn_wide.2 (wp_scope_straight ((wpIn_wide (n := n)).1 ?_))
  refine wpIn_seq_k fun K hK => ?_
  refine wpIn_wide.2 ?_
  go_quiet (fail)
  refine hK _ _ ?_
  clear hK
  gi_wp2_with (refine wpIn_label ?_)
  have B00 : Keep n₀ Bs W (W.drewN nq) := ⟨below_draws (Below.refl _ _) nq, rfl⟩
  have J00 : J [] (W.drewN nq) := hJ _ _ _ none h0 (grown_none (below_draws (Below.refl _ _) nq)) (fun _ h => by cases h)
  gi_loopw [3, 4] (fun s3 s4 wr => ∃ (i j : Nat) (pre : List St), s3 = .int .i64 i ∧ s4 = .int .i64 j ∧ i ≤ N ∧ j ≤ M ∧ pre.length + i + j ≤ N + M ∧ Hid (P0 = pre ++ pathR (x.take i).reverse (y.take j).reverse) ∧ J pre wr ∧ Keep n₀ Bs W wr)
    (fun s3 s4 _ => (intOf s3).toNat + (intOf s4).toNat)
  case atStart => exact ⟨N, M, [], rfl, rfl, Nat.le_refl _, Nat.le_refl _, by simp, HP0, J00, B00⟩
  case round =>
    clear HP0 J00 B00 h0
    obtain ⟨i, j, pre, rfl, rfl, hi, hj, hlen, HP, hJs, hKB⟩ := hrel
    have HB := Lib.hid hKB.1
    have BL : Hid (Below n₀ w0 wr) := Lib.hid (hW0.trans hKB.1)
    have BL' : Hid (Below w0.heap.size w0 wr) := Lib.hid (HW0.out.symm ▸ BL.out)
    have hBw : Bs < wr.heap.size := Nat.lt_of_lt_of_le hBs hKB.1.size
    have hnw : n₀ ≤ wr.heap.size := Nat.le_trans hn0 hKB.1.size
    have BT : Hid (TBox wr Bs (.slice A N ca) (.slice B M cb) (.slice (some ⟨G, 0, none⟩) (N + 1) dc)) := Lib.hid (hKB.2.trans hc)
    have hal : Hid (Below wr.heap.size wr (wr.alloc (.cells #[.int .i64 0, .int .i32 0, .int .i32 0] 42))) := Lib.hid ((Below.refl _ _).alloc (Nat.le_refl _) _)
    have TR : Hid (TabR wr (.slice (some ⟨G, 0, none⟩) (N + 1) dc) x y) := Lib.hid (HT.out.at BL'.out)
    have RX : Hid (Runs wr (.slice A N ca) x) := Lib.hid (HX.out.below BL'.out)
    have RY : Hid (Runs wr (.slice B M cb) y) := Lib.hid (HYr.out.below BL'.out)
    have cs := same_any _ _ (.slice (some ⟨G, 0, none⟩) (N + 1) dc) x y i j (wr.alloc (.cells #[.int .i64 0, .int .i32 0, .int .i32 0] 42)) (RX.out.below hal.out) (RY.out.below hal.out) (by rw [HN.out]; exact lx) (by rw [HM.out]; exact ly) (by rw [HN.out]; exact hi) (by rw [HM.out]; exact hj) ⟨_, _, _, rfl⟩
    have mv0 : ∀ (a : Addr) (z : Value), wr.cell? a = some z → (wr.alloc (.cells #[.int .i64 0, .int .i32 0, .int .i32 0] 42)).cell? a = some z := fun a z hc => (hal.out.cell (cell_lt hc)).trans hc
    have mv : ∀ (w1 : World), Below (wr.alloc (.cells #[.int .i64 0, .int .i32 0, .int .i32 0] 42)).heap.size (wr.alloc (.cells #[.int .i64 0, .int .i32 0, .int .i32 0] 42)) w1 → ∀ (a : Addr) (z : Value), wr.cell? a = some z → w1.cell? a = some z := fun w1 hb a z hc => (hb.cell (Nat.lt_of_lt_of_le (cell_lt hc) hal.out.size)).trans (mv0 a z hc)
    have MV := Lib.hid mv; clear mv
    obtain ⟨t0, t1, t2⟩ := BT.out.cell
    have T0 := mv0 _ _ t0; have T1 := mv0 _ _ t1; have T2 := mv0 _ _ t2
    obtain ⟨b1, u1, u2⟩ : ∃ b, wr.cell? ⟨G, i, none⟩ = some (.slice (some ⟨b, 0, none⟩) (M + 1) (M + 1)) ∧ ∀ j, j ≤ M → wr.cell? ⟨b, j, none⟩ = some (.int .i64 (tab x y i j : Nat)) := by
      obtain ⟨G', dc', e, hx⟩ := TR.out
      obtain ⟨rfl, _, _⟩ : G = G' ∧ N + 1 = x.length + 1 ∧ dc = dc' := by simpa using e
      obtain ⟨b, h1, h2⟩ := hx i (by rw [HN.out]; exact hi)
      rw [HM.out] at h1 h2
      exact ⟨b, h1, h2⟩
    have u3 := u2 j hj
    have U1 := mv0 _ _ u1; have U3 := mv0 _ _ u3
    clear mv0 u2
    have iL : (i : Int) < ((N : Int) + 1) := by omega
    have jL : (j : Int) < ((M : Int) + 1) := by omega
    have YT : ∀ (X : St) (Wy : World), Below wr.heap.size wr Wy → pre.length < 128 → YieldAt Fence.wide (n - 1) Tryd.prog l #[.agg #[.int .i64 X.1, .int .i32 X.2.1, .int .i32 X.2.2]] Wy fun e W' =>
        (e = .returned (.bool true) ∧ J (pre ++ [X]) W' ∧ Keep n₀ Bs W W') ∨ (e = .returned (.bool false) ∧ Jx (pre ++ [X]) W') := fun X Wy hb hl => by
      refine (hY pre X Wy (hJ _ _ _ none hJs (grown_none hb) (fun _ h => by cases h)) hl).mono ?_
      rintro e w' (⟨h1, h2, h3⟩ | h)
      · exact .inl ⟨h1, h2, hKB.trans ((Keep.of_below hb hnw hBw).trans h3)⟩
      · exact .inr h
    have YTH := Lib.hid YT; clear YT
    have HJs := Lib.hid hJs; clear hJs
    have HKB := Lib.hid hKB; clear hKB
    have tb0 := tab_le x y i j
    rw [HN.out, HM.out] at tb0
    obtain ⟨T, hT⟩ : ∃ T, tab x y i j = T := ⟨_, rfl⟩
    rw [hT] at u3 U3 tb0
    have HTT := Lib.hid hT; clear hT
    rcases Nat.eq_zero_or_pos i with hi0 | hi0
    · rcases Nat.eq_zero_or_pos j with hj0 | hj0
      · subst hi0 hj0
        have hsb : sameB x y 0 0 = false := by rw [sameB, decide_eq_false_iff_not]; omega
        rw [hsb] at cs
        clear hsb
        have HPe : Hid (P0 = pre) := Lib.hid (by have := HP.out; rw [back_nil, List.append_nil] at this; exact this)
        gi_wp2_with (refine ⟨trivial, ?_⟩; gi_at_call 35; refine (callsIn_wide.2 cs).mono ?_; rintro e w1 ⟨rfl, hb1⟩; have J1 : Hid (J pre w1) := Lib.hid (hJ _ _ _ none HJs.out (grown_none (hal.out.trans (hb1.mono hal.out.size))) (fun _ h => by cases h)); clear hb1)
        rw [Exit.noGoto_normal]
        go_end0
        exact ⟨⟨_, rfl⟩, .inl ⟨pre, HPe.out.symm, J1.out⟩⟩
      · subst hi0
        have hsb : sameB x y 0 j = false := by rw [sameB, decide_eq_false_iff_not]; omega
        rw [hsb] at cs
        clear hsb
        obtain ⟨j', hj'⟩ : ∃ j' : Nat, (j : Int) - 1 = (j' : Int) := ⟨j - 1, by omega⟩
        have ej : j = j' + 1 := by omega
        have HEj := Lib.hid ej; clear ej
        have ey : (y.take j).reverse = y.getD j' 0 :: (y.take j').reverse := by rw [HEj.out]; exact rev_take y j' (by rw [HM.out]; omega)
        obtain ⟨bY, oy, e1, hby, hcy⟩ : ∃ b o, B = some ⟨b, o, none⟩ ∧ b < wr.heap.size ∧ ∀ k, k < M → wr.cell? ⟨b, o + k, none⟩ = some (.int .i32 (y.getD k 0)) := by
          obtain ⟨A', c', e, _, _, hx⟩ := RY.out
          rw [HM.out] at e hx
          obtain ⟨rfl, _, rfl⟩ := Value.slice.inj e
          exact hx (by omega)
        subst e1
        have c2 := hcy j' (by omega)
        clear hcy
        obtain ⟨r, hr⟩ : ∃ r, y.getD j' 0 = r := ⟨_, rfl⟩
        rw [hr] at c2 ey
        clear hr
        have HPn : Hid (P0 = (pre ++ [(3, 0, r)]) ++ pathR (x.take 0).reverse (y.take j').reverse) := Lib.hid (by
          rw [HP.out, ey, List.take_zero, List.reverse_nil, pathR]; simp)
        clear ey
        have jM : (j' : Int) < (M : Int) := by omega
        have g2 : (0 : Int) < (j : Int) := by omega
        gi_wp2_with (refine ⟨trivial, ?_⟩; gi_at_call 35; refine (callsIn_wide.2 cs).mono ?_; rintro e w1 ⟨rfl, hb1⟩; have hb2 : Below wr.heap.size wr w1 := hal.out.trans (hb1.mono hal.out.size); have z0 : w1.cell? ⟨wr.heap.size, 0, none⟩ = some (.int .i64 0) := (hb1.cell (p := ⟨wr.heap.size, 0, none⟩) (by simp)).trans (by simp); have z1 : w1.cell? ⟨wr.heap.size, 1, none⟩ = some (.int .i32 0) := (hb1.cell (p := ⟨wr.heap.size, 1, none⟩) (by simp)).trans (by simp); have z2 : w1.cell? ⟨wr.heap.size, 2, none⟩ = some (.int .i32 0) := (hb1.cell (p := ⟨wr.heap.size, 2, none⟩) (by simp)).trans (by simp); have fz : ∀ k, w1.frozen? ⟨wr.heap.size, k, none⟩ = false := fun k => (hb1.frozen (p := ⟨wr.heap.size, k, none⟩) (by simp)).trans (by simp); have fz0 := fz 0; have fz1 := fz 1; have fz2 := fz 2; clear fz; have v0 := MV.out w1 hb1 _ _ t0; have v1 := MV.out w1 hb1 _ _ t1; have v2 := MV.out w1 hb1 _ _ t2; have C2 := MV.out w1 hb1 _ _ c2; obtain ⟨fn, tmps, assign, body, hyy, hR⟩ := YTH.out (3, 0, r) (((w1.setCell ⟨wr.heap.size, 0, none⟩ (.int .i64 3)).setCell ⟨wr.heap.size, 1, none⟩ (.int .i32 (0))).setCell ⟨wr.heap.size, 2, none⟩ (.int .i32 (r))) (((hb2.setCell (Nat.le_refl _) _).setCell (Nat.le_refl _) _).setCell (Nat.le_refl _) _) (by omega); simp only at hyy; clear hb1 hb2)
        refine hR.mono ?_
        rintro e W3 (⟨rfl, hJ3, hk3⟩ | ⟨rfl, hJx3⟩)
        · gi_wp2
          go_roundw
          case rel => exact ⟨0, j', pre ++ [(3, 0, r)], rfl, rfl, by omega, by omega, by simp; omega, HPn, hJ3, hk3⟩
          case measure => simp [intOf]; omega
        · gi_wp2
          rw [Exit.noGoto_normal]
          go_end0
          exact ⟨⟨_, rfl⟩, .inr ⟨pre ++ [(3, 0, r)], by rw [HPn.out]; exact List.prefix_append _ _, hJx3⟩⟩
    · obtain ⟨i', hi'⟩ : ∃ i' : Nat, (i : Int) - 1 = (i' : Int) := ⟨i - 1, by omega⟩
      have ei : i = i' + 1 := by omega
      have HEi := Lib.hid ei; clear ei
      have ex : (x.take i).reverse = x.getD i' 0 :: (x.take i').reverse := by rw [HEi.out]; exact rev_take x i' (by rw [HN.out]; omega)
      obtain ⟨bX, ox, e1, hbx, hcx⟩ : ∃ b o, A = some ⟨b, o, none⟩ ∧ b < wr.heap.size ∧ ∀ k, k < N → wr.cell? ⟨b, o + k, none⟩ = some (.int .i32 (x.getD k 0)) := by
        obtain ⟨A', c', e, _, _, hx⟩ := RX.out
        rw [HN.out] at e hx
        obtain ⟨rfl, _, rfl⟩ := Value.slice.inj e
        exact hx (by omega)
      subst e1
      have c1 := hcx i' (by omega)
      clear hcx
      obtain ⟨p, hp⟩ : ∃ p, x.getD i' 0 = p := ⟨_, rfl⟩
      rw [hp] at c1 ex
      have HPp := Lib.hid hp; clear hp
      have EX := Lib.hid ex; clear ex
      have iN : (i' : Int) < (N : Int) := by omega
      have g1 : (0 : Int) < (i : Int) := by omega
      have iL' : (i' : Int) < ((N : Int) + 1) := by omega
      obtain ⟨b0, s1, s2⟩ : ∃ b, wr.cell? ⟨G, i', none⟩ = some (.slice (some ⟨b, 0, none⟩) (M + 1) (M + 1)) ∧ ∀ j, j ≤ M → wr.cell? ⟨b, j, none⟩ = some (.int .i64 (tab x y i' j : Nat)) := by
        obtain ⟨G', dc', e, hx⟩ := TR.out
        obtain ⟨rfl, _, _⟩ : G = G' ∧ N + 1 = x.length + 1 ∧ dc = dc' := by simpa using e
        obtain ⟨b, h1, h2⟩ := hx i' (by rw [HN.out]; omega)
        rw [HM.out] at h1 h2
        exact ⟨b, h1, h2⟩
      have s3 := s2 j hj
      obtain ⟨T2, hT2⟩ : ∃ T, tab x y i' j = T := ⟨_, rfl⟩
      rw [hT2] at s3
      have HT2 := Lib.hid hT2; clear hT2
      rcases Nat.eq_zero_or_pos j with hj0 | hj0
      · subst hj0
        have hsb : sameB x y i 0 = false := by rw [sameB, decide_eq_false_iff_not]; omega
        rw [hsb] at cs
        clear hsb s2
        have q1 : (T2 : Int) = (T : Int) - 1 := by
          rw [← HT2.out, ← HTT.out, tab_zero' x y i (by rw [HN.out]; exact hi), tab_zero' x y i' (by rw [HN.out]; omega)]
          omega
        have q2 : ((T2 : Int) == (T : Int) - 1) = true := by rw [q1]; exact beq_self_eq_true _
        clear q1
        have HPn : Hid (P0 = (pre ++ [(2, p, 0)]) ++ pathR (x.take i').reverse (y.take 0).reverse) := Lib.hid (by
          rw [HP.out, EX.out, List.take_zero, List.reverse_nil, pathR]; simp)
        gi_wp2_with (refine ⟨trivial, ?_⟩; gi_at_call 35; refine (callsIn_wide.2 cs).mono ?_; rintro e w1 ⟨rfl, hb1⟩; have hb2 : Below wr.heap.size wr w1 := hal.out.trans (hb1.mono hal.out.size); have z0 : w1.cell? ⟨wr.heap.size, 0, none⟩ = some (.int .i64 0) := (hb1.cell (p := ⟨wr.heap.size, 0, none⟩) (by simp)).trans (by simp); have z1 : w1.cell? ⟨wr.heap.size, 1, none⟩ = some (.int .i32 0) := (hb1.cell (p := ⟨wr.heap.size, 1, none⟩) (by simp)).trans (by simp); have z2 : w1.cell? ⟨wr.heap.size, 2, none⟩ = some (.int .i32 0) := (hb1.cell (p := ⟨wr.heap.size, 2, none⟩) (by simp)).trans (by simp); have fz : ∀ k, w1.frozen? ⟨wr.heap.size, k, none⟩ = false := fun k => (hb1.frozen (p := ⟨wr.heap.size, k, none⟩) (by simp)).trans (by simp); have fz0 := fz 0; have fz1 := fz 1; have fz2 := fz 2; clear fz; have v0 := MV.out w1 hb1 _ _ t0; have v1 := MV.out w1 hb1 _ _ t1; have v2 := MV.out w1 hb1 _ _ t2; have C1 := MV.out w1 hb1 _ _ c1; have S1 := MV.out w1 hb1 _ _ s1; have S3 := MV.out w1 hb1 _ _ s3; obtain ⟨fn, tmps, assign, body, hyy, hR⟩ := YTH.out (2, p, 0) (((w1.setCell ⟨wr.heap.size, 0, none⟩ (.int .i64 2)).setCell ⟨wr.heap.size, 1, none⟩ (.int .i32 (p))).setCell ⟨wr.heap.size, 2, none⟩ (.int .i32 (0))) (((hb2.setCell (Nat.le_refl _) _).setCell (Nat.le_refl _) _).setCell (Nat.le_refl _) _) (by omega); simp only at hyy; clear hb1 hb2)
        refine hR.mono ?_
        rintro e W3 (⟨rfl, hJ3, hk3⟩ | ⟨rfl, hJx3⟩)
        · gi_wp2
          go_roundw
          case rel => exact ⟨i', 0, pre ++ [(2, p, 0)], rfl, rfl, by omega, by omega, by simp; omega, HPn, hJ3, hk3⟩
          case measure => simp [intOf]; omega
        · gi_wp2
          rw [Exit.noGoto_normal]
          go_end0
          exact ⟨⟨_, rfl⟩, .inr ⟨pre ++ [(2, p, 0)], by rw [HPn.out]; exact List.prefix_append _ _, hJx3⟩⟩
      · obtain ⟨j', hj'⟩ : ∃ j' : Nat, (j : Int) - 1 = (j' : Int) := ⟨j - 1, by omega⟩
        have ej : j = j' + 1 := by omega
        have HEj := Lib.hid ej; clear ej
        have ey : (y.take j).reverse = y.getD j' 0 :: (y.take j').reverse := by rw [HEj.out]; exact rev_take y j' (by rw [HM.out]; omega)
        obtain ⟨bY, oy, e1, hby, hcy⟩ : ∃ b o, B = some ⟨b, o, none⟩ ∧ b < wr.heap.size ∧ ∀ k, k < M → wr.cell? ⟨b, o + k, none⟩ = some (.int .i32 (y.getD k 0)) := by
          obtain ⟨A', c', e, _, _, hx⟩ := RY.out
          rw [HM.out] at e hx
          obtain ⟨rfl, _, rfl⟩ := Value.slice.inj e
          exact hx (by omega)
        subst e1
        have c2 := hcy j' (by omega)
        clear hcy
        obtain ⟨r, hr⟩ : ∃ r, y.getD j' 0 = r := ⟨_, rfl⟩
        rw [hr] at c2 ey
        have HRr := Lib.hid hr; clear hr
        have EY := Lib.hid ey; clear ey
        have jM : (j' : Int) < (M : Int) := by omega
        have g2 : (0 : Int) < (j : Int) := by omega
        have jL' : (j' : Int) < ((M : Int) + 1) := by omega
        have s4 := s2 j' (by omega)
        clear s2
        obtain ⟨T1, hT1⟩ : ∃ T, tab x y i' j' = T := ⟨_, rfl⟩
        rw [hT1] at s4
        have HT1 := Lib.hid hT1; clear hT1
        have hsb : sameB x y i j = decide (p = r) := by
          rw [sameB, show i - 1 = i' by omega, show j - 1 = j' by omega, HPp.out, HRr.out]
          exact decide_eq_decide.2 ⟨fun h => h.2.2, fun h => ⟨hi0, hj0, h⟩⟩
        rw [hsb] at cs
        clear hsb
        have lT : levR (p :: (x.take i').reverse) (r :: (y.take j').reverse) = T := by rw [← EX.out, ← EY.out]; exact HTT.out
        have lT1 : levR (x.take i').reverse (y.take j').reverse = T1 := HT1.out
        have lT2 : levR (x.take i').reverse (r :: (y.take j').reverse) = T2 := by rw [← EY.out]; exact HT2.out
        have LT := Lib.hid lT; clear lT
        have LT1 := Lib.hid lT1; clear lT1
        have LT2 := Lib.hid lT2; clear lT2
        by_cases hpr : p = r
        · subst hpr
          rw [decide_eq_true rfl] at cs
          have HPn : Hid (P0 = (pre ++ [(0, p, p)]) ++ pathR (x.take i').reverse (y.take j').reverse) := Lib.hid (by
            rw [HP.out, EX.out, EY.out, pathR_same]; simp)
          gi_wp2_with (refine ⟨trivial, ?_⟩; gi_at_call 35; refine (callsIn_wide.2 cs).mono ?_; rintro e w1 ⟨rfl, hb1⟩; have hb2 : Below wr.heap.size wr w1 := hal.out.trans (hb1.mono hal.out.size); have z0 : w1.cell? ⟨wr.heap.size, 0, none⟩ = some (.int .i64 0) := (hb1.cell (p := ⟨wr.heap.size, 0, none⟩) (by simp)).trans (by simp); have z1 : w1.cell? ⟨wr.heap.size, 1, none⟩ = some (.int .i32 0) := (hb1.cell (p := ⟨wr.heap.size, 1, none⟩) (by simp)).trans (by simp); have z2 : w1.cell? ⟨wr.heap.size, 2, none⟩ = some (.int .i32 0) := (hb1.cell (p := ⟨wr.heap.size, 2, none⟩) (by simp)).trans (by simp); have fz : ∀ k, w1.frozen? ⟨wr.heap.size, k, none⟩ = false := fun k => (hb1.frozen (p := ⟨wr.heap.size, k, none⟩) (by simp)).trans (by simp); have fz0 := fz 0; have fz1 := fz 1; have fz2 := fz 2; clear fz; have v0 := MV.out w1 hb1 _ _ t0; have v1 := MV.out w1 hb1 _ _ t1; have v2 := MV.out w1 hb1 _ _ t2; have C1 := MV.out w1 hb1 _ _ c1; have C2 := MV.out w1 hb1 _ _ c2; have HB2 := Lib.hid hb2; clear hb1 hb2)
          refine wpIn_wide.2 ?_
          apply wp_region_at (W := (((w1.setCell ⟨wr.heap.size, 0, none⟩ (.int .i64 0)).setCell ⟨wr.heap.size, 1, none⟩ (.int .i32 p)).setCell ⟨wr.heap.size, 2, none⟩ (.int .i32 p)).drew)
          · go_region
            all_goals exact ⟨rfl, rfl⟩
          obtain ⟨Wy, hWy⟩ : ∃ Wy, Wy = (((w1.setCell ⟨wr.heap.size, 0, none⟩ (.int .i64 0)).setCell ⟨wr.heap.size, 1, none⟩ (.int .i32 p)).setCell ⟨wr.heap.size, 2, none⟩ (.int .i32 p)).drew := ⟨_, rfl⟩
          have y0 : Wy.cell? ⟨wr.heap.size, 0, none⟩ = some (.int .i64 0) := by rw [hWy]; go_simp
          have y1 : Wy.cell? ⟨wr.heap.size, 1, none⟩ = some (.int .i32 p) := by rw [hWy]; go_simp
          have y2 : Wy.cell? ⟨wr.heap.size, 2, none⟩ = some (.int .i32 p) := by rw [hWy]; go_simp
          obtain ⟨fn, tmps, assign, body, hyy, hR⟩ := YTH.out (0, p, p) Wy (by rw [hWy]; exact (((HB2.out.setCell (Nat.le_refl _) _).setCell (Nat.le_refl _) _).setCell (Nat.le_refl _) _).drew) (by omega)
          simp only at hyy
          rw [← hWy]
          clear hWy z0 z1 z2 fz0 fz1 fz2 v0 v1 v2 HB2
          gi_wp2
          refine hR.mono ?_
          rintro e W3 (⟨rfl, hJ3, hk3⟩ | ⟨rfl, hJx3⟩)
          · gi_wp2
            go_roundw
            case rel => exact ⟨i', j', pre ++ [(0, p, p)], rfl, rfl, by omega, by omega, by simp; omega, HPn, hJ3, hk3⟩
            case measure => simp [intOf]; omega
          · gi_wp2
            rw [Exit.noGoto_normal]
            go_end0
            exact ⟨⟨_, rfl⟩, .inr ⟨pre ++ [(0, p, p)], by rw [HPn.out]; exact List.prefix_append _ _, hJx3⟩⟩
        · rw [decide_eq_false hpr] at cs
          by_cases hsub : T = T1 + 1
          · have HPn : Hid (P0 = (pre ++ [(1, p, r)]) ++ pathR (x.take i').reverse (y.take j').reverse) := Lib.hid (by
              rw [HP.out, EX.out, EY.out, pathR_sub hpr (by rw [LT.out, LT1.out]; exact hsub)]; simp)
            have q1 : (T1 : Int) = (T : Int) - 1 := by omega
            have q2 : ((T1 : Int) == (T : Int) - 1) = true := by rw [q1]; exact beq_self_eq_true _
            clear q1
            have HSUB := Lib.hid hsub; clear hsub
            gi_wp2_with (refine ⟨trivial, ?_⟩; gi_at_call 35; refine (callsIn_wide.2 cs).mono ?_; rintro e w1 ⟨rfl, hb1⟩; have hb2 : Below wr.heap.size wr w1 := hal.out.trans (hb1.mono hal.out.size); have z0 : w1.cell? ⟨wr.heap.size, 0, none⟩ = some (.int .i64 0) := (hb1.cell (p := ⟨wr.heap.size, 0, none⟩) (by simp)).trans (by simp); have z1 : w1.cell? ⟨wr.heap.size, 1, none⟩ = some (.int .i32 0) := (hb1.cell (p := ⟨wr.heap.size, 1, none⟩) (by simp)).trans (by simp); have z2 : w1.cell? ⟨wr.heap.size, 2, none⟩ = some (.int .i32 0) := (hb1.cell (p := ⟨wr.heap.size, 2, none⟩) (by simp)).trans (by simp); have fz : ∀ k, w1.frozen? ⟨wr.heap.size, k, none⟩ = false := fun k => (hb1.frozen (p := ⟨wr.heap.size, k, none⟩) (by simp)).trans (by simp); have fz0 := fz 0; have fz1 := fz 1; have fz2 := fz 2; clear fz; have v0 := MV.out w1 hb1 _ _ t0; have v1 := MV.out w1 hb1 _ _ t1; have v2 := MV.out w1 hb1 _ _ t2; have C1 := MV.out w1 hb1 _ _ c1; have C2 := MV.out w1 hb1 _ _ c2; have S1 := MV.out w1 hb1 _ _ s1; have S3 := MV.out w1 hb1 _ _ s3; have S4 := MV.out w1 hb1 _ _ s4; have HB2 := Lib.hid hb2; clear hb1 hb2)
            refine wpIn_wide.2 ?_
            apply wp_region_at (W := (((w1.setCell ⟨wr.heap.size, 0, none⟩ (.int .i64 1)).setCell ⟨wr.heap.size, 1, none⟩ (.int .i32 p)).setCell ⟨wr.heap.size, 2, none⟩ (.int .i32 r)).drew)
            · go_region
              all_goals exact ⟨rfl, rfl⟩
            obtain ⟨Wy, hWy⟩ : ∃ Wy, Wy = (((w1.setCell ⟨wr.heap.size, 0, none⟩ (.int .i64 1)).setCell ⟨wr.heap.size, 1, none⟩ (.int .i32 p)).setCell ⟨wr.heap.size, 2, none⟩ (.int .i32 r)).drew := ⟨_, rfl⟩
            have y0 : Wy.cell? ⟨wr.heap.size, 0, none⟩ = some (.int .i64 1) := by rw [hWy]; go_simp
            have y1 : Wy.cell? ⟨wr.heap.size, 1, none⟩ = some (.int .i32 p) := by rw [hWy]; go_simp
            have y2 : Wy.cell? ⟨wr.heap.size, 2, none⟩ = some (.int .i32 r) := by rw [hWy]; go_simp
            obtain ⟨fn, tmps, assign, body, hyy, hR⟩ := YTH.out (1, p, r) Wy (by rw [hWy]; exact (((HB2.out.setCell (Nat.le_refl _) _).setCell (Nat.le_refl _) _).setCell (Nat.le_refl _) _).drew) (by omega)
            simp only at hyy
            rw [← hWy]
            clear hWy z0 z1 z2 fz0 fz1 fz2 v0 v1 v2 HB2
            gi_wp2
            refine hR.mono ?_
            rintro e W3 (⟨rfl, hJ3, hk3⟩ | ⟨rfl, hJx3⟩)
            · gi_wp2
              go_roundw
              case rel => exact ⟨i', j', pre ++ [(1, p, r)], rfl, rfl, by omega, by omega, by simp; omega, HPn, hJ3, hk3⟩
              case measure => simp [intOf]; omega
            · gi_wp2
              rw [Exit.noGoto_normal]
              go_end0
              exact ⟨⟨_, rfl⟩, .inr ⟨pre ++ [(1, p, r)], by rw [HPn.out]; exact List.prefix_append _ _, hJx3⟩⟩
          · have q2 : ((T1 : Int) == (T : Int) - 1) = false := beq_eq_false_iff_ne.2 (by omega)
            have q2' : ¬ (T1 : Int) = (T : Int) - 1 := by omega
            by_cases hdel : T = T2 + 1
            · have HPn : Hid (P0 = (pre ++ [(2, p, 0)]) ++ pathR (x.take i').reverse (y.take j).reverse) := Lib.hid (by
                rw [HP.out, EX.out, EY.out, pathR_del hpr (by rw [LT.out, LT1.out]; exact hsub) (by rw [LT.out, LT2.out]; exact hdel)]; simp)
              have q1 : (T2 : Int) = (T : Int) - 1 := by omega
              have q3 : ((T2 : Int) == (T : Int) - 1) = true := by rw [q1]; exact beq_self_eq_true _
              clear q1
              have HDEL := Lib.hid hdel; clear hdel
              gi_wp2_with (refine ⟨trivial, ?_⟩; gi_at_call 35; refine (callsIn_wide.2 cs).mono ?_; rintro e w1 ⟨rfl, hb1⟩; have hb2 : Below wr.heap.size wr w1 := hal.out.trans (hb1.mono hal.out.size); have z0 : w1.cell? ⟨wr.heap.size, 0, none⟩ = some (.int .i64 0) := (hb1.cell (p := ⟨wr.heap.size, 0, none⟩) (by simp)).trans (by simp); have z1 : w1.cell? ⟨wr.heap.size, 1, none⟩ = some (.int .i32 0) := (hb1.cell (p := ⟨wr.heap.size, 1, none⟩) (by simp)).trans (by simp); have z2 : w1.cell? ⟨wr.heap.size, 2, none⟩ = some (.int .i32 0) := (hb1.cell (p := ⟨wr.heap.size, 2, none⟩) (by simp)).trans (by simp); have fz : ∀ k, w1.frozen? ⟨wr.heap.size, k, none⟩ = false := fun k => (hb1.frozen (p := ⟨wr.heap.size, k, none⟩) (by simp)).trans (by simp); have fz0 := fz 0; have fz1 := fz 1; have fz2 := fz 2; clear fz; have v0 := MV.out w1 hb1 _ _ t0; have v1 := MV.out w1 hb1 _ _ t1; have v2 := MV.out w1 hb1 _ _ t2; have C1 := MV.out w1 hb1 _ _ c1; have C2 := MV.out w1 hb1 _ _ c2; have S1 := MV.out w1 hb1 _ _ s1; have S3 := MV.out w1 hb1 _ _ s3; have S4 := MV.out w1 hb1 _ _ s4; obtain ⟨fn, tmps, assign, body, hyy, hR⟩ := YTH.out (2, p, 0) (((w1.setCell ⟨wr.heap.size, 0, none⟩ (.int .i64 2)).setCell ⟨wr.heap.size, 1, none⟩ (.int .i32 (p))).setCell ⟨wr.heap.size, 2, none⟩ (.int .i32 (0))) (((hb2.setCell (Nat.le_refl _) _).setCell (Nat.le_refl _) _).setCell (Nat.le_refl _) _) (by omega); simp only at hyy; clear hb1 hb2)
              refine hR.mono ?_
              rintro e W3 (⟨rfl, hJ3, hk3⟩ | ⟨rfl, hJx3⟩)
              · gi_wp2
                go_roundw
                case rel => exact ⟨i', j, pre ++ [(2, p, 0)], rfl, rfl, by omega, by omega, by simp; omega, HPn, hJ3, hk3⟩
                case measure => simp [intOf]; omega
              · gi_wp2
                rw [Exit.noGoto_normal]
                go_end0
                exact ⟨⟨_, rfl⟩, .inr ⟨pre ++ [(2, p, 0)], by rw [HPn.out]; exact List.prefix_append _ _, hJx3⟩⟩
            · have HPn : Hid (P0 = (pre ++ [(3, 0, r)]) ++ pathR (x.take i).reverse (y.take j').reverse) := Lib.hid (by
                rw [HP.out, EX.out, EY.out, pathR_ins hpr (by rw [LT.out, LT1.out]; exact hsub) (by rw [LT.out, LT2.out]; exact hdel)]; simp)
              have q3 : ((T2 : Int) == (T : Int) - 1) = false := beq_eq_false_iff_ne.2 (by omega)
              have q3' : ¬ (T2 : Int) = (T : Int) - 1 := by omega
              gi_wp2_with (refine ⟨trivial, ?_⟩; gi_at_call 35; refine (callsIn_wide.2 cs).mono ?_; rintro e w1 ⟨rfl, hb1⟩; have hb2 : Below wr.heap.size wr w1 := hal.out.trans (hb1.mono hal.out.size); have z0 : w1.cell? ⟨wr.heap.size, 0, none⟩ = some (.int .i64 0) := (hb1.cell (p := ⟨wr.heap.size, 0, none⟩) (by simp)).trans (by simp); have z1 : w1.cell? ⟨wr.heap.size, 1, none⟩ = some (.int .i32 0) := (hb1.cell (p := ⟨wr.heap.size, 1, none⟩) (by simp)).trans (by simp); have z2 : w1.cell? ⟨wr.heap.size, 2, none⟩ = some (.int .i32 0) := (hb1.cell (p := ⟨wr.heap.size, 2, none⟩) (by simp)).trans (by simp); have fz : ∀ k, w1.frozen? ⟨wr.heap.size, k, none⟩ = false := fun k => (hb1.frozen (p := ⟨wr.heap.size, k, none⟩) (by simp)).trans (by simp); have fz0 := fz 0; have fz1 := fz 1; have fz2 := fz 2; clear fz; have v0 := MV.out w1 hb1 _ _ t0; have v1 := MV.out w1 hb1 _ _ t1; have v2 := MV.out w1 hb1 _ _ t2; have C1 := MV.out w1 hb1 _ _ c1; have C2 := MV.out w1 hb1 _ _ c2; have S1 := MV.out w1 hb1 _ _ s1; have S3 := MV.out w1 hb1 _ _ s3; have S4 := MV.out w1 hb1 _ _ s4; obtain ⟨fn, tmps, assign, body, hyy, hR⟩ := YTH.out (3, 0, r) (((w1.setCell ⟨wr.heap.size, 0, none⟩ (.int .i64 3)).setCell ⟨wr.heap.size, 1, none⟩ (.int .i32 (0))).setCell ⟨wr.heap.size, 2, none⟩ (.int .i32 (r))) (((hb2.setCell (Nat.le_refl _) _).setCell (Nat.le_refl _) _).setCell (Nat.le_refl _) _) (by omega); simp only at hyy; clear hb1 hb2)
              refine hR.mono ?_
              rintro e W3 (⟨rfl, hJ3, hk3⟩ | ⟨rfl, hJx3⟩)
              · gi_wp2
                go_roundw
                case rel => exact ⟨i, j', pre ++ [(3, 0, r)], rfl, rfl, by omega, by omega, by simp; omega, HPn, hJ3, hk3⟩
                case measure => simp [intOf]; omega
              · gi_wp2
                rw [Exit.noGoto_normal]
                go_end0
                exact ⟨⟨_, rfl⟩, .inr ⟨pre ++ [(3, 0, r)], by rw [HPn.out]; exact List.prefix_append _ _, hJx3⟩⟩
end Go.Proofs.YthigbnklekdemaaDoor
