/- Texts that several proofs of this seat share, one behind the other: GIter GRev GSteps RefEncode ACheck. -/
import Derived.Test.YtnognphjndpgkaaGreatDoorPk5
import Derived.WalkMore
import Derived.BigRegion
import Derived.Shelf.SlicesQ.Reverse
import Derived.Shelf.SlGeneric
import Derived.Test.YtnognphjndpgkaaGreatDoorPk3
import Derived.Test.YtnognphjndpgkaaGreatDoorPk4
/- The steps that the table's way back hands on: the iterator's contract. -/
namespace Go.Proofs.YtnognphjndpgkaaGreatDoor
open Go.RowKit Go.Shelf
attribute [local go_sem] Oper.semAt_some

/-- A step as a value. -/
def stV (p : St) : Value := .agg #[.int .i64 p.1, .int .i32 p.2.1, .int .i32 p.2.2]

/-- The way back from two beginnings: the step, and where it leads. -/
theorem back_nil (x y : List Int) : pathR (x.take 0).reverse (y.take 0).reverse = [] := by
  rw [List.take_zero, List.take_zero, List.reverse_nil, pathR]

set_option maxRecDepth 100000 in
set_option maxHeartbeats 8000000 in
theorem biter_in (n : Nat) (hn : 1 ≤ n) (l Bs n₀ : Nat) (u v d : Value) (x y : List Int) (lx : x.length ≤ 64) (ly : y.length ≤ 64) (w0 : World) (hw0 : w0.heap.size = n₀) (hx : Runs w0 u x) (hy : Runs w0 v y) (hT : TabR w0 d x y) (J Jx : List St → World → Prop)
    (W : World) (hJ : AbidesFrom W.heap.size J)
    (hY : ∀ pre x W1, J pre W1 → pre.length < 128 → YieldAt Fence.wide (n - 1) Tryz.prog l #[stV x] W1 fun e W' =>
      (e = .returned (.bool true) ∧ J (pre ++ [x]) W' ∧ Keep n₀ Bs W1 W') ∨ (e = .returned (.bool false) ∧ Jx (pre ++ [x]) W'))
    (hn0 : n₀ ≤ W.heap.size) (hW0 : Below n₀ w0 W) (hBs : Bs < W.heap.size)
    (hc : TBox W Bs u v d) (h0 : J [] W) :
    CallsIn Fence.wide n Tryz.prog 72 #[.func (.yield l) #[] #[], .pointer (some ⟨Bs, 0, none⟩)] W fun e W' => (∃ v, e = .returned v) ∧
      ((∃ ys, ys = pathR x.reverse y.reverse ∧ J ys W') ∨ (∃ pre, pre <+: pathR x.reverse y.reverse ∧ Jx pre W')) := by
  obtain ⟨P0, hP0⟩ : ∃ P0, P0 = pathR x.reverse y.reverse := ⟨_, rfl⟩
  rw [← hP0]
  obtain ⟨N, hN⟩ : ∃ n, x.length = n := ⟨_, rfl⟩
  obtain ⟨M, hM⟩ : ∃ n, y.length = n := ⟨_, rfl⟩
  have HP0 : Hid (P0 = pathR (x.take N).reverse (y.take M).reverse) := Lib.hid (by rw [hP0, ← hN, ← hM, List.take_length, List.take_length])
  clear hP0
  rw [hN] at lx
  rw [hM] at ly
  have HN := Lib.hid hN; clear hN
  have HM := Lib.hid hM; clear hM
  have HX := Lib.hid hx; clear hx
  have HYr := Lib.hid hy; clear hy
  have HT := Lib.hid hT; clear hT
  have HW0 := Lib.hid hw0; clear hw0
  obtain ⟨A, ca, eu, _, _, _⟩ := HX.out
  obtain ⟨B, cb, ev, _, _, _⟩ := HYr.out
  obtain ⟨G, dc, ed, _⟩ := HT.out
  subst eu ev ed
  rw [HN.out] at hc HX HT
  rw [HM.out] at hc HYr
  obtain ⟨p0, p1, p2⟩ := hc.cell
  refine callsIn_of_wp Tryz.func72 rfl trivial ?_ rfl
  simp only [Tryz.ntmps72, List.size_toArray, List.length_cons, List.length_nil, Nat.reduceAdd, Nat.reduceSub, Array.replicate_succ, Array.replicate_zero, List.push_toArray, List.append_toArray, List.nil_append, List.cons_append]
  refine wpIn_wide.2 (wp_scope_straight ((wpIn_wide (n := n)).1 ?_))
  refine wpIn_seq_k fun K hK => ?_
  refine wpIn_wide.2 ?_
  go_quiet (fail)
  refine hK _ _ ?_
  clear hK
  gi_wp2_with (refine wpIn_label ?_)
  have B00 : Keep n₀ Bs W (W.drewN nq) := ⟨below_draws (Below.refl _ _) nq, rfl⟩
  have J00 : J [] (W.drewN nq) := hJ _ _ _ none h0 (grown_none (below_draws (Below.refl _ _) nq)) (fun _ h => by cases h)
  gi_loopw [3, 4] (fun s3 s4 wr => ∃ (i j : Nat) (pre : List St), s3 = .int .i64 i ∧ s4 = .int .i64 j ∧ i ≤ N ∧ j ≤ M ∧ pre.length + i + j ≤ N + M ∧ Hid (P0 = pre ++ pathR (x.take i).reverse (y.take j).reverse) ∧ J pre wr ∧ Keep n₀ Bs W wr)
    (fun s3 s4 _ => (intOf s3).toNat + (intOf s4).toNat)
  case atStart => exact ⟨N, M, [], rfl, rfl, Nat.le_refl _, Nat.le_refl _, by simp, HP0, J00, B00⟩
  case round =>
    clear HP0 J00 B00 h0
    obtain ⟨i, j, pre, rfl, rfl, hi, hj, hlen, HP, hJs, hKB⟩ := hrel
    have HB := Lib.hid hKB.1
    have BL : Hid (Below n₀ w0 wr) := Lib.hid (hW0.trans hKB.1)
    have BL' : Hid (Below w0.heap.size w0 wr) := Lib.hid (HW0.out.symm ▸ BL.out)
    have hBw : Bs < wr.heap.size := Nat.lt_of_lt_of_le hBs hKB.1.size
    have hnw : n₀ ≤ wr.heap.size := Nat.le_trans hn0 hKB.1.size
    have BT : Hid (TBox wr Bs (.slice A N ca) (.slice B M cb) (.slice (some ⟨G, 0, none⟩) (N + 1) dc)) := Lib.hid (hKB.2.trans hc)
    have hal : Hid (Below wr.heap.size wr (wr.alloc (.cells #[.int .i64 0, .int .i32 0, .int .i32 0] 90))) := Lib.hid ((Below.refl _ _).alloc (Nat.le_refl _) _)
    have TR : Hid (TabR wr (.slice (some ⟨G, 0, none⟩) (N + 1) dc) x y) := Lib.hid (HT.out.at BL'.out)
    have RX : Hid (Runs wr (.slice A N ca) x) := Lib.hid (HX.out.below BL'.out)
    have RY : Hid (Runs wr (.slice B M cb) y) := Lib.hid (HYr.out.below BL'.out)
    have cs := same_any _ _ (.slice (some ⟨G, 0, none⟩) (N + 1) dc) x y i j (wr.alloc (.cells #[.int .i64 0, .int .i32 0, .int .i32 0] 90)) (RX.out.below hal.out) (RY.out.below hal.out) (by rw [HN.out]; exact lx) (by rw [HM.out]; exact ly) (by rw [HN.out]; exact hi) (by rw [HM.out]; exact hj) ⟨_, _, _, rfl⟩
    have mv0 : ∀ (a : Addr) (z : Value), wr.cell? a = some z → (wr.alloc (.cells #[.int .i64 0, .int .i32 0, .int .i32 0] 90)).cell? a = some z := fun a z hc => (hal.out.cell (cell_lt hc)).trans hc
    have mv : ∀ (w1 : World), Below (wr.alloc (.cells #[.int .i64 0, .int .i32 0, .int .i32 0] 90)).heap.size (wr.alloc (.cells #[.int .i64 0, .int .i32 0, .int .i32 0] 90)) w1 → ∀ (a : Addr) (z : Value), wr.cell? a = some z → w1.cell? a = some z := fun w1 hb a z hc => (hb.cell (Nat.lt_of_lt_of_le (cell_lt hc) hal.out.size)).trans (mv0 a z hc)
    have MV := Lib.hid mv; clear mv
    obtain ⟨t0, t1, t2⟩ := BT.out.cell
    have T0 := mv0 _ _ t0; have T1 := mv0 _ _ t1; have T2 := mv0 _ _ t2
    obtain ⟨b1, u1, u2⟩ : ∃ b, wr.cell? ⟨G, i, none⟩ = some (.slice (some ⟨b, 0, none⟩) (M + 1) (M + 1)) ∧ ∀ j, j ≤ M → wr.cell? ⟨b, j, none⟩ = some (.int .i64 (tab x y i j : Nat)) := by
      obtain ⟨G', dc', e, hx⟩ := TR.out
      obtain ⟨rfl, _, _⟩ : G = G' ∧ N + 1 = x.length + 1 ∧ dc = dc' := by simpa using e
      obtain ⟨b, h1, h2⟩ := hx i (by rw [HN.out]; exact hi)
      rw [HM.out] at h1 h2
      exact ⟨b, h1, h2⟩
    have u3 := u2 j hj
    have U1 := mv0 _ _ u1; have U3 := mv0 _ _ u3
    clear mv0 u2
    have iL : (i : Int) < ((N : Int) + 1) := by omega
    have jL : (j : Int) < ((M : Int) + 1) := by omega
    have YT : ∀ (X : St) (Wy : World), Below wr.heap.size wr Wy → pre.length < 128 → YieldAt Fence.wide (n - 1) Tryz.prog l #[.agg #[.int .i64 X.1, .int .i32 X.2.1, .int .i32 X.2.2]] Wy fun e W' =>
        (e = .returned (.bool true) ∧ J (pre ++ [X]) W' ∧ Keep n₀ Bs W W') ∨ (e = .returned (.bool false) ∧ Jx (pre ++ [X]) W') := fun X Wy hb hl => by
      refine (hY pre X Wy (hJ _ _ _ none hJs (grown_none hb) (fun _ h => by cases h)) hl).mono ?_
      rintro e w' (⟨h1, h2, h3⟩ | h)
      · exact .inl ⟨h1, h2, hKB.trans ((Keep.of_below hb hnw hBw).trans h3)⟩
      · exact .inr h
    have YTH := Lib.hid YT; clear YT
    have HJs := Lib.hid hJs; clear hJs
    have HKB := Lib.hid hKB; clear hKB
    have tb0 := tab_le x y i j
    rw [HN.out, HM.out] at tb0
    obtain ⟨T, hT⟩ : ∃ T, tab x y i j = T := ⟨_, rfl⟩
    rw [hT] at u3 U3 tb0
    have HTT := Lib.hid hT; clear hT
    rcases Nat.eq_zero_or_pos i with hi0 | hi0
    · rcases Nat.eq_zero_or_pos j with hj0 | hj0
      · subst hi0 hj0
        have hsb : sameB x y 0 0 = false := by rw [sameB, decide_eq_false_iff_not]; omega
        rw [hsb] at cs
        clear hsb
        have HPe : Hid (P0 = pre) := Lib.hid (by have := HP.out; rw [back_nil, List.append_nil] at this; exact this)
        gi_wp2_with (refine ⟨trivial, ?_⟩; gi_at_call 73; refine (callsIn_wide.2 cs).mono ?_; rintro e w1 ⟨rfl, hb1⟩; have J1 : Hid (J pre w1) := Lib.hid (hJ _ _ _ none HJs.out (grown_none (hal.out.trans (hb1.mono hal.out.size))) (fun _ h => by cases h)); clear hb1)
        rw [Exit.noGoto_normal]
        go_end0
        exact ⟨⟨_, rfl⟩, .inl ⟨pre, HPe.out.symm, J1.out⟩⟩
      · subst hi0
        have hsb : sameB x y 0 j = false := by rw [sameB, decide_eq_false_iff_not]; omega
        rw [hsb] at cs
        clear hsb
        obtain ⟨j', hj'⟩ : ∃ j' : Nat, (j : Int) - 1 = (j' : Int) := ⟨j - 1, by omega⟩
        have ej : j = j' + 1 := by omega
        have HEj := Lib.hid ej; clear ej
        have ey : (y.take j).reverse = y.getD j' 0 :: (y.take j').reverse := by rw [HEj.out]; exact rev_take y j' (by rw [HM.out]; omega)
        obtain ⟨bY, oy, e1, hby, hcy⟩ : ∃ b o, B = some ⟨b, o, none⟩ ∧ b < wr.heap.size ∧ ∀ k, k < M → wr.cell? ⟨b, o + k, none⟩ = some (.int .i32 (y.getD k 0)) := by
          obtain ⟨A', c', e, _, _, hx⟩ := RY.out
          rw [HM.out] at e hx
          obtain ⟨rfl, _, rfl⟩ := Value.slice.inj e
          exact hx (by omega)
        subst e1
        have c2 := hcy j' (by omega)
        clear hcy
        obtain ⟨r, hr⟩ : ∃ r, y.getD j' 0 = r := ⟨_, rfl⟩
        rw [hr] at c2 ey
        clear hr
        have HPn : Hid (P0 = (pre ++ [(3, 0, r)]) ++ pathR (x.take 0).reverse (y.take j').reverse) := Lib.hid (by
          rw [HP.out, ey, List.take_zero, List.reverse_nil, pathR]; simp)
        clear ey
        have jM : (j' : Int) < (M : Int) := by omega
        have g2 : (0 : Int) < (j : Int) := by omega
        gi_wp2_with (refine ⟨trivial, ?_⟩; gi_at_call 73; refine (callsIn_wide.2 cs).mono ?_; rintro e w1 ⟨rfl, hb1⟩; have hb2 : Below wr.heap.size wr w1 := hal.out.trans (hb1.mono hal.out.size); have z0 : w1.cell? ⟨wr.heap.size, 0, none⟩ = some (.int .i64 0) := (hb1.cell (p := ⟨wr.heap.size, 0, none⟩) (by simp)).trans (by simp); have z1 : w1.cell? ⟨wr.heap.size, 1, none⟩ = some (.int .i32 0) := (hb1.cell (p := ⟨wr.heap.size, 1, none⟩) (by simp)).trans (by simp); have z2 : w1.cell? ⟨wr.heap.size, 2, none⟩ = some (.int .i32 0) := (hb1.cell (p := ⟨wr.heap.size, 2, none⟩) (by simp)).trans (by simp); have fz : ∀ k, w1.frozen? ⟨wr.heap.size, k, none⟩ = false := fun k => (hb1.frozen (p := ⟨wr.heap.size, k, none⟩) (by simp)).trans (by simp); have fz0 := fz 0; have fz1 := fz 1; have fz2 := fz 2; clear fz; have v0 := MV.out w1 hb1 _ _ t0; have v1 := MV.out w1 hb1 _ _ t1; have v2 := MV.out w1 hb1 _ _ t2; have C2 := MV.out w1 hb1 _ _ c2; obtain ⟨fn, tmps, assign, body, hyy, hR⟩ := YTH.out (3, 0, r) (((w1.setCell ⟨wr.heap.size, 0, none⟩ (.int .i64 3)).setCell ⟨wr.heap.size, 1, none⟩ (.int .i32 (0))).setCell ⟨wr.heap.size, 2, none⟩ (.int .i32 (r))) (((hb2.setCell (Nat.le_refl _) _).setCell (Nat.le_refl _) _).setCell (Nat.le_refl _) _) (by omega); simp only at hyy; clear hb1 hb2)
        refine hR.mono ?_
        rintro e W3 (⟨rfl, hJ3, hk3⟩ | ⟨rfl, hJx3⟩)
        · gi_wp2
          go_roundw
          case rel => exact ⟨0, j', pre ++ [(3, 0, r)], rfl, rfl, by omega, by omega, by simp; omega, HPn, hJ3, hk3⟩
          case measure => simp [intOf]; omega
        · gi_wp2
          rw [Exit.noGoto_normal]
          go_end0
          exact ⟨⟨_, rfl⟩, .inr ⟨pre ++ [(3, 0, r)], by rw [HPn.out]; exact List.prefix_append _ _, hJx3⟩⟩
    · obtain ⟨i', hi'⟩ : ∃ i' : Nat, (i : Int) - 1 = (i' : Int) := ⟨i - 1, by omega⟩
      have ei : i = i' + 1 := by omega
      have HEi := Lib.hid ei; clear ei
      have ex : (x.take i).reverse = x.getD i' 0 :: (x.take i').reverse := by rw [HEi.out]; exact rev_take x i' (by rw [HN.out]; omega)
      obtain ⟨bX, ox, e1, hbx, hcx⟩ : ∃ b o, A = some ⟨b, o, none⟩ ∧ b < wr.heap.size ∧ ∀ k, k < N → wr.cell? ⟨b, o + k, none⟩ = some (.int .i32 (x.getD k 0)) := by
        obtain ⟨A', c', e, _, _, hx⟩ := RX.out
        rw [HN.out] at e hx
        obtain ⟨rfl, _, rfl⟩ := Value.slice.inj e
        exact hx (by omega)
      subst e1
      have c1 := hcx i' (by omega)
      clear hcx
      obtain ⟨p, hp⟩ : ∃ p, x.getD i' 0 = p := ⟨_, rfl⟩
      rw [hp] at c1 ex
      have HPp := Lib.hid hp; clear hp
      have EX := Lib.hid ex; clear ex
      have iN : (i' : Int) < (N : Int) := by omega
      have g1 : (0 : Int) < (i : Int) := by omega
      have iL' : (i' : Int) < ((N : Int) + 1) := by omega
      obtain ⟨b0, s1, s2⟩ : ∃ b, wr.cell? ⟨G, i', none⟩ = some (.slice (some ⟨b, 0, none⟩) (M + 1) (M + 1)) ∧ ∀ j, j ≤ M → wr.cell? ⟨b, j, none⟩ = some (.int .i64 (tab x y i' j : Nat)) := by
        obtain ⟨G', dc', e, hx⟩ := TR.out
        obtain ⟨rfl, _, _⟩ : G = G' ∧ N + 1 = x.length + 1 ∧ dc = dc' := by simpa using e
        obtain ⟨b, h1, h2⟩ := hx i' (by rw [HN.out]; omega)
        rw [HM.out] at h1 h2
        exact ⟨b, h1, h2⟩
      have s3 := s2 j hj
      obtain ⟨T2, hT2⟩ : ∃ T, tab x y i' j = T := ⟨_, rfl⟩
      rw [hT2] at s3
      have HT2 := Lib.hid hT2; clear hT2
      rcases Nat.eq_zero_or_pos j with hj0 | hj0
      · subst hj0
        have hsb : sameB x y i 0 = false := by rw [sameB, decide_eq_false_iff_not]; omega
        rw [hsb] at cs
        clear hsb s2
        have q1 : (T2 : Int) = (T : Int) - 1 := by
          rw [← HT2.out, ← HTT.out, tab_zero' x y i (by rw [HN.out]; exact hi), tab_zero' x y i' (by rw [HN.out]; omega)]
          omega
        have q2 : ((T2 : Int) == (T : Int) - 1) = true := by rw [q1]; exact beq_self_eq_true _
        clear q1
        have HPn : Hid (P0 = (pre ++ [(2, p, 0)]) ++ pathR (x.take i').reverse (y.take 0).reverse) := Lib.hid (by
          rw [HP.out, EX.out, List.take_zero, List.reverse_nil, pathR]; simp)
        gi_wp2_with (refine ⟨trivial, ?_⟩; gi_at_call 73; refine (callsIn_wide.2 cs).mono ?_; rintro e w1 ⟨rfl, hb1⟩; have hb2 : Below wr.heap.size wr w1 := hal.out.trans (hb1.mono hal.out.size); have z0 : w1.cell? ⟨wr.heap.size, 0, none⟩ = some (.int .i64 0) := (hb1.cell (p := ⟨wr.heap.size, 0, none⟩) (by simp)).trans (by simp); have z1 : w1.cell? ⟨wr.heap.size, 1, none⟩ = some (.int .i32 0) := (hb1.cell (p := ⟨wr.heap.size, 1, none⟩) (by simp)).trans (by simp); have z2 : w1.cell? ⟨wr.heap.size, 2, none⟩ = some (.int .i32 0) := (hb1.cell (p := ⟨wr.heap.size, 2, none⟩) (by simp)).trans (by simp); have fz : ∀ k, w1.frozen? ⟨wr.heap.size, k, none⟩ = false := fun k => (hb1.frozen (p := ⟨wr.heap.size, k, none⟩) (by simp)).trans (by simp); have fz0 := fz 0; have fz1 := fz 1; have fz2 := fz 2; clear fz; have v0 := MV.out w1 hb1 _ _ t0; have v1 := MV.out w1 hb1 _ _ t1; have v2 := MV.out w1 hb1 _ _ t2; have C1 := MV.out w1 hb1 _ _ c1; have S1 := MV.out w1 hb1 _ _ s1; have S3 := MV.out w1 hb1 _ _ s3; obtain ⟨fn, tmps, assign, body, hyy, hR⟩ := YTH.out (2, p, 0) (((w1.setCell ⟨wr.heap.size, 0, none⟩ (.int .i64 2)).setCell ⟨wr.heap.size, 1, none⟩ (.int .i32 (p))).setCell ⟨wr.heap.size, 2, none⟩ (.int .i32 (0))) (((hb2.setCell (Nat.le_refl _) _).setCell (Nat.le_refl _) _).setCell (Nat.le_refl _) _) (by omega); simp only at hyy; clear hb1 hb2)
        refine hR.mono ?_
        rintro e W3 (⟨rfl, hJ3, hk3⟩ | ⟨rfl, hJx3⟩)
        · gi_wp2
          go_roundw
          case rel => exact ⟨i', 0, pre ++ [(2, p, 0)], rfl, rfl, by omega, by omega, by simp; omega, HPn, hJ3, hk3⟩
          case measure => simp [intOf]; omega
        · gi_wp2
          rw [Exit.noGoto_normal]
          go_end0
          exact ⟨⟨_, rfl⟩, .inr ⟨pre ++ [(2, p, 0)], by rw [HPn.out]; exact List.prefix_append _ _, hJx3⟩⟩
      · obtain ⟨j', hj'⟩ : ∃ j' : Nat, (j : Int) - 1 = (j' : Int) := ⟨j - 1, by omega⟩
        have ej : j = j' + 1 := by omega
        have HEj := Lib.hid ej; clear ej
        have ey : (y.take j).reverse = y.getD j' 0 :: (y.take j').reverse := by rw [HEj.out]; exact rev_take y j' (by rw [HM.out]; omega)
        obtain ⟨bY, oy, e1, hby, hcy⟩ : ∃ b o, B = some ⟨b, o, none⟩ ∧ b < wr.heap.size ∧ ∀ k, k < M → wr.cell? ⟨b, o + k, none⟩ = some (.int .i32 (y.getD k 0)) := by
          obtain ⟨A', c', e, _, _, hx⟩ := RY.out
          rw [HM.out] at e hx
          obtain ⟨rfl, _, rfl⟩ := Value.slice.inj e
          exact hx (by omega)
        subst e1
        have c2 := hcy j' (by omega)
        clear hcy
        obtain ⟨r, hr⟩ : ∃ r, y.getD j' 0 = r := ⟨_, rfl⟩
        rw [hr] at c2 ey
        have HRr := Lib.hid hr; clear hr
        have EY := Lib.hid ey; clear ey
        have jM : (j' : Int) < (M : Int) := by omega
        have g2 : (0 : Int) < (j : Int) := by omega
        have jL' : (j' : Int) < ((M : Int) + 1) := by omega
        have s4 := s2 j' (by omega)
        clear s2
        obtain ⟨T1, hT1⟩ : ∃ T, tab x y i' j' = T := ⟨_, rfl⟩
        rw [hT1] at s4
        have HT1 := Lib.hid hT1; clear hT1
        have hsb : sameB x y i j = decide (p = r) := by
          rw [sameB, show i - 1 = i' by omega, show j - 1 = j' by omega, HPp.out, HRr.out]
          exact decide_eq_decide.2 ⟨fun h => h.2.2, fun h => ⟨hi0, hj0, h⟩⟩
        rw [hsb] at cs
        clear hsb
        have lT : levR (p :: (x.take i').reverse) (r :: (y.take j').reverse) = T := by rw [← EX.out, ← EY.out]; exact HTT.out
        have lT1 : levR (x.take i').reverse (y.take j').reverse = T1 := HT1.out
        have lT2 : levR (x.take i').reverse (r :: (y.take j').reverse) = T2 := by rw [← EY.out]; exact HT2.out
        have LT := Lib.hid lT; clear lT
        have LT1 := Lib.hid lT1; clear lT1
        have LT2 := Lib.hid lT2; clear lT2
        by_cases hpr : p = r
        · subst hpr
          rw [decide_eq_true rfl] at cs
          have HPn : Hid (P0 = (pre ++ [(0, p, p)]) ++ pathR (x.take i').reverse (y.take j').reverse) := Lib.hid (by
            rw [HP.out, EX.out, EY.out, pathR_same]; simp)
          gi_wp2_with (refine ⟨trivial, ?_⟩; gi_at_call 73; refine (callsIn_wide.2 cs).mono ?_; rintro e w1 ⟨rfl, hb1⟩; have hb2 : Below wr.heap.size wr w1 := hal.out.trans (hb1.mono hal.out.size); have z0 : w1.cell? ⟨wr.heap.size, 0, none⟩ = some (.int .i64 0) := (hb1.cell (p := ⟨wr.heap.size, 0, none⟩) (by simp)).trans (by simp); have z1 : w1.cell? ⟨wr.heap.size, 1, none⟩ = some (.int .i32 0) := (hb1.cell (p := ⟨wr.heap.size, 1, none⟩) (by simp)).trans (by simp); have z2 : w1.cell? ⟨wr.heap.size, 2, none⟩ = some (.int .i32 0) := (hb1.cell (p := ⟨wr.heap.size, 2, none⟩) (by simp)).trans (by simp); have fz : ∀ k, w1.frozen? ⟨wr.heap.size, k, none⟩ = false := fun k => (hb1.frozen (p := ⟨wr.heap.size, k, none⟩) (by simp)).trans (by simp); have fz0 := fz 0; have fz1 := fz 1; have fz2 := fz 2; clear fz; have v0 := MV.out w1 hb1 _ _ t0; have v1 := MV.out w1 hb1 _ _ t1; have v2 := MV.out w1 hb1 _ _ t2; have C1 := MV.out w1 hb1 _ _ c1; have C2 := MV.out w1 hb1 _ _ c2; have HB2 := Lib.hid hb2; clear hb1 hb2)
          refine wpIn_wide.2 ?_
          apply wp_region_at (W := (((w1.setCell ⟨wr.heap.size, 0, none⟩ (.int .i64 0)).setCell ⟨wr.heap.size, 1, none⟩ (.int .i32 p)).setCell ⟨wr.heap.size, 2, none⟩ (.int .i32 p)).drew)
          · go_region
            all_goals exact ⟨rfl, rfl⟩
          obtain ⟨Wy, hWy⟩ : ∃ Wy, Wy = (((w1.setCell ⟨wr.heap.size, 0, none⟩ (.int .i64 0)).setCell ⟨wr.heap.size, 1, none⟩ (.int .i32 p)).setCell ⟨wr.heap.size, 2, none⟩ (.int .i32 p)).drew := ⟨_, rfl⟩
          have y0 : Wy.cell? ⟨wr.heap.size, 0, none⟩ = some (.int .i64 0) := by rw [hWy]; go_simp
          have y1 : Wy.cell? ⟨wr.heap.size, 1, none⟩ = some (.int .i32 p) := by rw [hWy]; go_simp
          have y2 : Wy.cell? ⟨wr.heap.size, 2, none⟩ = some (.int .i32 p) := by rw [hWy]; go_simp
          obtain ⟨fn, tmps, assign, body, hyy, hR⟩ := YTH.out (0, p, p) Wy (by rw [hWy]; exact (((HB2.out.setCell (Nat.le_refl _) _).setCell (Nat.le_refl _) _).setCell (Nat.le_refl _) _).drew) (by omega)
          simp only at hyy
          rw [← hWy]
          clear hWy z0 z1 z2 fz0 fz1 fz2 v0 v1 v2 HB2
          gi_wp2
          refine hR.mono ?_
          rintro e W3 (⟨rfl, hJ3, hk3⟩ | ⟨rfl, hJx3⟩)
          · gi_wp2
            go_roundw
            case rel => exact ⟨i', j', pre ++ [(0, p, p)], rfl, rfl, by omega, by omega, by simp; omega, HPn, hJ3, hk3⟩
            case measure => simp [intOf]; omega
          · gi_wp2
            rw [Exit.noGoto_normal]
            go_end0
            exact ⟨⟨_, rfl⟩, .inr ⟨pre ++ [(0, p, p)], by rw [HPn.out]; exact List.prefix_append _ _, hJx3⟩⟩
        · rw [decide_eq_false hpr] at cs
          by_cases hsub : T = T1 + 1
          · have HPn : Hid (P0 = (pre ++ [(1, p, r)]) ++ pathR (x.take i').reverse (y.take j').reverse) := Lib.hid (by
              rw [HP.out, EX.out, EY.out, pathR_sub hpr (by rw [LT.out, LT1.out]; exact hsub)]; simp)
            have q1 : (T1 : Int) = (T : Int) - 1 := by omega
            have q2 : ((T1 : Int) == (T : Int) - 1) = true := by rw [q1]; exact beq_self_eq_true _
            clear q1
            have HSUB := Lib.hid hsub; clear hsub
            gi_wp2_with (refine ⟨trivial, ?_⟩; gi_at_call 73; refine (callsIn_wide.2 cs).mono ?_; rintro e w1 ⟨rfl, hb1⟩; have hb2 : Below wr.heap.size wr w1 := hal.out.trans (hb1.mono hal.out.size); have z0 : w1.cell? ⟨wr.heap.size, 0, none⟩ = some (.int .i64 0) := (hb1.cell (p := ⟨wr.heap.size, 0, none⟩) (by simp)).trans (by simp); have z1 : w1.cell? ⟨wr.heap.size, 1, none⟩ = some (.int .i32 0) := (hb1.cell (p := ⟨wr.heap.size, 1, none⟩) (by simp)).trans (by simp); have z2 : w1.cell? ⟨wr.heap.size, 2, none⟩ = some (.int .i32 0) := (hb1.cell (p := ⟨wr.heap.size, 2, none⟩) (by simp)).trans (by simp); have fz : ∀ k, w1.frozen? ⟨wr.heap.size, k, none⟩ = false := fun k => (hb1.frozen (p := ⟨wr.heap.size, k, none⟩) (by simp)).trans (by simp); have fz0 := fz 0; have fz1 := fz 1; have fz2 := fz 2; clear fz; have v0 := MV.out w1 hb1 _ _ t0; have v1 := MV.out w1 hb1 _ _ t1; have v2 := MV.out w1 hb1 _ _ t2; have C1 := MV.out w1 hb1 _ _ c1; have C2 := MV.out w1 hb1 _ _ c2; have S1 := MV.out w1 hb1 _ _ s1; have S3 := MV.out w1 hb1 _ _ s3; have S4 := MV.out w1 hb1 _ _ s4; have HB2 := Lib.hid hb2; clear hb1 hb2)
            refine wpIn_wide.2 ?_
            apply wp_region_at (W := (((w1.setCell ⟨wr.heap.size, 0, none⟩ (.int .i64 1)).setCell ⟨wr.heap.size, 1, none⟩ (.int .i32 p)).setCell ⟨wr.heap.size, 2, none⟩ (.int .i32 r)).drew)
            · go_region
              all_goals exact ⟨rfl, rfl⟩
            obtain ⟨Wy, hWy⟩ : ∃ Wy, Wy = (((w1.setCell ⟨wr.heap.size, 0, none⟩ (.int .i64 1)).setCell ⟨wr.heap.size, 1, none⟩ (.int .i32 p)).setCell ⟨wr.heap.size, 2, none⟩ (.int .i32 r)).drew := ⟨_, rfl⟩
            have y0 : Wy.cell? ⟨wr.heap.size, 0, none⟩ = some (.int .i64 1) := by rw [hWy]; go_simp
            have y1 : Wy.cell? ⟨wr.heap.size, 1, none⟩ = some (.int .i32 p) := by rw [hWy]; go_simp
            have y2 : Wy.cell? ⟨wr.heap.size, 2, none⟩ = some (.int .i32 r) := by rw [hWy]; go_simp
            obtain ⟨fn, tmps, assign, body, hyy, hR⟩ := YTH.out (1, p, r) Wy (by rw [hWy]; exact (((HB2.out.setCell (Nat.le_refl _) _).setCell (Nat.le_refl _) _).setCell (Nat.le_refl _) _).drew) (by omega)
            simp only at hyy
            rw [← hWy]
            clear hWy z0 z1 z2 fz0 fz1 fz2 v0 v1 v2 HB2
            gi_wp2
            refine hR.mono ?_
            rintro e W3 (⟨rfl, hJ3, hk3⟩ | ⟨rfl, hJx3⟩)
            · gi_wp2
              go_roundw
              case rel => exact ⟨i', j', pre ++ [(1, p, r)], rfl, rfl, by omega, by omega, by simp; omega, HPn, hJ3, hk3⟩
              case measure => simp [intOf]; omega
            · gi_wp2
              rw [Exit.noGoto_normal]
              go_end0
              exact ⟨⟨_, rfl⟩, .inr ⟨pre ++ [(1, p, r)], by rw [HPn.out]; exact List.prefix_append _ _, hJx3⟩⟩
          · have q2 : ((T1 : Int) == (T : Int) - 1) = false := beq_eq_false_iff_ne.2 (by omega)
            have q2' : ¬ (T1 : Int) = (T : Int) - 1 := by omega
            by_cases hdel : T = T2 + 1
            · have HPn : Hid (P0 = (pre ++ [(2, p, 0)]) ++ pathR (x.take i').reverse (y.take j).reverse) := Lib.hid (by
                rw [HP.out, EX.out, EY.out, pathR_del hpr (by rw [LT.out, LT1.out]; exact hsub) (by rw [LT.out, LT2.out]; exact hdel)]; simp)
              have q1 : (T2 : Int) = (T : Int) - 1 := by omega
              have q3 : ((T2 : Int) == (T : Int) - 1) = true := by rw [q1]; exact beq_self_eq_true _
              clear q1
              have HDEL := Lib.hid hdel; clear hdel
              gi_wp2_with (refine ⟨trivial, ?_⟩; gi_at_call 73; refine (callsIn_wide.2 cs).mono ?_; rintro e w1 ⟨rfl, hb1⟩; have hb2 : Below wr.heap.size wr w1 := hal.out.trans (hb1.mono hal.out.size); have z0 : w1.cell? ⟨wr.heap.size, 0, none⟩ = some (.int .i64 0) := (hb1.cell (p := ⟨wr.heap.size, 0, none⟩) (by simp)).trans (by simp); have z1 : w1.cell? ⟨wr.heap.size, 1, none⟩ = some (.int .i32 0) := (hb1.cell (p := ⟨wr.heap.size, 1, none⟩) (by simp)).trans (by simp); have z2 : w1.cell? ⟨wr.heap.size, 2, none⟩ = some (.int .i32 0) := (hb1.cell (p := ⟨wr.heap.size, 2, none⟩) (by simp)).trans (by simp); have fz : ∀ k, w1.frozen? ⟨wr.heap.size, k, none⟩ = false := fun k => (hb1.frozen (p := ⟨wr.heap.size, k, none⟩) (by simp)).trans (by simp); have fz0 := fz 0; have fz1 := fz 1; have fz2 := fz 2; clear fz; have v0 := MV.out w1 hb1 _ _ t0; have v1 := MV.out w1 hb1 _ _ t1; have v2 := MV.out w1 hb1 _ _ t2; have C1 := MV.out w1 hb1 _ _ c1; have C2 := MV.out w1 hb1 _ _ c2; have S1 := MV.out w1 hb1 _ _ s1; have S3 := MV.out w1 hb1 _ _ s3; have S4 := MV.out w1 hb1 _ _ s4; obtain ⟨fn, tmps, assign, body, hyy, hR⟩ := YTH.out (2, p, 0) (((w1.setCell ⟨wr.heap.size, 0, none⟩ (.int .i64 2)).setCell ⟨wr.heap.size, 1, none⟩ (.int .i32 (p))).setCell ⟨wr.heap.size, 2, none⟩ (.int .i32 (0))) (((hb2.setCell (Nat.le_refl _) _).setCell (Nat.le_refl _) _).setCell (Nat.le_refl _) _) (by omega); simp only at hyy; clear hb1 hb2)
              refine hR.mono ?_
              rintro e W3 (⟨rfl, hJ3, hk3⟩ | ⟨rfl, hJx3⟩)
              · gi_wp2
                go_roundw
                case rel => exact ⟨i', j, pre ++ [(2, p, 0)], rfl, rfl, by omega, by omega, by simp; omega, HPn, hJ3, hk3⟩
                case measure => simp [intOf]; omega
              · gi_wp2
                rw [Exit.noGoto_normal]
                go_end0
                exact ⟨⟨_, rfl⟩, .inr ⟨pre ++ [(2, p, 0)], by rw [HPn.out]; exact List.prefix_append _ _, hJx3⟩⟩
            · have HPn : Hid (P0 = (pre ++ [(3, 0, r)]) ++ pathR (x.take i).reverse (y.take j').reverse) := Lib.hid (by
                rw [HP.out, EX.out, EY.out, pathR_ins hpr (by rw [LT.out, LT1.out]; exact hsub) (by rw [LT.out, LT2.out]; exact hdel)]; simp)
              have q3 : ((T2 : Int) == (T : Int) - 1) = false := beq_eq_false_iff_ne.2 (by omega)
              have q3' : ¬ (T2 : Int) = (T : Int) - 1 := by omega
              gi_wp2_with (refine ⟨trivial, ?_⟩; gi_at_call 73; refine (callsIn_wide.2 cs).mono ?_; rintro e w1 ⟨rfl, hb1⟩; have hb2 : Below wr.heap.size wr w1 := hal.out.trans (hb1.mono hal.out.size); have z0 : w1.cell? ⟨wr.heap.size, 0, none⟩ = some (.int .i64 0) := (hb1.cell (p := ⟨wr.heap.size, 0, none⟩) (by simp)).trans (by simp); have z1 : w1.cell? ⟨wr.heap.size, 1, none⟩ = some (.int .i32 0) := (hb1.cell (p := ⟨wr.heap.size, 1, none⟩) (by simp)).trans (by simp); have z2 : w1.cell? ⟨wr.heap.size, 2, none⟩ = some (.int .i32 0) := (hb1.cell (p := ⟨wr.heap.size, 2, none⟩) (by simp)).trans (by simp); have fz : ∀ k, w1.frozen? ⟨wr.heap.size, k, none⟩ = false := fun k => (hb1.frozen (p := ⟨wr.heap.size, k, none⟩) (by simp)).trans (by simp); have fz0 := fz 0; have fz1 := fz 1; have fz2 := fz 2; clear fz; have v0 := MV.out w1 hb1 _ _ t0; have v1 := MV.out w1 hb1 _ _ t1; have v2 := MV.out w1 hb1 _ _ t2; have C1 := MV.out w1 hb1 _ _ c1; have C2 := MV.out w1 hb1 _ _ c2; have S1 := MV.out w1 hb1 _ _ s1; have S3 := MV.out w1 hb1 _ _ s3; have S4 := MV.out w1 hb1 _ _ s4; obtain ⟨fn, tmps, assign, body, hyy, hR⟩ := YTH.out (3, 0, r) (((w1.setCell ⟨wr.heap.size, 0, none⟩ (.int .i64 3)).setCell ⟨wr.heap.size, 1, none⟩ (.int .i32 (0))).setCell ⟨wr.heap.size, 2, none⟩ (.int .i32 (r))) (((hb2.setCell (Nat.le_refl _) _).setCell (Nat.le_refl _) _).setCell (Nat.le_refl _) _) (by omega); simp only at hyy; clear hb1 hb2)
              refine hR.mono ?_
              rintro e W3 (⟨rfl, hJ3, hk3⟩ | ⟨rfl, hJx3⟩)
              · gi_wp2
                go_roundw
                case rel => exact ⟨i, j', pre ++ [(3, 0, r)], rfl, rfl, by omega, by omega, by simp; omega, HPn, hJ3, hk3⟩
                case measure => simp [intOf]; omega
              · gi_wp2
                rw [Exit.noGoto_normal]
                go_end0
                exact ⟨⟨_, rfl⟩, .inr ⟨pre ++ [(3, 0, r)], by rw [HPn.out]; exact List.prefix_append _ _, hJx3⟩⟩
end Go.Proofs.YtnognphjndpgkaaGreatDoor

/- slices.Reverse at steps: the library's contract at this program's numbers, and what it does to a row of the call's own. -/
namespace Go.Proofs
open Go.Shelf
def Tryz.lays35_ren : Go.Shelf.Ren := ⟨fun | 35 => 50 | n => n, fun | 22 => 65 | 23 => 90 | 3 => 3 | 4 => 4 | 0 => 0 | n => n, fun | n => n⟩
theorem Tryz.lays35 : Go.Proofs.SlLaysE0.n35 Tryz.prog Tryz.lays35_ren := {
  mixed := by kernel_rfl
  f35 := ⟨Tryz.f50.name, by decide, Tryz.func50.trans (congrArg some (by kernel_rfl))⟩
  t0 := Tryz.underlying0
  a0 := Tryz.isAgg0
  z0 := Tryz.sizeOf0
  v0 := Tryz.zeroValue0
  t3 := Tryz.underlying3
  a3 := Tryz.isAgg3
  z3 := Tryz.sizeOf3
  v3 := Tryz.zeroValue3
  t4 := Tryz.underlying4
  a4 := Tryz.isAgg4
  z4 := Tryz.sizeOf4
  v4 := Tryz.zeroValue4
  t22 := Tryz.underlying65
  a22 := Tryz.isAgg65
  z22 := Tryz.sizeOf65
  v22 := Tryz.zeroValue65 }
end Go.Proofs
namespace Go.Proofs.YtnognphjndpgkaaGreatDoor
open Go.RowKit Go.Shelf Go.Sort

theorem own_holds {w : World} {base g cap : Nat} {l : List St} (h : w.ownsRow base 90 3 (.slice (some ⟨g, 0, none⟩) l.length cap) l.length (stCells l)) : HoldsK stCell 3 w g 0 l.toArray := by
  intro j hj
  have hj' : j < l.length * 3 := by simpa using hj
  have hfr : w.frozen? ⟨g, 0 + j, none⟩ = false := by
    rcases h.2 with ⟨h0, _⟩ | ⟨g', cap', cur, e1, hb, hg, h1, h2, h3, h4⟩
    · cases h0
    · simp only [Value.slice.injEq, Option.some.injEq, Addr.mk.injEq] at e1
      obtain ⟨⟨rfl, _⟩, _, rfl⟩ := e1
      simp [World.frozen?, hg]
  refine ⟨?_, hfr⟩
  rw [get_flatK stCell 3 l.toArray j (by simpa using hj')]
  have hq : j / 3 < l.length := by omega
  have h3 := stCells_at l (j / 3) (j % 3) hq (Nat.mod_lt _ (by decide))
  rw [show j / 3 * 3 + j % 3 = j by omega] at h3
  have e : l.toArray[j / 3]! = l.getD (j / 3) (0, 0, 0) := by
    rw [getElem!_pos l.toArray (j / 3) (by simpa using hq)]
    simp [List.getD_eq_getElem?_getD, hq]
  rw [e]
  have hm : j % 3 < (stCell (l.getD (j / 3) (0, 0, 0))).length := by show j % 3 < 3; omega
  rw [List.getElem?_eq_getElem hm] at h3
  rw [Nat.zero_add, getElem!_pos _ (j % 3) hm]
  exact own_cell' h j hj' _ h3

theorem reverse_any (v : Value) (l : List St) (base : Nat) (w : World) (h : w.ownsRow base 90 3 v l.length (stCells l)) (hl : l.length ≤ 1000000) :
    Calls Tryz.prog 50 #[v] w fun e w' => e = .returned (.tuple #[]) ∧ StRuns w' v l.reverse ∧ Below base w w' ∧ (∀ b, v.ownBlock ≠ some b → w'.heap[b]? = w.heap[b]?) ∧ w'.heap.size = w.heap.size := by
  rcases h.2 with ⟨rfl, h0⟩ | ⟨g, cap, cur, rfl, hb, hg, h1, h2, h3, h4⟩
  · have hnil : l = [] := List.eq_nil_of_length_eq_zero h0
    subst hnil
    refine (AnyQ.slices_Reverse_empty Tryz.lays35 none 0 w).mono ?_
    rintro e w' ⟨rfl, rfl⟩
    exact ⟨rfl, StRuns.nil_ _, Below.refl _ _, fun _ _ => rfl, rfl⟩
  · have hH := own_holds h
    have c := AnyQ.slices_Reverse Tryz.lays35 3 Tryz.isAgg90 Tryz.sizeOf90 stCell (fun _ => rfl) st_one g 0 cap l.toArray w hH (by simp; omega)
    rw [show (l.toArray).size = l.length by simp] at c
    refine Calls.mono c ?_
    rintro e w' ⟨rfl, n, rfl⟩
    have hH' := holdsK_putRowK stCell 3 (Sort.ahead w n) g 0 l.toArray l.toArray.reverse (holdsK_ahead stCell 3 w n g 0 _ hH) (by simp)
    have hblk : ∀ b, b ≠ g → (putRowK stCell 3 (Sort.ahead w n) g 0 l.toArray.reverse).heap[b]? = w.heap[b]? := fun b hb => by
      show (Array.modify _ _ _)[b]? = _
      rw [Array.getElem?_modify, if_neg (fun e => hb e.symm)]
      rfl
    have hsz : (putRowK stCell 3 (Sort.ahead w n) g 0 l.toArray.reverse).heap.size = w.heap.size := by
      show (Array.modify _ _ _).size = _
      rw [Array.size_modify]
      rfl
    have hglt : g < w.heap.size := (Array.getElem?_eq_some_iff.1 hg).1
    refine ⟨rfl, ⟨_, cap, by simp, by simpa using h1, ⟨h2, fun e => by cases e⟩, fun h0 => ⟨g, 0, rfl, by rw [hsz]; exact hglt, fun j hj => ?_⟩⟩, ⟨rfl, rfl, rfl, Nat.le_of_eq hsz.symm, fun k hk => hblk k (by omega)⟩, fun b hb => hblk b (fun e => hb (by rw [e]; rfl)), hsz⟩
    have hj' : j < l.toArray.reverse.size := by simpa using hj
    have e : l.toArray.reverse[j]! = l.reverse.getD j (0, 0, 0) := by
      rw [getElem!_pos _ j hj']
      have hj2 : j < l.reverse.length := hj
      rw [List.getD_eq_getElem?_getD, List.getElem?_eq_getElem hj2]
      simp
    have k0 := (hH'.cell hj' (c := 0) (by decide)).1
    have k1 := (hH'.cell hj' (c := 1) (by decide)).1
    have k2 := (hH'.cell hj' (c := 2) (by decide)).1
    rw [e] at k0 k1 k2
    exact ⟨k0, k1, k2⟩
end Go.Proofs.YtnognphjndpgkaaGreatDoor

/- align.Steps: the alignment of two tokens, or why one of them is none. -/
namespace Go.Proofs.YtnognphjndpgkaaGreatDoor
open Go.RowKit Go.Shelf
attribute [local go_sem] Oper.semAt_some stV

/-- t.back(): t is boxed, and the function value captures the box. -/
theorem back_any (A : Option Addr) (n c : Nat) (B : Option Addr) (m c' : Nat) (G : Option Addr) (k c'' : Nat) (w : World) :
    Calls Tryz.prog 49 #[.agg #[.slice A n c, .slice B m c', .slice G k c'']] w fun e w' => e = .returned (.func (.func 72) #[] #[.pointer (some ⟨w.heap.size, 0, none⟩)]) ∧ w' = w.alloc (.cells #[.slice A n c, .slice B m c', .slice G k c''] 83) := by
  go_enter Tryz.func49, Tryz.ntmps49
  go_wp2
  go_ret
  exact ⟨rfl, rfl⟩

theorem biter_stops (n : Nat) (hn : 1 ≤ n) (Bs n₀ : Nat) (u v d : Value) (x y : List Int) (lx : x.length ≤ 64) (ly : y.length ≤ 64) (w0 : World) (hw0 : w0.heap.size = n₀) (hx : Runs w0 u x) (hy : Runs w0 v y) (hT : TabR w0 d x y)
    (w : World) (hn0 : n₀ ≤ w.heap.size) (hW0 : Below n₀ w0 w) (hBs : Bs < w.heap.size) (hc : TBox w Bs u v d) :
    SeqStopsK Fence.wide n Tryz.prog 72 #[.pointer (some ⟨Bs, 0, none⟩)] (fun x : St => #[stV x]) (Keep n₀ Bs) (fun ys => ys = pathR x.reverse y.reverse) (fun pre => pre <+: pathR x.reverse y.reverse) 128 w :=
  fun l J Jx W hW hJ _ hY h0 => biter_in n hn l Bs n₀ u v d x y lx ly w0 hw0 hx hy hT J Jx W hJ hY (Nat.le_trans hn0 hW.size) (hW0.trans (hW.mono hn0)) (Nat.lt_of_lt_of_le hBs hW.size) ((hW.block Bs hBs).trans hc) h0

theorem st_cells (W : World) (x : St) : ∀ j u, (stCell x)[j]? = some u → (W.alloc (.cells #[.int .i64 x.1, .int .i32 x.2.1, .int .i32 x.2.2] 90)).cell? ((⟨W.heap.size, 0, none⟩ : Addr).add j) = some u := by
  intro j u hj
  rw [addr_add, cell_of_row _ _ _ _ _ _ (heap_alloc_new W _)]
  simpa [stCell] using hj
/-- Steps are kept where no block that holds cells is turned. -/
theorem StRuns.kept {w w' : World} {v : Value} {l : List St} (h : StRuns w v l) (hz : w.heap.size ≤ w'.heap.size) (hk : ∀ b k z, w.cell? ⟨b, k, none⟩ = some z → w'.heap[b]? = w.heap[b]?) : StRuns w' v l := by
  obtain ⟨A, c, e, hc, hm, hx⟩ := h
  refine ⟨A, c, e, hc, hm, fun h0 => ?_⟩
  obtain ⟨b, o, eA, hlt, hcell⟩ := hx h0
  have hb := hk b _ _ (hcell 0 h0).1
  exact ⟨b, o, eA, Nat.lt_of_lt_of_le hlt hz, fun j hj => ⟨(World.cell?_of_block hb).trans (hcell j hj).1, (World.cell?_of_block hb).trans (hcell j hj).2.1, (World.cell?_of_block hb).trans (hcell j hj).2.2⟩⟩

theorem own_not {w : World} {base : Nat} {e : TypeId} {size n g : Nat} {v : Value} {xs : List Value} {o : Option (List Deferred)} (h : w.ownsRow base e size v n xs) (hg : w.heap[g]? = some (.deferred o)) : v.ownBlock ≠ some g := by
  rcases h.2 with ⟨rfl, _⟩ | ⟨g', cap', cur, rfl, hb, hg', h1, h2, h3, h4⟩
  · simp [Value.ownBlock]
  · intro e1
    obtain rfl : g' = g := by simpa [Value.ownBlock] using e1
    rw [hg] at hg'
    cases hg'
theorem pathR_length (xs ys : List Int) : (pathR xs ys).length ≤ xs.length + ys.length := by
  match xs, ys with
  | [], [] => rw [pathR]; simp
  | [], y :: ys => have := pathR_length [] ys; rw [pathR]; simp at this ⊢; omega
  | x :: xs, [] => have := pathR_length xs []; rw [pathR]; simp at this ⊢; omega
  | x :: xs, y :: ys =>
    have h1 := pathR_length xs ys
    have h2 := pathR_length xs (y :: ys)
    have h3 := pathR_length (x :: xs) ys
    rw [pathR]
    simp only [List.length_cons] at h2 h3 ⊢
    split
    · simp; omega
    · split
      · simp; omega
      · split
        · simp; omega
        · simp; omega
termination_by xs.length + ys.length

theorem tbox_own {β : Type} (B : Nat) (u v d : Value) : Own (fun (_ : β) W => TBox W B u v d) := fun s X Y row hs hg hrow =>
  hs.kept hg (fun e' => by obtain ⟨o, ho, hc⟩ := hrow B e'.symm; rw [show X.heap[B]? = _ from hs] at ho; cases ho; cases hc)

set_option maxRecDepth 100000 in
set_option maxHeartbeats 4000000 in
theorem steps_ok (s t : ByteArray) (w : World) (h : Okw w) (hs : s.size * 4 ≤ 140737488355328) (ht : t.size * 4 ≤ 140737488355328) (h1 : tokErr s.data.toList = 0) (h2 : tokErr t.data.toList = 0) :
    Calls Tryz.prog 32 #[.string s, .string t] w fun e w' => ∃ v, e = .returned (.tuple #[v, .int .i64 0]) ∧ StRuns w' v (pathR (tokRunes s.data.toList).reverse (tokRunes t.data.toList).reverse).reverse ∧ Below w.heap.size w w' := by
  have c := lay_ok s t w h hs ht h1 h2
  obtain ⟨lx, _⟩ := tok_len h1
  obtain ⟨ly, _⟩ := tok_len h2
  clear h1 h2
  obtain ⟨x, hx⟩ : ∃ x, tokRunes s.data.toList = x := ⟨_, rfl⟩
  obtain ⟨y, hy⟩ : ∃ y, tokRunes t.data.toList = y := ⟨_, rfl⟩
  rw [hx] at lx ⊢
  rw [hy] at ly ⊢
  simp only [hx, hy] at c
  clear hx hy
  obtain ⟨i0, hi, hz0, hz1, hz2⟩ := info_parts info_st
  have C := Lib.hid c; clear c
  refine (callsIn_wide (n := 6)).1 ?_
  refine callsIn_of_wp_marks Tryz.func32 rfl trivial ?_ rfl
  simp only [Tryz.ntmps32, List.size_toArray, List.length_cons, List.length_nil, Nat.reduceAdd, Nat.reduceSub, Array.replicate_succ, Array.replicate_zero, List.push_toArray, List.append_toArray, List.nil_append, List.cons_append]
  gi_wp2_with fail
  refine ⟨trivial, ?_⟩
  gi_at_call 48
  refine (callsIn_wide.2 C.out).mono ?_
  rintro e w1 ⟨u, v, d, rfl, R1, R2, T, B1⟩
  obtain ⟨A, ca, rfl, _, _, _⟩ := R1.out
  obtain ⟨B, cb, rfl, _, _, _⟩ := R2.out
  obtain ⟨G, dc, rfl, _⟩ := T.out
  obtain ⟨n, hn⟩ : ∃ n, x.length = n := ⟨_, rfl⟩
  obtain ⟨m, hm⟩ : ∃ m, y.length = m := ⟨_, rfl⟩
  rw [hn] at R1 T
  rw [hm] at R2
  simp only [hn, hm]
  have HN := Lib.hid hn; clear hn
  have HM := Lib.hid hm; clear hm
  gi_wp2_with (refine ⟨trivial, ?_⟩; gi_at_call 49; refine (callsIn_wide.2 (back_any _ _ _ _ _ _ _ _ _ _)).mono ?_; rintro e w' ⟨rfl, rfl⟩)
  obtain ⟨n₀, hn₀⟩ : ∃ n₀, w1.heap.size = n₀ := ⟨_, rfl⟩
  have b3 : Below n₀ w1 (((w1.alloc (.cells #[.slice A n ca, .slice B m cb, .slice (some ⟨G, 0, none⟩) (n + 1) dc] 83)).alloc (.cells #[.slice none 0 0] 65)).alloc (.cells #[.slice A n ca, .slice B m cb, .slice (some ⟨G, 0, none⟩) (n + 1) dc] 83)) := by
    rw [← hn₀]; exact (((Below.refl _ w1).alloc (Nat.le_refl _) _).alloc (by simp) _).alloc (by simp; omega) _
  have bL : Boxed (((w1.alloc (.cells #[.slice A n ca, .slice B m cb, .slice (some ⟨G, 0, none⟩) (n + 1) dc] 83)).alloc (.cells #[.slice none 0 0] 65)).alloc (.cells #[.slice A n ca, .slice B m cb, .slice (some ⟨G, 0, none⟩) (n + 1) dc] 83)) (n₀ + 1) 65 (.slice none 0 0) := by
    have := (Boxed.new (w1.alloc (.cells #[.slice A n ca, .slice B m cb, .slice (some ⟨G, 0, none⟩) (n + 1) dc] 83)) 65 (.slice none 0 0)).alloc (.cells #[.slice A n ca, .slice B m cb, .slice (some ⟨G, 0, none⟩) (n + 1) dc] 83)
    rwa [World.size_alloc, hn₀] at this
  have bT : TBox (((w1.alloc (.cells #[.slice A n ca, .slice B m cb, .slice (some ⟨G, 0, none⟩) (n + 1) dc] 83)).alloc (.cells #[.slice none 0 0] 65)).alloc (.cells #[.slice A n ca, .slice B m cb, .slice (some ⟨G, 0, none⟩) (n + 1) dc] 83)) (n₀ + 1 + 1) (.slice A n ca) (.slice B m cb) (.slice (some ⟨G, 0, none⟩) (n + 1) dc) := by
    have := heap_alloc_new ((w1.alloc (.cells #[.slice A n ca, .slice B m cb, .slice (some ⟨G, 0, none⟩) (n + 1) dc] 83)).alloc (.cells #[.slice none 0 0] 65)) (.cells #[.slice A n ca, .slice B m cb, .slice (some ⟨G, 0, none⟩) (n + 1) dc] 83)
    rw [World.size_alloc, World.size_alloc, hn₀] at this
    exact this
  have hz3 : (((w1.alloc (.cells #[.slice A n ca, .slice B m cb, .slice (some ⟨G, 0, none⟩) (n + 1) dc] 83)).alloc (.cells #[.slice none 0 0] 65)).alloc (.cells #[.slice A n ca, .slice B m cb, .slice (some ⟨G, 0, none⟩) (n + 1) dc] 83)).heap.size = n₀ + 1 + 1 + 1 := by simp [hn₀]
  obtain ⟨w3, hw3⟩ : ∃ w3, w3 = (((w1.alloc (.cells #[.slice A n ca, .slice B m cb, .slice (some ⟨G, 0, none⟩) (n + 1) dc] 83)).alloc (.cells #[.slice none 0 0] 65)).alloc (.cells #[.slice A n ca, .slice B m cb, .slice (some ⟨G, 0, none⟩) (n + 1) dc] 83)) := ⟨_, rfl⟩
  rw [← hw3] at b3 bL bT hz3 ⊢
  rw [hn₀]
  clear hw3
  refine wpIn_rangeFunc_ownH rfl (by decide) (gf := 72) (lb := #[.pointer (some ⟨n₀ + 1 + 1, 0, none⟩)]) rfl trivial (enters_of Tryz.func72 (by kernel_rfl) rfl)
    (biter_stops 5 (by decide) (n₀ + 1 + 1) n₀ _ _ _ x y lx ly w1 hn₀ R1.out R2.out T.out w3 (by omega) b3 (by omega) bT) Keep.trans (keepK_b (by omega) (by omega)) (Below.refl _ _) (fun _ => rfl)
    (fun (pre : List St) W => ((∃ v, Boxed W (n₀ + 1) 65 v ∧ W.ownsRow n₀ 90 3 v pre.length (stCells pre) ∧ True) ∧ TBox W (n₀ + 1 + 1) (.slice A n ca) (.slice B m cb) (.slice (some ⟨G, 0, none⟩) (n + 1) dc)) ∧ Below n₀ w1 W)
    (fun _ _ _ => False)
    (OwnFrom.and (OwnFrom.and (Own.from (holdsRow_own n₀ (n₀ + 1) 65 90 3 (fun pre : List St => pre.length) (fun pre : List St => stCells pre) (fun (pre : List St) _ => True)) _) (Own.from (tbox_own _ _ _ _) _)) (ownFrom_below (Nat.le_of_eq hn₀.symm) (by omega)))
    (fun c => ownFrom_pure _ (fun _ => False))
    ⟨⟨⟨_, bL, World.ownsRow_nil _ _ _ _, trivial⟩, bT⟩, b3⟩
    (fun x a' W => ∃ k, a' = { tmps := #[.string s, .string t, undef, undef, .slice none 0 0, .int .i64 0, .pointer (some ⟨n₀, 0, none⟩), .int .i64 0, .pointer (some ⟨n₀ + 1, 0, none⟩), .pointer (some ⟨k, 0, none⟩), .tuple #[.agg #[.slice A n ca, .slice B m cb, .slice (some ⟨G, 0, none⟩) (n + 1) dc], .int .i64 0], .string s, .string t, .tuple #[.agg #[.slice A n ca, .slice B m cb, .slice (some ⟨G, 0, none⟩) (n + 1) dc], .int .i64 0], .agg #[.slice A n ca, .slice B m cb, .slice (some ⟨G, 0, none⟩) (n + 1) dc], .int .i64 0, .int .i64 0, .bool false, undef, .agg #[.slice A n ca, .slice B m cb, .slice (some ⟨G, 0, none⟩) (n + 1) dc], .func (.func 72) #[] #[.pointer (some ⟨n₀ + 1 + 1, 0, none⟩)], stV x, undef, undef, undef, undef, undef, undef, undef], defers := [] } ∧ W.heap[k]? = some (.cells (stCell x).toArray 90 (0, 0)))
    (fun x a' s X Y row hx hg hr => by
      obtain ⟨k, e, hk⟩ := hx
      exact ⟨k, e, (hg.block k (Array.getElem?_eq_some_iff.1 hk).1 (fun e' => by obtain ⟨_, o, ho, hc⟩ := hr k e'.symm; rw [hk] at ho; cases ho; cases hc)).trans hk⟩)
    ?assign ?body ?done ?stop
  case assign =>
    rintro l pre x W K ⟨⟨⟨v, hv1, hrow, _⟩, hS⟩, hB⟩ hK
    have hBs := hB.size
    gi_wp2
    exact hK _ _ ((KeepsOthers.alloc W _).from _) (Keep.of_below ((Below.refl _ W).alloc (Nat.le_refl _) _) (by omega) hS.lt) ⟨⟨⟨v, hv1.alloc _, hrow.alloc _, trivial⟩, hS.kept (World.grownBy_alloc _ _ none) (by simp)⟩, hB.alloc (by omega) _⟩ ⟨W.heap.size, rfl, heap_alloc_new W _⟩
  case body =>
    rintro l pre x a' W hl _ ⟨⟨⟨v, hv1, hrow, _⟩, hS⟩, hB⟩ ⟨k, rfl, hk⟩ hlt
    have hc := hv1.cell
    have hf := hv1.frozen
    have hBs := hB.size
    have p0 : W.cell? ⟨k, 0, none⟩ = some (.int .i64 x.1) := by simp [World.cell?, hk, stCell]
    have p1 : W.cell? ⟨k, 1, none⟩ = some (.int .i32 x.2.1) := by simp [World.cell?, hk, stCell]
    have p2 : W.cell? ⟨k, 2, none⟩ = some (.int .i32 x.2.2) := by simp [World.cell?, hk, stCell]
    have hne : v.ownBlock ≠ some (n₀ + 1 + 1) := own_ne hrow hS (by decide)
    gi_wp2_with (gi_at_builtin; refine wpListIn_append_own _ rfl _ _ 65 rfl n₀ 90 i0 _ 3 16 Tryz.underlying65 hi hz0 hz1 hz2 rfl (by decide) _ _ _ rfl (hrow.alloc _) ⟨W.heap.size, 0, none⟩ 1 1 (stCell x) rfl rfl (st_cells W x) (st_one x) (by unfold maxLen; omega) (by omega) (by simp; omega) ?_; intro v' w1' hown' hgrow _; obtain ⟨g', cap', rfl⟩ := ownsRow_succ hown'; have hS1 : TBox (w1'.setCell ⟨n₀ + 1, 0, none⟩ (.slice (some ⟨g', 0, none⟩) (pre.length + 1) cap')) (n₀ + 1 + 1) (.slice A n ca) (.slice B m cb) (.slice (some ⟨G, 0, none⟩) (n + 1) dc) := ((hS.kept (World.grownBy_alloc _ _ none) (by simp)).kept hgrow (fun e => hne e.symm)).kept (grown_setCell _ _ _ _) (by simp); obtain ⟨hv1', hv2, hr2, hk2, hb2⟩ := hv1.appended (by decide) hrow (by omega) (by omega) hown' hgrow; have hc1 := hv1'.cell; have hf1 := hv1'.frozen)
    exact ⟨hk2.from _, ⟨hb2, Eq.trans hS1 (Eq.symm hS)⟩, ⟨⟨_, hv2, by rw [stCells_snoc]; simpa using hr2, trivial⟩, hS1⟩, hB.trans hb2⟩
  case done =>
    rintro D' ys W hD rfl ⟨⟨⟨v, hv1, hrow, _⟩, hS⟩, hB⟩ hK
    have hc := hv1.cell
    have hll : (pathR x.reverse y.reverse).length ≤ 1000000 := by
      have := pathR_length x.reverse y.reverse
      simp at this
      omega
    have cR := reverse_any v _ n₀ W hrow hll
    obtain ⟨A', cc', rfl, _⟩ := StRuns.of_own hrow
    gi_wp2_with (refine ⟨trivial, ?_⟩; gi_at_call 50; refine (callsIn_wide.2 cR).mono ?_; rintro e w5 ⟨rfl, hst, hb5, hblk, hsz⟩; have hc5 : w5.cell? ⟨n₀ + 1, 0, none⟩ = _ := (World.cell?_of_block (hblk (n₀ + 1) (own_ne hrow hv1 (by decide)))).trans hc; have hD5 : w5.heap[D']? = _ := (hblk D' (own_not hrow hK)).trans hK)
    refine ⟨by simp, .inl ⟨_, _, rfl, run_takeDeferred hD5, ?_⟩⟩
    refine ⟨_, results_tmp2 rfl _ _ _, ?_⟩
    have hbD : Below n₀ w5 (w5.putObj D' (.deferred none)) := belowK_b (w := w1) (Nat.le_of_eq hn₀.symm) w5 D' _ _ (by omega) hD5 rfl rfl
    exact ⟨_, rfl, hst.kept (by simp) (fun b k z hz => World.putObj_heap_other (fun e => by subst e; simp [World.cell?, hD5] at hz)), B1.out.trans (((hB.trans hb5).trans hbD).mono (by rw [← hn₀]; exact B1.out.size))⟩
  case stop => exact fun D c pre W hD hp hF _ => hF.elim
end Go.Proofs.YtnognphjndpgkaaGreatDoor

/- errataref01.Encode: the document's text of any numbers. -/
namespace Go.Proofs.YtnognphjndpgkaaGreatDoor
open Go.RowKit Go.Shelf

theorem info8 : (Tryz.prog.info? 5).map (fun i => (i.zero, i.size, i.bytes)) = some (some (.int .u8 0), 1, 1) := by kernel_rfl
theorem bcells_one (l : List UInt8) : ∀ u ∈ Lib.byteCells l, u.oneCell' = true := by
  intro u hu
  obtain ⟨b, _, rfl⟩ := List.mem_map.1 hu
  rfl
/-- append(v, x...) of a row of bytes of the call's own and a new block of bytes. -/
theorem append_bytes (w : World) (base : Nat) (v : Value) (n : Nat) (xs : List Value) (hown : w.ownsRow base 5 1 v n xs) (l : List UInt8) (hbase : base ≤ w.heap.size) (hlen : n + l.length ≤ 140737488355328) :
    ∃ v' w', (Builtin.append_ #[116, 116] 116 #[v, .slice (some ⟨w.heap.size, 0, none⟩) l.length l.length]).run Tryz.prog (w.alloc (.cells (Lib.byteCells l).toArray 5)) = .ok v' w' ∧ w'.ownsRow base 5 1 v' (n + l.length) (xs ++ Lib.byteCells l) ∧ Below w.heap.size w (w.alloc (.cells (Lib.byteCells l).toArray 5)) ∧ (w.alloc (.cells (Lib.byteCells l).toArray 5)).grownBy w' v.ownBlock := by
  obtain ⟨i0, hi, hz0, hz1, hz2⟩ := info_parts info8
  have hba : Below w.heap.size w (w.alloc (.cells (Lib.byteCells l).toArray 5)) := (Below.refl _ _).alloc (Nat.le_refl _) _
  obtain ⟨v', w', hrun, h2, h3, _, _⟩ := run_append_own_at (P := Tryz.prog) (w.alloc (.cells (Lib.byteCells l).toArray 5)) base 116 116 5 i0 _ 1 1 Tryz.underlying116 hi hz0 hz1 hz2 rfl (by decide) v n xs (own_below hown hba) ⟨w.heap.size, 0, none⟩ l.length l.length (Lib.byteCells l) (by simp [Lib.byteCells_length])
    (fun j u hj => by
      rw [addr_add, cell_of_row _ _ _ _ _ _ (heap_alloc_new w _)]
      simpa using hj) (bcells_one l) (by unfold maxLen; omega) (by omega) (Nat.le_trans hbase hba.size)
  exact ⟨v', w', hrun, h2, hba, h3⟩
/-- string(b) of a row of bytes of the call's own. -/
theorem conv_own (w : World) (base : Nat) (v : Value) (l : List UInt8) (n : Nat) (h : w.ownsRow base 5 1 v n (Lib.byteCells l)) : (convert 116 9 v).run Tryz.prog w = .ok (.string ⟨l.toArray⟩) w := by
  have hn : l.length = n := by have := h.1; simpa [Lib.byteCells_length] using this
  rcases h.2 with ⟨rfl, h0⟩ | ⟨g, cap, cur, rfl, _, hg, hle, _, hsz, htk⟩
  · have hl : l = [] := List.eq_nil_of_length_eq_zero (by omega)
    subst hl
    rw [run_convert_bytes_string w 116 9 5 none 0 0 Tryz.underlying116 Tryz.underlying5 Tryz.underlying9]
    rfl
  · subst hn
    refine run_convert_bytes_back (P := Tryz.prog) w 116 9 5 ⟨g, 0, none⟩ cap l Tryz.underlying116 Tryz.underlying5 Tryz.underlying9 (fun j hj => ?_)
    rw [addr_add, cell_of_row w g (0 + j) cur 5 (0, 0) hg]
    have h2 : (cur.toList.take (l.length * 1))[j]? = some (Value.int .u8 (l[j].toNat : Int)) := by
      rw [htk]; simp [Lib.byteCells, hj]
    rw [List.getElem?_take, if_pos (by omega)] at h2
    simpa using h2

set_option maxRecDepth 100000 in
set_option maxHeartbeats 2000000 in
theorem refEncode_any (u : Value) (l : List Int) (w : World) (hu : Runs w u l) (hlen : l.length * 4 + 4 ≤ 140737488355328) :
    Calls Tryz.prog 103 #[u] w fun e w' => e = .returned (.tuple #[.string ⟨(encS l).toArray⟩, .int .i64 (encErr l)]) ∧ Below w.heap.size w w' := by
  obtain ⟨A, c, rfl, hxc, ⟨hxm, _⟩, hxx⟩ := hu
  unfold maxLen at hxm
  obtain ⟨n, hn⟩ : ∃ n, l.length = n := ⟨_, rfl⟩
  rw [hn] at hxc hxx hlen ⊢
  have Hn := Lib.hid hn; clear hn
  have HX := Lib.hid hxx; clear hxx
  obtain ⟨es, hes⟩ : ∃ es, encS l = es := ⟨_, rfl⟩
  obtain ⟨ee, hee⟩ : ∃ ee, encErr l = ee := ⟨_, rfl⟩
  rw [hes, hee]
  have Hes := Lib.hid hes; clear hes
  have Hee := Lib.hid hee; clear hee
  go_enter Tryz.func103, Tryz.ntmps103
  go_wp2
  go_loopw [4, 9] (fun s4 i wr => ∃ k : Nat, k ≤ n ∧ i = .int .i64 k ∧ wr.ownsRow w.heap.size 5 1 s4 (encL (l.take k)).length (Lib.byteCells (encL (l.take k))) ∧ Below w.heap.size w wr ∧ Hid (allRunes (l.take k) = true)) (fun _ i _ => n - (RowKit.intOf i).toNat)
  case atStart => exact ⟨0, Nat.zero_le _, rfl, by simpa [encL, Lib.byteCells] using World.ownsRow_nil _ _ _ _, Below.refl _ w, Lib.hid (by simp [allRunes])⟩
  case round =>
    obtain ⟨k, hk, rfl, hrow, hB, HA⟩ := hrel
    by_cases hlt : k < n
    · obtain ⟨b, o, rfl, hb, hc1⟩ := HX.out (by omega)
      have e1 := (hB.cell (p := ⟨b, o + k, none⟩) hb).trans (hc1 k hlt)
      have t1 := encL_take l k (by rw [Hn.out]; exact hlt)
      have t2 := all_take l k (by rw [Hn.out]; exact hlt)
      have t3 := all_no l k (by rw [Hn.out]; exact hlt)
      obtain ⟨r, hr1⟩ : ∃ r, l.getD k 0 = r := ⟨_, rfl⟩
      rw [hr1] at e1 t1 t2 t3
      have T1 := Lib.hid t1; have T2 := Lib.hid t2; have T3 := Lib.hid t3
      clear t1 t2 t3 hr1 hc1
      have i1 : (k : Int) < (n : Int) := by omega
      have c1 := isRune_any r wr
      cases hv : Lib.validRune r
      · rw [hv] at c1
        have C1 := Lib.hid c1
        have HV := Lib.hid hv
        clear c1 hv
        go_wp2_with (go_at_call 88; refine C1.out.mono ?_; rintro e w' ⟨rfl, rfl⟩)
        go_ret2
        have h0 := T3.out HV.out
        exact ⟨by rw [← Hes.out, ← Hee.out]; simp [encS, encErr, h0], hB⟩
      · rw [hv] at c1
        have C1 := Lib.hid c1
        have HV := Lib.hid hv
        clear c1 hv
        have hle : (encL (l.take k)).length + (Lib.encodeRune r).length ≤ 140737488355328 := by
          have h1 := encL_le (l.take k); rw [List.length_take] at h1
          have h2 := encodeRune_len r; omega
        obtain ⟨v', w', hrun, hown, hba, hg⟩ := append_bytes wr w.heap.size _ _ _ hrow (Lib.encodeRune r) hB.size hle
        have hB2 : Below w.heap.size w w' := (hB.trans (hba.mono hB.size)).grown hg (Nat.le_trans hB.size hba.size) (own_block hrow)
        have C2 := Lib.hid (bytes_any r wr HV.out)
        obtain ⟨O, hO⟩ : ∃ O, Obj.cells (Lib.byteCells (Lib.encodeRune r)).toArray 5 = O := ⟨_, rfl⟩
        obtain ⟨q, hq⟩ : ∃ q, (Lib.encodeRune r).length = q := ⟨_, rfl⟩
        rw [hO] at hrun C2
        rw [hq] at hrun C2
        have HR := Lib.hid hrun
        clear hrun hle hba hg hO hq
        go_wp2_with (first
          | (go_at_call 88; refine C1.out.mono ?_; rintro e w' ⟨rfl, rfl⟩)
          | (go_at_call 104; refine C2.out.mono ?_; rintro e w' ⟨rfl, rfl⟩)
          | (at_builtin; refine wpList_append_run (.tmp 16) (.tmp 18) 116 _ _ _ _ HR.out rfl rfl rfl rfl ?_))
        go_roundw
        case rel => exact ⟨k + 1, by omega, by go_num, by rw [T1.out, Lib.byteCells_append]; simpa using hown, hB2, Lib.hid (by rw [T2.out, HA.out, HV.out]; rfl)⟩
        case measure => simp [RowKit.intOf]; omega
    · obtain rfl : n = k := by omega
      have hcv := conv_own wr w.heap.size _ _ _ hrow
      have ht : l.take n = l := List.take_of_length_le (by rw [Hn.out]; exact Nat.le_refl _)
      have h0 : allRunes l = true := by have := HA.out; rwa [ht] at this
      rw [ht] at hcv
      have he : encL l = es := by rw [← Hes.out]; simp [encS, h0]
      have hee : (0 : Int) = ee := by rw [← Hee.out]; simp [encErr, h0]
      rw [he] at hcv
      have HE := Lib.hid hee
      clear ht h0 he hrow hee
      go_wp2
      go_ret2
      exact ⟨by rw [← HE.out]; rfl, hB⟩
end Go.Proofs.YtnognphjndpgkaaGreatDoor

/- Steps that may be, what they are of, how many aren't matches, as errataref04 tells it. -/
namespace Go.Proofs.YtnognphjndpgkaaGreatDoor
open Go.RowKit Go.Shelf

theorem stC_append (a b : List St) : stC (a ++ b) = stC a + stC b := by
  induction a with
  | nil => simp [stC]
  | cons s a ih => simp only [List.cons_append, stC, ih]; omega
theorem stC_take (l : List St) (k : Nat) (hk : k < l.length) : stC (l.take (k + 1)) = stC (l.take k) + if (l.getD k (0, 0, 0)).1 = 0 then 0 else 1 := by
  rw [List.take_add_one, stC_append]
  simp [List.getElem?_eq_getElem hk, stC, List.getD_eq_getElem?_getD]
theorem stC_len (l : List St) : stC l ≤ l.length := by
  induction l with
  | nil => simp [stC]
  | cons s l ih => simp only [stC, List.length_cons]; split <;> omega

end Go.Proofs.YtnognphjndpgkaaGreatDoor

