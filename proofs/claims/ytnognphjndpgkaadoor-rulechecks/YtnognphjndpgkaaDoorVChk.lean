/- RuleChecks, walked over what rule's functions and the document's answer. -/
import Derived.Test.YtnognphjndpgkaaDoorPk10
import Derived.Test.YtnognphjndpgkaaDoorQIs
namespace Go.Proofs.YtnognphjndpgkaaDoor
open Go.RowKit Go.Shelf
set_option linter.unusedSimpArgs false
set_option linter.unusedVariables false

/-- Two rules in their boxes, and all that is old. -/
structure TwoK (D : World) (p : Nat) (x y : Blk) (W : World) : Prop where
  a0 : W.cell? ⟨p, 0, none⟩ = some (.string x.1)
  a1 : W.cell? ⟨p, 1, none⟩ = some (.string x.2.1)
  a2 : W.cell? ⟨p, 2, none⟩ = some (.int .i64 x.2.2)
  b0 : W.cell? ⟨p + 1, 0, none⟩ = some (.string y.1)
  b1 : W.cell? ⟨p + 1, 1, none⟩ = some (.string y.2.1)
  b2 : W.cell? ⟨p + 1, 2, none⟩ = some (.int .i64 y.2.2)
  lt : p + 1 < W.heap.size
  bel : Below D.heap.size D W
theorem TwoK.step {D : World} {p : Nat} {x y : Blk} {W W' : World} (h : TwoK D p x y W) (hb : Below W.heap.size W W') : TwoK D p x y W' :=
  ⟨(hb.cell (p := ⟨p, _, none⟩) (Nat.lt_of_succ_lt h.lt)).trans h.a0, (hb.cell (p := ⟨p, _, none⟩) (Nat.lt_of_succ_lt h.lt)).trans h.a1, (hb.cell (p := ⟨p, _, none⟩) (Nat.lt_of_succ_lt h.lt)).trans h.a2, (hb.cell (p := ⟨p + 1, _, none⟩) h.lt).trans h.b0, (hb.cell (p := ⟨p + 1, _, none⟩) h.lt).trans h.b1, (hb.cell (p := ⟨p + 1, _, none⟩) h.lt).trans h.b2, Nat.lt_of_lt_of_le h.lt hb.size, h.bel.trans (hb.mono h.bel.size)⟩

set_option maxRecDepth 100000 in
set_option maxHeartbeats 8000000 in
theorem ruleChecks_walk (u : Value) (l : List Blk) (x y : Blk) (w : World) (h : Okw w) (hu : BRuns w u l) (hz : szM l) (hzx : x.1.size ≤ 140737488355328 ∧ x.2.1.size ≤ 140737488355328) (hzy : y.1.size ≤ 140737488355328 ∧ y.2.1.size ≤ 140737488355328) :
    Calls Tryd.prog 3 #[u, .agg #[.string x.1, .string x.2.1, .int .i64 x.2.2], .agg #[.string y.1, .string y.2.1, .int .i64 y.2.2]] w (RetTrue w) := by
  have g1 := fun w hu => great7_det u l w hu hz
  have i1 := fun (hg : grB l = false) w hO hu => ris_any u l w hO hu (by have := (grB_no hg).1; omega) (grB_no hg).szL
  have i2 := fun (hg : grB l = false) w hu => refIs_any u l w hu (by have := (grB_no hg).1; omega) (grB_no hg).szL
  have T := twoBox w x y
  obtain ⟨x1, x2, x3⟩ := x
  obtain ⟨y1, y2, y3⟩ := y
  simp only at hzx hzy T ⊢
  have gx := fun (W : World) => great7_det (.slice (some ⟨W.heap.size, 0, none⟩) 2 2) [(x1, x2, x3), (y1, y2, y3)] (W.alloc (.cells (gCells blkCell [(x1, x2, x3), (y1, y2, y3)]).toArray 24)) (lit_rules W [(x1, x2, x3), (y1, y2, y3)] (by simp)) (fun b hb => by
    simp only [List.mem_cons, List.mem_nil_iff, or_false] at hb
    rcases hb with rfl | rfl <;> assumption)
  have k1 := fun (hg : grB [(x1, x2, x3), (y1, y2, y3)] = false) w hO => rcheck_any x1 x2 x3 w hO (by have := ((grB_no hg).2 (x1, x2, x3) (by simp)).1; simp only at this; omega) (by have := ((grB_no hg).2 (x1, x2, x3) (by simp)).2; simp only at this; omega)
  have k2 := fun (hg : grB [(x1, x2, x3), (y1, y2, y3)] = false) w => refCheck7_any x1 x2 x3 w (by have := ((grB_no hg).2 (x1, x2, x3) (by simp)).1; simp only at this; omega) (by have := ((grB_no hg).2 (x1, x2, x3) (by simp)).2; simp only at this; omega)
  have l1 := fun w => rless_any x1 x2 y1 y2 x3 y3 w
  have l2 := fun w => refLess7_any x1 x2 y1 y2 x3 y3 w
  obtain ⟨r1, hr1⟩ : ∃ z, grB l = z := ⟨_, rfl⟩
  obtain ⟨r2, hr2⟩ : ∃ z, grB [(x1, x2, x3), (y1, y2, y3)] = z := ⟨_, rfl⟩
  obtain ⟨e1, he1⟩ : ∃ z, risS l = z := ⟨_, rfl⟩
  obtain ⟨e2, he2⟩ : ∃ z, rchk (x1, x2, x3) = z := ⟨_, rfl⟩
  obtain ⟨e3, he3⟩ : ∃ z, lessB (x1, x2, x3) (y1, y2, y3) = z := ⟨_, rfl⟩
  simp only [hr1, he1] at g1 i1 i2
  simp only [hr2] at gx k1 k2
  simp only [he2] at k1 k2
  simp only [he3] at l1 l2
  clear hr1 hr2 he1 he2 he3
  obtain ⟨W2, hW2⟩ : ∃ z, (w.alloc (.cells #[.string x1, .string x2, .int .i64 x3] 24)).alloc (.cells #[.string y1, .string y2, .int .i64 y3] 24) = z := ⟨_, rfl⟩
  have hb2 : Below w.heap.size w W2 := by rw [← hW2]; exact blw_2 _ _ _
  have hs2 : w.heap.size + 1 < W2.heap.size := by rw [← hW2]; simp
  rw [hW2] at T
  obtain ⟨p, hp⟩ : ∃ z, w.heap.size = z := ⟨_, rfl⟩
  rw [hp] at hs2 T
  have T2 : Hid (TwoK W2 p (x1, x2, x3) (y1, y2, y3) W2) := Lib.hid ⟨T.a0, T.a1, T.a2, T.b0, T.b1, T.b2, hs2, Below.refl _ _⟩
  obtain ⟨A, c, e⟩ := hu.slice
  obtain ⟨n, hn⟩ : ∃ n, l.length = n := ⟨_, rfl⟩
  rw [hn] at e
  subst e
  have U2 := Lib.hid (hu.below hb2); have K2 : Hid (Okw W2) := Lib.hid (h.below hb2)
  have HW2 := Lib.hid hW2; have HB2 := Lib.hid hb2; have HP := Lib.hid hp
  have G1 := Lib.hid g1; have GX := Lib.hid gx; have I1 := Lib.hid i1; have I2 := Lib.hid i2; have C1 := Lib.hid k1; have C2 := Lib.hid k2; have L1 := Lib.hid l1; have L2 := Lib.hid l2
  clear T hW2 hb2 hp hu h g1 gx i1 i2 k1 k2 l1 l2 hn hz hzx hzy hs2
  have hmix : Tryd.prog.follows .mixedOrders = true := by kernel_rfl
  go_enter Tryd.func3, Tryd.ntmps3
  go_wp2_with fail
  rw [HW2.out, HP.out]
  refine (alive7_any _ K2.out).mono ?_
  rintro e w1 ⟨rfl, b1⟩
  have T1 := Lib.hid (T2.out.step b1)
  clear b1
  have a0 := T1.out.a0; have a1 := T1.out.a1; have a2 := T1.out.a2; have b0 := T1.out.b0; have b1 := T1.out.b1; have b2 := T1.out.b2
  simp only at a0 a1 a2 b0 b1 b2
  have TD : Hid (TwoK W2 p (x1, x2, x3) (y1, y2, y3) w1.drew) := Lib.hid (T1.out.step (Below.refl _ _).drew)
  go_wp2_with fail
  refine (G1.out _ (U2.out.below T1.out.bel)).mono ?_
  rintro e w4 ⟨rfl, hb4⟩
  have T4 := Lib.hid (T1.out.step hb4)
  clear hb4 a0 a1 a2 b0 b1 b2 TD T1
  have a0 := T4.out.a0; have a1 := T4.out.a1; have a2 := T4.out.a2; have b0 := T4.out.b0; have b1 := T4.out.b1; have b2 := T4.out.b2
  simp only at a0 a1 a2 b0 b1 b2
  have B4 : Hid (Below w.heap.size w w4) := Lib.hid (HB2.out.trans (T4.out.bel.mono HB2.out.size))
  cases r1
  rotate_left
  · go_wp2
    go_ret
    exact ⟨rfl, B4.out⟩
  have GL := Lib.hid (GX.out w4)
  have bal := blw_one w4 (.cells (gCells blkCell [(x1, x2, x3), (y1, y2, y3)]).toArray 24)
  have HBAL := Lib.hid bal; clear bal
  go_wp2_with fail
  refine GL.out.mono ?_
  rintro e w5 ⟨rfl, hb5⟩
  have T5 := Lib.hid ((T4.out.step HBAL.out).step hb5)
  clear hb5 a0 a1 a2 b0 b1 b2 T4 B4 HBAL GL
  have a0 := T5.out.a0; have a1 := T5.out.a1; have a2 := T5.out.a2; have b0 := T5.out.b0; have b1 := T5.out.b1; have b2 := T5.out.b2
  simp only at a0 a1 a2 b0 b1 b2
  have B5 : Hid (Below w.heap.size w w5) := Lib.hid (HB2.out.trans (T5.out.bel.mono HB2.out.size))
  cases r2
  rotate_left
  · go_wp2
    go_ret
    exact ⟨rfl, B5.out⟩
  have I1' := Lib.hid (I1.out (by first | rfl | trivial)); have I2' := Lib.hid (I2.out (by first | rfl | trivial)); have C1' := Lib.hid (C1.out (by first | rfl | trivial)); have C2' := Lib.hid (C2.out (by first | rfl | trivial))
  clear I1 I2 C1 C2 G1 GX
  have TD : Hid (TwoK W2 p (x1, x2, x3) (y1, y2, y3) w5.drew) := Lib.hid (T5.out.step (Below.refl _ _).drew)
  go_wp2_with fail
  go_region_held3 (fun w' => w'.cell? ⟨p, 0, none⟩ = some (.string x1) ∧ w'.cell? ⟨p, 1, none⟩ = some (.string x2) ∧ w'.cell? ⟨p, 2, none⟩ = some (.int .i64 x3) ∧ w'.cell? ⟨p + 1, 0, none⟩ = some (.string y1) ∧ w'.cell? ⟨p + 1, 1, none⟩ = some (.string y2) ∧ w'.cell? ⟨p + 1, 2, none⟩ = some (.int .i64 y3) ∧ Hid (TwoK W2 p (x1, x2, x3) (y1, y2, y3) w'))
      (first | exact ⟨a0, a1, a2, b0, b1, b2, TD⟩ | exact ⟨HKn.out.a0, HKn.out.a1, HKn.out.a2, HKn.out.b0, HKn.out.b1, HKn.out.b2, HKn⟩ | go_keep)
      (first
        | (go_at_call 10; refine (I1'.out _ (K2.out.below (by assumption : Hid (TwoK W2 p (x1, x2, x3) (y1, y2, y3) _)).out.bel) (U2.out.below (by assumption : Hid (TwoK W2 p (x1, x2, x3) (y1, y2, y3) _)).out.bel)).mono ?_; rintro e w10 ⟨rfl, hb⟩; have HKn := Lib.hid ((by assumption : Hid (TwoK W2 p (x1, x2, x3) (y1, y2, y3) _)).out.step hb); clear hb)
        | (go_at_call 11; refine (I2'.out _ (U2.out.below (by assumption : Hid (TwoK W2 p (x1, x2, x3) (y1, y2, y3) _)).out.bel)).mono ?_; rintro e w11 ⟨rfl, hb⟩; have HKn := Lib.hid ((by assumption : Hid (TwoK W2 p (x1, x2, x3) (y1, y2, y3) _)).out.step hb); clear hb)
        | (go_at_call 12; refine (C1'.out _ (K2.out.below (by assumption : Hid (TwoK W2 p (x1, x2, x3) (y1, y2, y3) _)).out.bel)).mono ?_; rintro e w12 ⟨rfl, hb⟩; have HKn := Lib.hid ((by assumption : Hid (TwoK W2 p (x1, x2, x3) (y1, y2, y3) _)).out.step hb); clear hb)
        | (go_at_call 13; refine (C2'.out _).mono ?_; rintro e w13 ⟨rfl, hb⟩; have HKn := Lib.hid ((by assumption : Hid (TwoK W2 p (x1, x2, x3) (y1, y2, y3) _)).out.step hb); clear hb)
        | (go_at_call 14; refine (L1.out _).mono ?_; rintro e w14 ⟨rfl, hb⟩; have HKn := Lib.hid ((by assumption : Hid (TwoK W2 p (x1, x2, x3) (y1, y2, y3) _)).out.step hb); clear hb)
        | (go_at_call 15; refine (L2.out _).mono ?_; rintro e w15 ⟨rfl, hb⟩; have HKn := Lib.hid ((by assumption : Hid (TwoK W2 p (x1, x2, x3) (y1, y2, y3) _)).out.step hb); clear hb))
  rename_i hHeld
  clear hHeld
  have B15 : Hid (Below w.heap.size w w15) := Lib.hid (HB2.out.trans (HKn.out.bel.mono HB2.out.size))
  go_wp2
  go_ret
  exact ⟨ret_bool (by simp), B15.out⟩
end Go.Proofs.YtnognphjndpgkaaDoor
