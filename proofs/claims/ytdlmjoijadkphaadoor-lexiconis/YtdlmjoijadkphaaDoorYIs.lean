/- LexiconIs, walked over what lexicon's functions and the document's answer. -/
import Derived.Test.YtdlmjoijadkphaaDoorPk7
import Derived.Test.YtdlmjoijadkphaaDoorPk6
namespace Go.Proofs.YtdlmjoijadkphaaDoor
open Go.RowKit Go.Shelf
set_option linter.unusedSimpArgs false
set_option linter.unusedVariables false

/-- A word in its box, two rows that read the same, and all that is old. -/
structure IsK (D : World) (p : Nat) (x : Wrd) (va vb : Value) (X : List Wrd) (W : World) : Prop where
  a0 : W.cell? ⟨p, 0, none⟩ = some (.string x.1)
  a1 : W.cell? ⟨p, 1, none⟩ = some (.int .i64 x.2)
  lt : p < W.heap.size
  ra : WRuns W va X
  rb : WRuns W vb X
  bel : Below D.heap.size D W
theorem IsK.step {D : World} {p : Nat} {x : Wrd} {va vb : Value} {X : List Wrd} {W W' : World} (h : IsK D p x va vb X W) (hb : Below W.heap.size W W') : IsK D p x va vb X W' :=
  ⟨(hb.cell (p := ⟨p, _, none⟩) h.lt).trans h.a0, (hb.cell (p := ⟨p, _, none⟩) h.lt).trans h.a1, Nat.lt_of_lt_of_le h.lt hb.size, h.ra.below hb, h.rb.below hb, h.bel.trans (hb.mono h.bel.size)⟩

set_option maxRecDepth 100000 in
set_option maxHeartbeats 16000000 in
theorem lexiconIs_walk (u : Value) (l : List Wrd) (x : Wrd) (w : World) (h : Okw w) (hu : WRuns w u l) (hz : szMW l) (hzx : x.1.size ≤ 140737488355328) :
    Calls Tryd.prog 3 #[u, .agg #[.string x.1, .int .i64 x.2]] w (RetTrue w) := by
  have g1 := fun w hu => great9_det u l w hu hz
  have n1 := fun (hg : grW l = false) w hO hu => xnormal_any u l w hO hu (by have := (grW_no hg).1; omega) (grW_no hg).2
  have n2 := fun (hg : grW l = false) w hu => refNormal9_any u l w hu (by have := (grW_no hg).1; omega) (grW_no hg).2
  have i1 := fun (hg : grW l = false) w hO hu => xis_any u l w hO hu (by have := (grW_no hg).1; omega) (grW_no hg).2
  have i2 := fun (hg : grW l = false) w hu => refIs9_any u l w hu (by have := (grW_no hg).1; omega) (grW_no hg).2
  obtain ⟨x1, x2⟩ := x
  simp only at hzx ⊢
  have k1 := fun (hs : x1.size ≤ 3000) w hO => xcheck_any x1 x2 w hO (by omega)
  have k2 := fun (hs : x1.size ≤ 3000) w => refCheck9_any x1 x2 w (by omega)
  obtain ⟨r1, hr1⟩ : ∃ z, grW l = z := ⟨_, rfl⟩
  obtain ⟨er, her⟩ : ∃ z, worE l = z := ⟨_, rfl⟩
  obtain ⟨X, hX⟩ : ∃ z, worS l = z := ⟨_, rfl⟩
  obtain ⟨e1, he1⟩ : ∃ z, wisS l = z := ⟨_, rfl⟩
  obtain ⟨e2, he2⟩ : ∃ z, wchk (x1, x2) = z := ⟨_, rfl⟩
  simp only [hr1] at g1 n1 n2 i1 i2
  simp only [her, hX] at n1 n2
  simp only [he1] at i1 i2
  simp only [he2] at k1 k2
  obtain ⟨nx, hnx⟩ : ∃ z, X.length = z := ⟨_, rfl⟩
  obtain ⟨A, c, e⟩ := hu.slice
  obtain ⟨n, hn⟩ : ∃ n, l.length = n := ⟨_, rfl⟩
  rw [hn] at e
  subst e
  have cs := fun va vb (W : World) (ra : WRuns W va X) (rb : WRuns W vb X) => (refSame9_any va vb X X W ra rb).mono (R' := fun e W' => e = .returned (.bool true) ∧ Below W.heap.size W W') (fun e W' ⟨h1, h2⟩ => ⟨by rw [h1, decide_eq_true rfl], h2.below _⟩)
  obtain ⟨a0, a1⟩ := cells2_new w (.string x1) (.int .i64 x2) 24
  have hal := bel_one w (.cells #[.string x1, .int .i64 x2] 24)
  have hlt : w.heap.size < (w.alloc (.cells #[.string x1, .int .i64 x2] 24)).heap.size := by simp
  obtain ⟨W2, hW2⟩ : ∃ z, w.alloc (.cells #[.string x1, .int .i64 x2] 24) = z := ⟨_, rfl⟩
  rw [hW2] at a0 a1 hal hlt
  obtain ⟨p, hp⟩ : ∃ z, w.heap.size = z := ⟨_, rfl⟩
  rw [hp] at a0 a1 hlt
  have U2 := Lib.hid (hu.below hal); have K2 : Hid (Okw W2) := Lib.hid (h.below hal)
  have HW2 := Lib.hid hW2; have HB2 := Lib.hid hal; have HP := Lib.hid hp; have HNX := Lib.hid hnx; have CS := Lib.hid cs
  have AA : Hid (W2.cell? ⟨p, 0, none⟩ = some (.string x1) ∧ W2.cell? ⟨p, 1, none⟩ = some (.int .i64 x2)) := Lib.hid ⟨a0, a1⟩
  have G1 := Lib.hid g1; have N1 := Lib.hid n1; have N2 := Lib.hid n2; have I1 := Lib.hid i1; have I2 := Lib.hid i2; have C1 := Lib.hid k1; have C2 := Lib.hid k2
  clear hW2 hal hp hu h g1 n1 n2 i1 i2 k1 k2 hn hz hnx cs a0 a1 hr1 her hX he1 he2
  have hmix : Tryd.prog.follows .mixedOrders = true := by kernel_rfl
  go_enter Tryd.func3, Tryd.ntmps3
  go_wp2_with fail
  rw [HW2.out, HP.out]
  refine (alive9_any _ K2.out).mono ?_
  rintro e w1 ⟨rfl, b1⟩
  have U3 := Lib.hid (U2.out.below b1)
  have B1 := Lib.hid b1; clear b1
  go_wp2_with fail
  refine (G1.out _ U3.out).mono ?_
  rintro e w4 ⟨rfl, b4⟩
  have B4 := Lib.hid (B1.out.trans (b4.mono B1.out.size)); clear b4
  have c0 := (B4.out.cell (p := ⟨p, 0, none⟩) hlt).trans AA.out.1
  cases r1
  rotate_left
  · go_wp2
    go_ret
    exact ⟨rfl, HB2.out.trans (B4.out.mono HB2.out.size)⟩
  by_cases hs : 3000 < x1.size
  · have hs' : (3000 : Int) < (x1.size : Int) := by omega
    go_wp2
    go_ret
    exact ⟨rfl, HB2.out.trans (B4.out.mono HB2.out.size)⟩
  have hs' : ¬ (3000 : Int) < (x1.size : Int) := by omega
  have hs3 : x1.size ≤ 3000 := by omega
  have I1' := Lib.hid (I1.out (by first | rfl | trivial)); have I2' := Lib.hid (I2.out (by first | rfl | trivial)); have N1' := Lib.hid (N1.out (by first | rfl | trivial)); have N2' := Lib.hid (N2.out (by first | rfl | trivial)); have C1' := Lib.hid (C1.out hs3); have C2' := Lib.hid (C2.out hs3)
  have U4 := Lib.hid (U2.out.below B4.out); have K4 : Hid (Okw w4) := Lib.hid (K2.out.below B4.out)
  clear I1 I2 N1 N2 C1 C2 G1 U3 B1 hzx hs hs3
  go_wp2_with fail
  refine (N1'.out _ K4.out U4.out).mono ?_
  rintro e w5 ⟨va, rfl, r5, b5⟩
  obtain ⟨Aa, ka, e5⟩ := r5.slice
  rw [HNX.out] at e5
  subst e5
  have R5 := Lib.hid r5; have U5 := Lib.hid (U4.out.below b5)
  have B5 := Lib.hid (B4.out.trans (b5.mono B4.out.size)); clear b5 r5 c0
  go_wp2_with fail
  refine (N2'.out _ U5.out).mono ?_
  rintro e w6 ⟨vb, rfl, r6, b6⟩
  obtain ⟨Ab, kb, e6⟩ := r6.slice
  rw [HNX.out] at e6
  subst e6
  have B6 := Lib.hid (B5.out.trans (b6.mono B5.out.size))
  have a0 := (B6.out.cell (p := ⟨p, 0, none⟩) hlt).trans AA.out.1
  have a1 := (B6.out.cell (p := ⟨p, 1, none⟩) hlt).trans AA.out.2
  have KD : Hid (IsK W2 p (x1, x2) (.slice Aa nx ka) (.slice Ab nx kb) X w6.drew) := Lib.hid ⟨a0, a1, Nat.lt_of_lt_of_le hlt B6.out.size, (R5.out.below b6).below (Below.refl _ _).drew, r6.below (Below.refl _ _).drew, B6.out.drew⟩
  clear b6 r6 R5 U5 B5 U4 B4 AA N1' N2'
  go_wp2_with fail
  go_region_held3 (fun w' => w'.cell? ⟨p, 0, none⟩ = some (.string x1) ∧ w'.cell? ⟨p, 1, none⟩ = some (.int .i64 x2) ∧ Hid (IsK W2 p (x1, x2) (.slice Aa nx ka) (.slice Ab nx kb) X w'))
      (first | exact ⟨a0, a1, KD⟩ | exact ⟨HKn.out.a0, HKn.out.a1, HKn⟩ | go_keep)
      (first
        | (go_at_call 13; refine (I1'.out _ (K2.out.below (by assumption : Hid (IsK W2 p (x1, x2) (.slice Aa nx ka) (.slice Ab nx kb) X _)).out.bel) (U2.out.below (by assumption : Hid (IsK W2 p (x1, x2) (.slice Aa nx ka) (.slice Ab nx kb) X _)).out.bel)).mono ?_; rintro e w10 ⟨rfl, hb⟩; have HKn := Lib.hid ((by assumption : Hid (IsK W2 p (x1, x2) (.slice Aa nx ka) (.slice Ab nx kb) X _)).out.step hb); clear hb)
        | (go_at_call 14; refine (I2'.out _ (U2.out.below (by assumption : Hid (IsK W2 p (x1, x2) (.slice Aa nx ka) (.slice Ab nx kb) X _)).out.bel)).mono ?_; rintro e w11 ⟨rfl, hb⟩; have HKn := Lib.hid ((by assumption : Hid (IsK W2 p (x1, x2) (.slice Aa nx ka) (.slice Ab nx kb) X _)).out.step hb); clear hb)
        | (go_at_call 15; refine (C1'.out _ (K2.out.below (by assumption : Hid (IsK W2 p (x1, x2) (.slice Aa nx ka) (.slice Ab nx kb) X _)).out.bel)).mono ?_; rintro e w12 ⟨rfl, hb⟩; have HKn := Lib.hid ((by assumption : Hid (IsK W2 p (x1, x2) (.slice Aa nx ka) (.slice Ab nx kb) X _)).out.step hb); clear hb)
        | (go_at_call 16; refine (C2'.out _).mono ?_; rintro e w13 ⟨rfl, hb⟩; have HKn := Lib.hid ((by assumption : Hid (IsK W2 p (x1, x2) (.slice Aa nx ka) (.slice Ab nx kb) X _)).out.step hb); clear hb)
        | (go_at_call 17; refine (CS.out _ _ _ (by assumption : Hid (IsK W2 p (x1, x2) (.slice Aa nx ka) (.slice Ab nx kb) X _)).out.ra (by assumption : Hid (IsK W2 p (x1, x2) (.slice Aa nx ka) (.slice Ab nx kb) X _)).out.rb).mono ?_; rintro e w15 ⟨rfl, hb⟩; have HKn := Lib.hid ((by assumption : Hid (IsK W2 p (x1, x2) (.slice Aa nx ka) (.slice Ab nx kb) X _)).out.step hb); clear hb))
  rename_i hHeld
  clear hHeld
  have B15 : Hid (Below w.heap.size w w15) := Lib.hid (HB2.out.trans (HKn.out.bel.mono HB2.out.size))
  go_wp2
  go_ret
  exact ⟨ret_bool (by simp), B15.out⟩
end Go.Proofs.YtdlmjoijadkphaaDoor
