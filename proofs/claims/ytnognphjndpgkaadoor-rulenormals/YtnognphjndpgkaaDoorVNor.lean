/- RuleNormals, walked over what rule's functions and the document's answer. -/
import Derived.Test.YtnognphjndpgkaaDoorPk10
import Derived.Test.YtnognphjndpgkaaDoorQNor
import Derived.Test.YtnognphjndpgkaaDoorRGat
import Derived.Test.YtnognphjndpgkaaDoorRRef2
namespace Go.Proofs.YtnognphjndpgkaaDoor
open Go.RowKit Go.Shelf
set_option linter.unusedSimpArgs false
set_option linter.unusedVariables false

theorem szL_nor {l : List Blk} (h : szL l) : szL (norS l) := by
  unfold norS
  split
  · intro b hb
    obtain ⟨y, hy, e⟩ := nrm_keys l b hb
    rw [e.1, e.2]; exact h y hy
  · exact fun b hb => by simp at hb
theorem norS_len (l : List Blk) : (norS l).length ≤ l.length := by
  unfold norS
  split
  · exact nrm_len l
  · simp

set_option maxRecDepth 100000 in
set_option maxHeartbeats 8000000 in
theorem ruleNormals_walk (u : Value) (l : List Blk) (p q : ByteArray) (w : World) (h : Okw w) (hu : BRuns w u l) (hz : szM l) :
    Calls Tryd.prog 4 #[u, .string p, .string q] w (RetTrue w) := by
  have g1 := fun w hu => great7_det u l w hu hz
  have n1 := fun (hg : grB l = false) w hO hu => rnormal_any u l w hO hu (by have := (grB_no hg).1; omega) (grB_no hg).szL
  have n2 := fun (hg : grB l = false) w hu => refNormal_any u l w hu (by have := (grB_no hg).1; omega) (grB_no hg).szL
  have f1 := fun (hg : grB l = false) v w hO hu => rfind_any v (norS l) p q w hO hu (by have := (grB_no hg).1; have := norS_len l; omega) (szL_nor (grB_no hg).szL)
  have f2 := fun (hg : grB l = false) v w hu => refFind7_any v (norS l) p q w hu (by have := (grB_no hg).1; have := norS_len l; omega) (szL_nor (grB_no hg).szL)
  have f3 := fun (hg : grB l = false) w hO hu => rfind_any u l p q w hO hu (by have := (grB_no hg).1; omega) (grB_no hg).szL
  have f4 := fun (hg : grB l = false) w hu => refFind7_any u l p q w hu (by have := (grB_no hg).1; omega) (grB_no hg).szL
  obtain ⟨r1, hr1⟩ : ∃ z, grB l = z := ⟨_, rfl⟩
  obtain ⟨er, her⟩ : ∃ z, norE l = z := ⟨_, rfl⟩
  obtain ⟨X, hX⟩ : ∃ z, norS l = z := ⟨_, rfl⟩
  obtain ⟨s1, hs1⟩ : ∃ z, rfS l (p, q, 0) = z := ⟨_, rfl⟩
  obtain ⟨e1, he1⟩ : ∃ z, rfE l (p, q, 0) = z := ⟨_, rfl⟩
  simp only [hr1] at g1 n1 n2 f1 f2 f3 f4
  simp only [her, hX] at n1 n2
  simp only [hX] at f1 f2
  simp only [hs1, he1] at f3 f4
  obtain ⟨s2, hs2⟩ : ∃ z, rfS X (p, q, 0) = z := ⟨_, rfl⟩
  obtain ⟨e2, he2⟩ : ∃ z, rfE X (p, q, 0) = z := ⟨_, rfl⟩
  simp only [hs2, he2] at f1 f2
  clear hr1 her hX hs1 he1 hs2 he2 hz
  obtain ⟨A, c, e⟩ := hu.slice
  obtain ⟨n, hn⟩ : ∃ n, l.length = n := ⟨_, rfl⟩
  obtain ⟨nx, hnx⟩ : ∃ n, X.length = n := ⟨_, rfl⟩
  rw [hn] at e
  subst e
  have HU := Lib.hid hu; have G1 := Lib.hid g1; have N1 := Lib.hid n1; have N2 := Lib.hid n2; have F1 := Lib.hid f1; have F2 := Lib.hid f2; have F3 := Lib.hid f3; have F4 := Lib.hid f4; have HNX := Lib.hid hnx
  clear hu g1 n1 n2 f1 f2 f3 f4 hn hnx
  go_enter Tryd.func4, Tryd.ntmps4
  go_wp2_with fail
  refine (alive7_any _ h).mono ?_
  rintro e w1 ⟨rfl, b1⟩
  have U1 := Lib.hid (HU.out.below b1); have K1 : Hid (Okw w1) := Lib.hid (h.below b1)
  have B1 := Lib.hid b1; clear b1
  go_wp2_with fail
  refine (G1.out _ U1.out).mono ?_
  rintro e w2 ⟨rfl, b2⟩
  have U2 := Lib.hid (U1.out.below b2); have K2 : Hid (Okw w2) := Lib.hid (K1.out.below b2)
  have B2 := Lib.hid (B1.out.trans (b2.mono B1.out.size)); clear b2
  cases r1
  rotate_left
  · go_wp2
    go_ret
    exact ⟨rfl, B2.out⟩
  have N1' := Lib.hid (N1.out (by first | rfl | trivial)); have N2' := Lib.hid (N2.out (by first | rfl | trivial)); have F1' := Lib.hid (F1.out (by first | rfl | trivial)); have F2' := Lib.hid (F2.out (by first | rfl | trivial)); have F3' := Lib.hid (F3.out (by first | rfl | trivial)); have F4' := Lib.hid (F4.out (by first | rfl | trivial))
  clear N1 N2 F1 F2 F3 F4
  go_wp2_with fail
  refine (N1'.out _ K2.out U2.out).mono ?_
  rintro e w3 ⟨va, rfl, r3, b3⟩
  obtain ⟨Aa, ka, e3⟩ := r3.slice
  rw [HNX.out] at e3
  subst e3
  have R3 := Lib.hid r3
  have U3 := Lib.hid (U2.out.below b3); have K3 : Hid (Okw w3) := Lib.hid (K2.out.below b3)
  have B3 := Lib.hid (B2.out.trans (b3.mono B2.out.size)); clear b3 r3
  go_wp2_with fail
  refine (N2'.out _ U3.out).mono ?_
  rintro e w4 ⟨vb, rfl, r4, b4⟩
  obtain ⟨Ab, kb, e4⟩ := r4.slice
  rw [HNX.out] at e4
  subst e4
  have R4 := Lib.hid r4; have R34 := Lib.hid (R3.out.below b4)
  have U4 := Lib.hid (U3.out.below b4); have K4 : Hid (Okw w4) := Lib.hid (K3.out.below b4)
  have B4 := Lib.hid (B3.out.trans (b4.mono B3.out.size)); clear b4 r4
  go_wp2_with fail
  refine (F1'.out _ _ K4.out R34.out).mono ?_
  rintro e w5 ⟨rfl, b5⟩
  have R5 := Lib.hid (R4.out.below b5); have R35 := Lib.hid (R34.out.below b5)
  have U5 := Lib.hid (U4.out.below b5); have K5 : Hid (Okw w5) := Lib.hid (K4.out.below b5)
  have B5 := Lib.hid (B4.out.trans (b5.mono B4.out.size)); clear b5
  go_wp2_with fail
  refine (F2'.out _ _ R5.out).mono ?_
  rintro e w6 ⟨rfl, b6⟩
  have R6 := Lib.hid (R5.out.below b6); have R36 := Lib.hid (R35.out.below b6)
  have U6 := Lib.hid (U5.out.below b6); have K6 : Hid (Okw w6) := Lib.hid (K5.out.below b6)
  have B6 := Lib.hid (B5.out.trans (b6.mono B5.out.size)); clear b6
  go_wp2_with fail
  refine (F3'.out _ K6.out U6.out).mono ?_
  rintro e w7 ⟨rfl, b7⟩
  have R7 := Lib.hid (R6.out.below b7); have R37 := Lib.hid (R36.out.below b7)
  have U7 := Lib.hid (U6.out.below b7)
  have B7 := Lib.hid (B6.out.trans (b7.mono B6.out.size)); clear b7
  go_wp2_with fail
  refine (F4'.out _ U7.out).mono ?_
  rintro e w8 ⟨rfl, b8⟩
  have cs := refSame7_any _ _ X X w8 (R37.out.below b8) (R7.out.below b8)
  rw [decide_eq_true rfl] at cs
  have CS := Lib.hid cs
  have B8 := Lib.hid (B7.out.trans (b8.mono B7.out.size)); clear b8 cs
  go_wp2_with fail
  refine CS.out.mono ?_
  rintro e w9 ⟨rfl, k9, rfl⟩
  go_wp2
  go_ret
  exact ⟨ret_bool (by simp), below_draws B8.out _⟩
end Go.Proofs.YtnognphjndpgkaaDoor
