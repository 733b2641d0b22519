/- LexiconFinds, walked over what lexicon's functions and the document's answer. -/
import Derived.Test.YtdlmjoijadkphaaDoorPk7
import Derived.Test.YtdlmjoijadkphaaDoorPk6
import Derived.Test.YtdlmjoijadkphaaDoorXRefF
import Derived.Test.YtdlmjoijadkphaaDoorPk5
import Derived.Test.YtdlmjoijadkphaaDoorXPlace
import Derived.Test.YtdlmjoijadkphaaDoorXBeg
namespace Go.Proofs.YtdlmjoijadkphaaDoor
open Go.RowKit Go.Shelf
set_option linter.unusedSimpArgs false
set_option linter.unusedVariables false

set_option maxRecDepth 100000 in
set_option maxHeartbeats 32000000 in
theorem lexiconFinds_walk (u : Value) (l : List Wrd) (s : ByteArray) (kk : Int) (sd : Bool) (w : World) (h : Okw w) (hu : WRuns w u l) (hz : szMW l) (hzs : s.size ≤ 140737488355328) :
    Calls Tryd.prog 4 #[.agg #[u, .string s, .int .i64 kk, .bool sd]] w (RetTrue w) := by
  have g1 := fun w hu => great9_det u l w hu hz
  have n2 := fun (hg : grW l = false) w hu => refNormal9_any u l w hu (by have := (grW_no hg).1; omega) (grW_no hg).2
  have hgl := fun (hg : grW l = false) => grW_no hg
  obtain ⟨r1, hr1⟩ : ∃ z, grW l = z := ⟨_, rfl⟩
  simp only [hr1] at g1 n2 hgl
  obtain ⟨A, c, e⟩ := hu.slice
  subst e
  obtain ⟨n, hn⟩ : ∃ n, l.length = n := ⟨_, rfl⟩
  rw [hn] at hu g1 n2 hgl ⊢
  have hal := bel_one w (.cells #[.slice A n c, .string s, .int .i64 kk, .bool sd] 35)
  have hnw := heap_alloc_new w (.cells #[.slice A n c, .string s, .int .i64 kk, .bool sd] 35)
  have hlt : w.heap.size < (w.alloc (.cells #[.slice A n c, .string s, .int .i64 kk, .bool sd] 35)).heap.size := by simp
  obtain ⟨W2, hW2⟩ : ∃ z, w.alloc (.cells #[.slice A n c, .string s, .int .i64 kk, .bool sd] 35) = z := ⟨_, rfl⟩
  rw [hW2] at hal hnw hlt
  obtain ⟨p, hp⟩ : ∃ z, w.heap.size = z := ⟨_, rfl⟩
  rw [hp] at hnw hlt
  have U2 := Lib.hid (hu.below hal); have KK : Hid (Okw W2) := Lib.hid (h.below hal)
  have HW2 := Lib.hid hW2; have HB2 := Lib.hid hal; have HP := Lib.hid hp
  have NW := Lib.hid hnw
  have G1 := Lib.hid g1; have N2 := Lib.hid n2; have HGL := Lib.hid hgl; have HN := Lib.hid hn
  clear hW2 hal hp hu h g1 n2 hn hz hnw hr1 hgl
  go_enter Tryd.func4, Tryd.ntmps4
  go_wp2_with fail
  rw [HW2.out, HP.out]
  refine (alive9_any _ KK.out).mono ?_
  rintro e w1 ⟨rfl, b1⟩
  have U3 := Lib.hid (U2.out.below b1)
  have B1 := Lib.hid b1
  have hp1 : w1.heap[p]? = some (.cells #[.slice A n c, .string s, .int .i64 kk, .bool sd] 35 (0, 0)) := (b1.block p hlt).trans NW.out
  have i0 : w1.cell? ⟨p, 0, none⟩ = some (.slice A n c) := by simp [World.cell?, hp1]
  have i1 : w1.cell? ⟨p, 1, none⟩ = some (.string s) := by simp [World.cell?, hp1]
  have i2 : w1.cell? ⟨p, 2, none⟩ = some (.int .i64 kk) := by simp [World.cell?, hp1]
  have i3 : w1.cell? ⟨p, 3, none⟩ = some (.bool sd) := by simp [World.cell?, hp1]
  clear b1 hp1 NW
  go_wp2
  go_quiet (fail)
  obtain ⟨w2, hw2⟩ : ∃ z, z = w1.drewN nq := ⟨_, rfl⟩
  have U4 : Hid (WRuns w2 (.slice A n c) l) := Lib.hid (by rw [hw2]; exact U3.out.below (below_draws (Below.refl _ _) _))
  have B2 : Hid (Below W2.heap.size W2 w2) := Lib.hid (by rw [hw2]; exact below_draws B1.out _)
  rw [← hw2]
  clear hw2 i0 i1 i2 i3 U3 B1
  go_wp2_with fail
  refine (G1.out _ U4.out).mono ?_
  rintro e w4 ⟨rfl, b4⟩
  have U5 := Lib.hid (U4.out.below b4)
  have BE := Lib.hid (B2.out.trans (b4.mono B2.out.size)); clear b4 B2 U4
  have done : ∀ W, Below W2.heap.size W2 W → Below w.heap.size w W := fun W hb => HB2.out.trans (hb.mono HB2.out.size)
  have DONE := Lib.hid done; clear done
  cases r1
  rotate_left
  · go_wp2
    go_ret
    exact ⟨rfl, DONE.out _ BE.out⟩
  by_cases hs : 1000 < s.size
  · have hs' : (1000 : Int) < (s.size : Int) := by omega
    go_wp2
    go_ret
    exact ⟨rfl, DONE.out _ BE.out⟩
  have hs' : ¬ (1000 : Int) < (s.size : Int) := by omega
  have hs3 : s.size ≤ 1000 := by omega
  obtain ⟨hn5, hzw⟩ := HGL.out (by first | rfl | trivial)
  have N2' := Lib.hid (N2.out (by first | rfl | trivial))
  have HL0 := worS_len l
  have HLZ := szW_nor hzw
  clear G1 N2 HGL hs U2
  cases sd
  · have HL1 : l.length ≤ 2000000 := by rw [HN.out]; omega
    have HL2 := hzw
    have f1 := fun w hO hv => xfind_any (.slice A n c) l s w hO hv HL1 HL2
    have f2 := fun w hv => refFind9_any (.slice A n c) l s w hv HL1 HL2
    have f3 := fun w hO hv => xbegins_any (.slice A n c) l s w hO hv HL1 HL2
    have f4 := fun w hv => refBegins9_any (.slice A n c) l s w hv HL1 HL2 (by omega)
    have f5 := fun w hO hv => xbest_any (.slice A n c) l kk w hO hv HL1 HL2
    have f6 := fun w hv => refBest9_any (.slice A n c) l kk w hv HL1 HL2
    obtain ⟨q1, hq1⟩ : ∃ z, wfS l s = z := ⟨_, rfl⟩
    obtain ⟨q2, hq2⟩ : ∃ z, wfE l s = z := ⟨_, rfl⟩
    obtain ⟨q3, hq3⟩ : ∃ z, wbgF l s = z := ⟨_, rfl⟩
    obtain ⟨q4, hq4⟩ : ∃ z, wbgT l s = z := ⟨_, rfl⟩
    obtain ⟨q5, hq5⟩ : ∃ z, wisS l = z := ⟨_, rfl⟩
    obtain ⟨q6, hq6⟩ : ∃ z, wbE l kk = z := ⟨_, rfl⟩
    obtain ⟨XB, hXB⟩ : ∃ z, wbS l kk = z := ⟨_, rfl⟩
    obtain ⟨nx, hnx⟩ : ∃ z, XB.length = z := ⟨_, rfl⟩
    simp only [hq1, hq2] at f1 f2
    simp only [hq3, hq4, hq5] at f3 f4
    simp only [hq6, hXB] at f5 f6
    have F1 := Lib.hid f1; have F2 := Lib.hid f2; have G3 := Lib.hid f3; have G4 := Lib.hid f4; have G5 := Lib.hid f5; have G6 := Lib.hid f6; have HNX := Lib.hid hnx
    clear f1 f2 f3 f4 f5 f6 hq1 hq2 hq3 hq4 hq5 hq6 hXB hnx HL1 HL2
    have RR := U5
    clear U5 HL0 HLZ N2' hzw
    go_wp2_with fail
    refine (F1.out _ (KK.out.below BE.out) (RR.out)).mono ?_
    rintro e w11 ⟨rfl, b11⟩
    have RR1 := Lib.hid (RR.out.below b11)
    have BE1 := Lib.hid (BE.out.trans (b11.mono BE.out.size)); clear b11 RR BE
    go_wp2_with fail
    refine (F2.out _ RR1.out).mono ?_
    rintro e w12 ⟨rfl, b12⟩
    have RR2 := Lib.hid (RR1.out.below b12)
    have BE2 := Lib.hid (BE1.out.trans (b12.mono BE1.out.size)); clear b12 RR1 BE1
    go_wp2_with fail
    refine (G3.out _ (KK.out.below BE2.out) RR2.out).mono ?_
    rintro e w13 ⟨rfl, b13⟩
    have RR3 := Lib.hid (RR2.out.below b13)
    have BE3 := Lib.hid (BE2.out.trans (b13.mono BE2.out.size)); clear b13 RR2 BE2
    go_wp2_with fail
    refine (G4.out _ RR3.out).mono ?_
    rintro e w14 ⟨rfl, b14⟩
    have RR4 := Lib.hid (RR3.out.below b14)
    have BE4 := Lib.hid (BE3.out.trans (b14.mono BE3.out.size)); clear b14 RR3 BE3
    go_wp2_with fail
    refine (G5.out _ (KK.out.below BE4.out) RR4.out).mono ?_
    rintro e w15 ⟨va, rfl, ra, b15⟩
    obtain ⟨Aa, ka, ea⟩ := ra.slice
    rw [HNX.out] at ea
    subst ea
    have RA := Lib.hid ra
    have RR5 := Lib.hid (RR4.out.below b15)
    have BE5 := Lib.hid (BE4.out.trans (b15.mono BE4.out.size)); clear b15 RR4 BE4 ra
    go_wp2_with fail
    refine (G6.out _ RR5.out).mono ?_
    rintro e w16 ⟨vb, rfl, rb, b16⟩
    obtain ⟨Ab, kb, eb⟩ := rb.slice
    rw [HNX.out] at eb
    subst eb
    have CS := Lib.hid ((refSame9_any _ _ XB XB w16 (RA.out.below b16) rb).mono (R' := fun e W' => e = .returned (.bool true) ∧ Below w16.heap.size w16 W') (fun e W' ⟨h1, h2⟩ => ⟨by rw [h1, decide_eq_true rfl], h2.below _⟩))
    have BE6 := Lib.hid (BE5.out.trans (b16.mono BE5.out.size)); clear b16 RR5 BE5 rb RA
    go_wp2_with fail
    refine CS.out.mono ?_
    rintro e w17 ⟨rfl, b17⟩
    have BE7 := Lib.hid (BE6.out.trans (b17.mono BE6.out.size)); clear b17 BE6 CS
    go_wp2
    go_ret
    exact ⟨ret_bool (by simp), DONE.out _ BE7.out⟩
  · go_wp2_with fail
    refine (N2'.out _ U5.out).mono ?_
    rintro e w7 ⟨v, rfl, r7, b7⟩
    obtain ⟨L2, hL2⟩ : ∃ z, worS l = z := ⟨_, rfl⟩
    rw [hL2] at HL0 HLZ r7
    obtain ⟨A2, c2, e7⟩ := r7.slice
    obtain ⟨n2, hn2⟩ : ∃ z, L2.length = z := ⟨_, rfl⟩
    rw [hn2] at e7
    subst e7
    have HL1 : L2.length ≤ 2000000 := by rw [HN.out] at HL0; omega
    have HL2 := HLZ
    have BE0 := Lib.hid (BE.out.trans (b7.mono BE.out.size))
    have RR := Lib.hid r7
    clear BE b7 r7 U5 HLZ HL0 N2' hL2 hn2 hzw
    have BE := BE0
    clear BE0
    have f1 := fun w hO hv => xfind_any (.slice A2 n2 c2) L2 s w hO hv HL1 HL2
    have f2 := fun w hv => refFind9_any (.slice A2 n2 c2) L2 s w hv HL1 HL2
    have f3 := fun w hO hv => xbegins_any (.slice A2 n2 c2) L2 s w hO hv HL1 HL2
    have f4 := fun w hv => refBegins9_any (.slice A2 n2 c2) L2 s w hv HL1 HL2 (by omega)
    have f5 := fun w hO hv => xbest_any (.slice A2 n2 c2) L2 kk w hO hv HL1 HL2
    have f6 := fun w hv => refBest9_any (.slice A2 n2 c2) L2 kk w hv HL1 HL2
    obtain ⟨q1, hq1⟩ : ∃ z, wfS L2 s = z := ⟨_, rfl⟩
    obtain ⟨q2, hq2⟩ : ∃ z, wfE L2 s = z := ⟨_, rfl⟩
    obtain ⟨q3, hq3⟩ : ∃ z, wbgF L2 s = z := ⟨_, rfl⟩
    obtain ⟨q4, hq4⟩ : ∃ z, wbgT L2 s = z := ⟨_, rfl⟩
    obtain ⟨q5, hq5⟩ : ∃ z, wisS L2 = z := ⟨_, rfl⟩
    obtain ⟨q6, hq6⟩ : ∃ z, wbE L2 kk = z := ⟨_, rfl⟩
    obtain ⟨XB, hXB⟩ : ∃ z, wbS L2 kk = z := ⟨_, rfl⟩
    obtain ⟨nx, hnx⟩ : ∃ z, XB.length = z := ⟨_, rfl⟩
    simp only [hq1, hq2] at f1 f2
    simp only [hq3, hq4, hq5] at f3 f4
    simp only [hq6, hXB] at f5 f6
    have F1 := Lib.hid f1; have F2 := Lib.hid f2; have G3 := Lib.hid f3; have G4 := Lib.hid f4; have G5 := Lib.hid f5; have G6 := Lib.hid f6; have HNX := Lib.hid hnx
    clear f1 f2 f3 f4 f5 f6 hq1 hq2 hq3 hq4 hq5 hq6 hXB hnx HL1 HL2
    go_wp2_with fail
    refine (F1.out _ (KK.out.below BE.out) (RR.out)).mono ?_
    rintro e w11 ⟨rfl, b11⟩
    have RR1 := Lib.hid (RR.out.below b11)
    have BE1 := Lib.hid (BE.out.trans (b11.mono BE.out.size)); clear b11 RR BE
    go_wp2_with fail
    refine (F2.out _ RR1.out).mono ?_
    rintro e w12 ⟨rfl, b12⟩
    have RR2 := Lib.hid (RR1.out.below b12)
    have BE2 := Lib.hid (BE1.out.trans (b12.mono BE1.out.size)); clear b12 RR1 BE1
    go_wp2_with fail
    refine (G3.out _ (KK.out.below BE2.out) RR2.out).mono ?_
    rintro e w13 ⟨rfl, b13⟩
    have RR3 := Lib.hid (RR2.out.below b13)
    have BE3 := Lib.hid (BE2.out.trans (b13.mono BE2.out.size)); clear b13 RR2 BE2
    go_wp2_with fail
    refine (G4.out _ RR3.out).mono ?_
    rintro e w14 ⟨rfl, b14⟩
    have RR4 := Lib.hid (RR3.out.below b14)
    have BE4 := Lib.hid (BE3.out.trans (b14.mono BE3.out.size)); clear b14 RR3 BE3
    go_wp2_with fail
    refine (G5.out _ (KK.out.below BE4.out) RR4.out).mono ?_
    rintro e w15 ⟨va, rfl, ra, b15⟩
    obtain ⟨Aa, ka, ea⟩ := ra.slice
    rw [HNX.out] at ea
    subst ea
    have RA := Lib.hid ra
    have RR5 := Lib.hid (RR4.out.below b15)
    have BE5 := Lib.hid (BE4.out.trans (b15.mono BE4.out.size)); clear b15 RR4 BE4 ra
    go_wp2_with fail
    refine (G6.out _ RR5.out).mono ?_
    rintro e w16 ⟨vb, rfl, rb, b16⟩
    obtain ⟨Ab, kb, eb⟩ := rb.slice
    rw [HNX.out] at eb
    subst eb
    have CS := Lib.hid ((refSame9_any _ _ XB XB w16 (RA.out.below b16) rb).mono (R' := fun e W' => e = .returned (.bool true) ∧ Below w16.heap.size w16 W') (fun e W' ⟨h1, h2⟩ => ⟨by rw [h1, decide_eq_true rfl], h2.below _⟩))
    have BE6 := Lib.hid (BE5.out.trans (b16.mono BE5.out.size)); clear b16 RR5 BE5 rb RA
    go_wp2_with fail
    refine CS.out.mono ?_
    rintro e w17 ⟨rfl, b17⟩
    have BE7 := Lib.hid (BE6.out.trans (b17.mono BE6.out.size)); clear b17 BE6 CS
    go_wp2
    go_ret
    exact ⟨ret_bool (by simp), DONE.out _ BE7.out⟩
end Go.Proofs.YtdlmjoijadkphaaDoor
