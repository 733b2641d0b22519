/- CountMerges, walked over what count's functions and the document's answer. -/
import Derived.Test.YtmfmbmlfdlebfaaDoorPk14
import Derived.Test.YtmfmbmlfdlebfaaDoorDMerge
import Derived.Test.YtmfmbmlfdlebfaaDoorCMer
namespace Go.Proofs.YtmfmbmlfdlebfaaDoor
open Go.RowKit Go.Shelf
set_option linter.unusedSimpArgs false
set_option linter.unusedVariables false

theorem tabS_len (l : List Blk) : (tabS l).length ≤ l.length := by
  unfold tabS
  split
  · exact gat_len l
  · simp
theorem szB_tab {l : List Blk} (h : szB l) : szB (tabS l) := fun z hz => by
  unfold tabS at hz
  split at hz
  · rcases gat_keys l [] z hz with ⟨y, hy, e⟩ | ⟨y, hy, _⟩
    · have := h y hy
      rw [← e.1, ← e.2] at this
      exact this
    · simp at hy
  · simp at hz
theorem szL_tab {l : List Blk} (h : szL l) : szL (tabS l) := fun z hz => by
  unfold tabS at hz
  split at hz
  · exact szL_gat h z hz
  · simp at hz

set_option maxRecDepth 100000 in
set_option maxHeartbeats 8000000 in
/-- The last part: two tables merged both ways. -/
theorem countMerges_walk (u v : Value) (a b : List Blk) (sd : Bool) (w : World) (h : Okw w) (hu : BRuns w u a) (hv : BRuns w v b) (hza : szM a) (hzb : szM b) :
    Calls Tryd.prog 4 #[u, v, .bool sd] w (RetTrue w) := by
  have g1 := fun w hu => great_any u a w hu hza
  have g2 := fun w hv => great_any v b w hv hzb
  have t1 := fun (hg : notGreat a) w hu => refTable_any u a w hu (by have := hg.1; omega) hg.szB
  have t2 := fun (hg : notGreat b) w hu => refTable_any v b w hu (by have := hg.1; omega) hg.szB
  have m1 := fun (ha : notGreat a) (hb : notGreat b) w hO hu hv => merge_any u v a b w hO hu hv (by have := ha.1; omega) (by have := hb.1; omega) ha.szL hb.szL
  have m2 := fun (ha : notGreat a) (hb : notGreat b) w hu hv => refMerge_any u v a b w hu hv (by have := ha.1; omega) (by have := hb.1; omega) ha.szB hb.szB
  have m3 := fun (ha : notGreat a) (hb : notGreat b) u v w hO hu hv => merge_any u v (tabS a) (tabS b) w hO hu hv (by have := ha.1; have := tabS_len a; omega) (by have := hb.1; have := tabS_len b; omega) (szL_tab ha.szL) (szL_tab hb.szL)
  have m4 := fun (ha : notGreat a) (hb : notGreat b) u v w hu hv => refMerge_any u v (tabS a) (tabS b) w hu hv (by have := ha.1; have := tabS_len a; omega) (by have := hb.1; have := tabS_len b; omega) (szB_tab ha.szB) (szB_tab hb.szB)
  obtain ⟨ea, hea⟩ : ∃ z, tabE a = z := ⟨_, rfl⟩
  obtain ⟨eb, heb⟩ : ∃ z, tabE b = z := ⟨_, rfl⟩
  obtain ⟨X, hX⟩ : ∃ z, tabS a = z := ⟨_, rfl⟩
  obtain ⟨Y, hY⟩ : ∃ z, tabS b = z := ⟨_, rfl⟩
  simp only [hX, hY] at m3 m4
  obtain ⟨e1, he1⟩ : ∃ z, merE a b = z := ⟨_, rfl⟩
  obtain ⟨M1, hM1⟩ : ∃ z, merS a b = z := ⟨_, rfl⟩
  obtain ⟨e2, he2⟩ : ∃ z, merE X Y = z := ⟨_, rfl⟩
  obtain ⟨M2, hM2⟩ : ∃ z, merS X Y = z := ⟨_, rfl⟩
  simp only [hea, hX] at t1
  simp only [heb, hY] at t2
  simp only [he1, hM1] at m1 m2
  simp only [he2, hM2] at m3 m4
  clear hea heb hX hY he1 hM1 he2 hM2 hza hzb
  obtain ⟨A0, c0, eu⟩ := hu.slice
  obtain ⟨B0, d0, ev⟩ := hv.slice
  obtain ⟨n, hn⟩ : ∃ n, a.length = n := ⟨_, rfl⟩
  obtain ⟨m, hm⟩ : ∃ n, b.length = n := ⟨_, rfl⟩
  rw [hn] at eu
  rw [hm] at ev
  subst eu ev
  have HU := Lib.hid hu; have HV := Lib.hid hv; have G1 := Lib.hid g1; have G2 := Lib.hid g2; have T1 := Lib.hid t1; have T2 := Lib.hid t2; have M1' := Lib.hid m1; have M2' := Lib.hid m2; have M3 := Lib.hid m3; have M4 := Lib.hid m4
  clear hu hv g1 g2 t1 t2 m1 m2 m3 m4 hn hm
  go_enter Tryd.func4, Tryd.ntmps4
  go_wp2_with fail
  refine (alive6_any _ h).mono ?_
  rintro e w1 ⟨rfl, b1⟩
  have U1 := Lib.hid (HU.out.below b1); have V1 := Lib.hid (HV.out.below b1); have K1 : Hid (Okw w1) := Lib.hid (h.below b1)
  have B1 := Lib.hid b1; clear b1
  go_wp2_with fail
  refine (G1.out _ U1.out).mono ?_
  rintro e w2 ⟨hg, b2⟩
  have U2 := Lib.hid (U1.out.below b2); have V2 := Lib.hid (V1.out.below b2); have K2 : Hid (Okw w2) := Lib.hid (K1.out.below b2)
  have B2 := Lib.hid (B1.out.trans (b2.mono B1.out.size)); clear b2
  rcases hg with rfl | ⟨rfl, hg⟩
  · go_wp2
    go_ret
    exact ⟨rfl, B2.out⟩
  have HGA := Lib.hid hg; clear hg
  go_wp2_with fail
  refine (G2.out _ V2.out).mono ?_
  rintro e w3 ⟨hg, b3⟩
  have U3 := Lib.hid (U2.out.below b3); have V3 := Lib.hid (V2.out.below b3); have K3 : Hid (Okw w3) := Lib.hid (K2.out.below b3)
  have B3 := Lib.hid (B2.out.trans (b3.mono B2.out.size)); clear b3
  rcases hg with rfl | ⟨rfl, hg⟩
  · go_wp2
    go_ret
    exact ⟨rfl, B3.out⟩
  have HGB := Lib.hid hg; clear hg
  cases sd
  · go_wp2_with fail
    refine (M1'.out HGA.out HGB.out _ K3.out U3.out V3.out).mono ?_
    rintro e w4 ⟨x, rfl, r4, b4⟩
    obtain ⟨Ax, kx, rfl⟩ := r4.slice
    have R4 := Lib.hid r4
    have U4 := Lib.hid (U3.out.below b4); have V4 := Lib.hid (V3.out.below b4)
    have B4 := Lib.hid (B3.out.trans (b4.mono B3.out.size)); clear b4 r4
    go_wp2_with fail
    refine (M2'.out HGA.out HGB.out _ U4.out V4.out).mono ?_
    rintro e w5 ⟨y, rfl, r5, b5⟩
    obtain ⟨Ay, ky, rfl⟩ := r5.slice
    have cs := refSame5_any _ _ M1 M1 w5 (R4.out.below b5) r5
    rw [decide_eq_true rfl] at cs
    have CS := Lib.hid cs
    have B5 := Lib.hid (B4.out.trans (b5.mono B4.out.size)); clear b5 r5 cs
    go_wp2_with fail
    refine CS.out.mono ?_
    rintro e w6 ⟨rfl, k6, rfl⟩
    go_wp2
    go_ret
    exact ⟨rfl, below_draws B5.out _⟩
  · go_wp2_with fail
    refine (T1.out HGA.out _ U3.out).mono ?_
    rintro e w4 ⟨x, rfl, r4, b4⟩
    obtain ⟨Ax, kx, rfl⟩ := r4.slice
    have R4 := Lib.hid r4
    have V4 := Lib.hid (V3.out.below b4); have K4 : Hid (Okw w4) := Lib.hid (K3.out.below b4)
    have B4 := Lib.hid (B3.out.trans (b4.mono B3.out.size)); clear b4 r4
    go_wp2_with fail
    refine (T2.out HGB.out _ V4.out).mono ?_
    rintro e w5 ⟨y, rfl, r5, b5⟩
    obtain ⟨Ay, ky, rfl⟩ := r5.slice
    have R5 := Lib.hid r5
    have R45 := Lib.hid (R4.out.below b5); have K5 : Hid (Okw w5) := Lib.hid (K4.out.below b5)
    have B5 := Lib.hid (B4.out.trans (b5.mono B4.out.size)); clear b5 r5
    go_wp2_with fail
    refine (M3.out HGA.out HGB.out _ _ _ K5.out R45.out R5.out).mono ?_
    rintro e w6 ⟨x, rfl, r6, b6⟩
    obtain ⟨Az, kz, rfl⟩ := r6.slice
    have R6 := Lib.hid r6
    have R46 := Lib.hid (R45.out.below b6); have R56 := Lib.hid (R5.out.below b6)
    have B6 := Lib.hid (B5.out.trans (b6.mono B5.out.size)); clear b6 r6
    go_wp2_with fail
    refine (M4.out HGA.out HGB.out _ _ _ R46.out R56.out).mono ?_
    rintro e w7 ⟨y, rfl, r7, b7⟩
    obtain ⟨Aw, kw, rfl⟩ := r7.slice
    have cs := refSame5_any _ _ M2 M2 w7 (R6.out.below b7) r7
    rw [decide_eq_true rfl] at cs
    have CS := Lib.hid cs
    have B7 := Lib.hid (B6.out.trans (b7.mono B6.out.size)); clear b7 r7 cs
    go_wp2_with fail
    refine CS.out.mono ?_
    rintro e w8 ⟨rfl, k8, rfl⟩
    go_wp2
    go_ret
    exact ⟨rfl, below_draws B7.out _⟩
end Go.Proofs.YtmfmbmlfdlebfaaDoor
