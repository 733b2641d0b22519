/- CountParts, walked over what count's functions answer. -/
import Derived.Test.YtmfmbmlfdlebfaaDoorEMer
namespace Go.Proofs.YtmfmbmlfdlebfaaDoor
open Go.RowKit Go.Shelf
set_option linter.unusedSimpArgs false
set_option linter.unusedVariables false

set_option maxRecDepth 100000 in
set_option maxHeartbeats 8000000 in
theorem countParts_walk (u v : Value) (l m : List Blk) (w : World) (h : Okw w) (hu : BRuns w u l) (hv : BRuns w v m) (hza : szM l) (hzb : szM m) :
    Calls Tryd.prog 7 #[u, v] w (RetTrue w) := by
  have g1 := fun w hu => great_any u l w hu hza
  have g2 := fun w hv => great_any v m w hv hzb
  have t1 := fun (hg : notGreat l) w hO hu => ctable_any u l w hO hu (by have := hg.1; omega) hg.szL
  have t2 := fun (hg : notGreat m) w hO hu => ctable_any v m w hO hu (by have := hg.1; omega) hg.szL
  have m1 := fun (ha : notGreat l) (hb : notGreat m) u v w hO hu hv => merge_any u v (tabS l) (tabS m) w hO hu hv (by have := ha.1; have := tabS_len l; omega) (by have := hb.1; have := tabS_len m; omega) (szL_tab ha.szL) (szL_tab hb.szL)
  have t3 := fun (ha : notGreat l) (hb : notGreat m) x w hO hx => ctable_any x (l ++ m) w hO hx (by have := ha.1; have := hb.1; simp; omega) (fun z hz => by rcases List.mem_append.1 hz with h | h; exact ha.szL z h; exact hb.szL z h)
  have m2 := fun (ha : notGreat l) u w hO hu => merge_any u (.slice none 0 0) (tabS l) [] w hO hu (GRuns.nil_ _ _ _) (by have := ha.1; have := tabS_len l; omega) (by simp) (szL_tab ha.szL) (fun z hz => by simp at hz)
  have hmt : tabE l = 0 → tabE m = 0 → merE (tabS l) (tabS m) = tabE (l ++ m) ∧ merS (tabS l) (tabS m) = tabS (l ++ m) := mer_tab
  have hmn : tabE l = 0 → merE (tabS l) [] = 0 ∧ merS (tabS l) [] = tabS l := mer_none
  obtain ⟨ea, hea⟩ : ∃ z, tabE l = z := ⟨_, rfl⟩
  obtain ⟨eb, heb⟩ : ∃ z, tabE m = z := ⟨_, rfl⟩
  obtain ⟨X, hX⟩ : ∃ z, tabS l = z := ⟨_, rfl⟩
  obtain ⟨Y, hY⟩ : ∃ z, tabS m = z := ⟨_, rfl⟩
  obtain ⟨et, het⟩ : ∃ z, tabE (l ++ m) = z := ⟨_, rfl⟩
  obtain ⟨Z, hZ⟩ : ∃ z, tabS (l ++ m) = z := ⟨_, rfl⟩
  simp only [hea, heb, hX, hY, het, hZ] at t1 t2 m1 t3 m2 hmt hmn
  obtain ⟨e1, he1⟩ : ∃ z, merE X Y = z := ⟨_, rfl⟩
  obtain ⟨M1, hM1⟩ : ∃ z, merS X Y = z := ⟨_, rfl⟩
  obtain ⟨e2, he2⟩ : ∃ z, merE X [] = z := ⟨_, rfl⟩
  obtain ⟨M2, hM2⟩ : ∃ z, merS X [] = z := ⟨_, rfl⟩
  simp only [he1, hM1] at m1 hmt
  simp only [he2, hM2] at m2 hmn
  clear hea heb hX hY het hZ he1 hM1 he2 hM2 hza hzb
  obtain ⟨A0, c0, eu⟩ := hu.slice
  obtain ⟨B0, d0, ev⟩ := hv.slice
  obtain ⟨n, hn⟩ : ∃ n, l.length = n := ⟨_, rfl⟩
  obtain ⟨k, hm⟩ : ∃ n, m.length = n := ⟨_, rfl⟩
  rw [hn] at eu
  rw [hm] at ev
  subst eu ev
  have HU := Lib.hid hu; have HV := Lib.hid hv; have G1 := Lib.hid g1; have G2 := Lib.hid g2; have T1 := Lib.hid t1; have T2 := Lib.hid t2; have T3 := Lib.hid t3; have M1' := Lib.hid m1; have M2' := Lib.hid m2; have HMT := Lib.hid hmt; have HMN := Lib.hid hmn; have HN := Lib.hid hn; have HM := Lib.hid hm
  clear hu hv g1 g2 t1 t2 t3 m1 m2 hmt hmn hn hm
  go_enter Tryd.func7, Tryd.ntmps7
  go_wp2_with fail
  refine (alive6_any _ h).mono ?_
  rintro e w1 ⟨rfl, b1⟩
  have U1 := Lib.hid (HU.out.below b1); have V1 := Lib.hid (HV.out.below b1); have K1 : Hid (Okw w1) := Lib.hid (h.below b1)
  have B1 := Lib.hid b1; clear b1
  go_wp2_with fail
  refine (G1.out _ U1.out).mono ?_
  rintro e w2 ⟨hg, b2⟩
  have U2 := Lib.hid (U1.out.below b2); have V2 := Lib.hid (V1.out.below b2); have K2 : Hid (Okw w2) := Lib.hid (K1.out.below b2)
  have B2 := Lib.hid (B1.out.trans (b2.mono B1.out.size)); clear b2
  rcases hg with rfl | ⟨rfl, hg⟩
  · go_wp2
    go_ret
    exact ⟨rfl, B2.out⟩
  have HGA := Lib.hid hg; clear hg
  go_wp2_with fail
  refine (G2.out _ V2.out).mono ?_
  rintro e w3 ⟨hg, b3⟩
  have U3 := Lib.hid (U2.out.below b3); have V3 := Lib.hid (V2.out.below b3); have K3 : Hid (Okw w3) := Lib.hid (K2.out.below b3)
  have B3 := Lib.hid (B2.out.trans (b3.mono B2.out.size)); clear b3
  rcases hg with rfl | ⟨rfl, hg⟩
  · go_wp2
    go_ret
    exact ⟨rfl, B3.out⟩
  have HGB := Lib.hid hg; clear hg
  go_wp2_with fail
  refine (T1.out HGA.out _ K3.out U3.out).mono ?_
  rintro e w4 ⟨x, rfl, r4, b4⟩
  obtain ⟨Ax, kx, rfl⟩ := r4.slice
  have R4 := Lib.hid r4
  have U4 := Lib.hid (U3.out.below b4); have V4 := Lib.hid (V3.out.below b4); have K4 : Hid (Okw w4) := Lib.hid (K3.out.below b4)
  have B4 := Lib.hid (B3.out.trans (b4.mono B3.out.size)); clear b4 r4
  go_wp2_with fail
  refine (T2.out HGB.out _ K4.out V4.out).mono ?_
  rintro e w5 ⟨y, rfl, r5, b5⟩
  obtain ⟨Ay, ky, rfl⟩ := r5.slice
  have R5 := Lib.hid r5; have R45 := Lib.hid (R4.out.below b5)
  have U5 := Lib.hid (U4.out.below b5); have V5 := Lib.hid (V4.out.below b5); have K5 : Hid (Okw w5) := Lib.hid (K4.out.below b5)
  have B5 := Lib.hid (B4.out.trans (b5.mono B4.out.size)); clear b5 r5
  by_cases h1 : ea = 0
  rotate_left
  · have h1' : (ea == 0) = false := by simpa using h1
    go_wp2
    go_ret
    exact ⟨rfl, B5.out⟩
  by_cases h2 : eb = 0
  rotate_left
  · have h2' : (eb == 0) = false := by simpa using h2
    subst h1
    go_wp2
    go_ret
    exact ⟨rfl, B5.out⟩
  subst h1 h2
  obtain ⟨q1, q2⟩ := HMT.out (by first | rfl | trivial) (by first | rfl | trivial)
  obtain ⟨q3, q4⟩ := HMN.out (by first | rfl | trivial)
  subst q1 q2 q3 q4
  clear HMT HMN
  go_wp2_with fail
  refine (M1'.out HGA.out HGB.out _ _ _ K5.out R45.out R5.out).mono ?_
  rintro e w6 ⟨z, rfl, r6, b6⟩
  obtain ⟨Az, kz, rfl⟩ := r6.slice
  have R6 := Lib.hid r6; have R46 := Lib.hid (R45.out.below b6)
  have U6 := U5.out.below b6; have V6 := V5.out.below b6; have K6 : Okw w6 := K5.out.below b6
  have B6 := Lib.hid (B5.out.trans (b6.mono B5.out.size)); clear b6 r6
  have hba := blw_1 w6 (.cells #[] 43)
  obtain ⟨v7, w7, hrun7, hown7, hg7, hat7⟩ := append_many (P := Tryd.prog) blk_ln blk_one info_blk rfl (by decide) (by decide) Tryd.underlying22 _ w6.heap.size _ 0 [] (own_litB w6 _ (Nat.le_refl _)) _ l (U6.below hba) (by simp) (by have := HGA.out.1; omega)
  have hb7 : Below w6.heap.size w6 w7 := hba.grown hg7 (by simp) (fun k hk => by simp [Value.ownBlock] at hk; omega)
  obtain ⟨v8, w8, hrun8, hown8, hg8, hat8⟩ := append_many (P := Tryd.prog) blk_ln blk_one info_blk rfl (by decide) (by decide) Tryd.underlying22 _ w6.heap.size _ _ _ hown7 _ m (V6.below hb7) hb7.size (by have := HGA.out.1; have := HGB.out.1; omega)
  have hb8 : Below w6.heap.size w6 w8 := hb7.grown hg8 hb7.size (fun k hk => (hown7.lt k hk).1)
  have hz : BRuns w8 v8 (l ++ m) := GRuns.of_own (n := 0 + l.length + m.length) blk_ln (by simp) (by rw [gCells_append]; simpa using hown8)
  have H7 := Lib.hid hrun7; have H8 := Lib.hid hrun8; have HZ := Lib.hid hz
  have R48 := Lib.hid (R46.out.below hb8); have R68 := Lib.hid (R6.out.below hb8); have K8 : Hid (Okw w8) := Lib.hid (K6.below hb8)
  have B8 := Lib.hid (B6.out.trans (hb8.mono B6.out.size))
  have h7 : BRuns w7 v7 l := GRuns.of_own (n := 0 + l.length) blk_ln (by simp) (by simpa using hown7)
  obtain ⟨A7, c7, e7⟩ := h7.slice
  obtain ⟨A8, c8, e8⟩ := hz.slice
  rw [HN.out] at e7
  rw [List.length_append, HN.out, HM.out] at e8
  subst e7 e8
  clear h7 hrun7 hrun8 hown7 hown8 hg7 hg8 hat7 hat8 hz hb7 hb8 hba U6 V6 K6 R46 R6
  go_wp2_with (first
    | (at_builtin; refine wpList_append_run (.tmp 46) (.tmp 47) 22 _ _ _ _ H7.out rfl rfl rfl rfl ?_)
    | (at_builtin; refine wpList_append_run (.tmp 48) (.tmp 49) 22 _ _ _ _ H8.out rfl rfl rfl rfl ?_))
  refine (T3.out HGA.out HGB.out _ _ K8.out HZ.out).mono ?_
  rintro e w9 ⟨y, rfl, r9, b9⟩
  obtain ⟨A9, k9, rfl⟩ := r9.slice
  have R9 := Lib.hid r9; have R49 := Lib.hid (R48.out.below b9); have R69 := Lib.hid (R68.out.below b9); have K9 : Hid (Okw w9) := Lib.hid (K8.out.below b9)
  have B9 := Lib.hid (B8.out.trans (b9.mono B8.out.size)); clear b9 r9
  go_wp2_with fail
  refine (M2'.out HGA.out _ _ K9.out R49.out).mono ?_
  rintro e wA ⟨t, rfl, rA, bA⟩
  obtain ⟨AA, kA, rfl⟩ := rA.slice
  have RA := Lib.hid rA; have R4A := Lib.hid (R49.out.below bA)
  have cs := refSame5_any _ _ M1 M1 wA (R69.out.below bA) (R9.out.below bA)
  rw [decide_eq_true rfl] at cs
  have CS := Lib.hid cs
  have BA := Lib.hid (B9.out.trans (bA.mono B9.out.size)); clear bA rA cs
  go_wp2_with fail
  refine CS.out.mono ?_
  rintro e wB ⟨rfl, kB, rfl⟩
  obtain ⟨wB, hwB⟩ : ∃ z, z = wA.drewN kB := ⟨_, rfl⟩
  have bB : Below wA.heap.size wA wB := by rw [hwB]; exact below_draws (Below.refl _ _) _
  have cs := refSame5_any _ _ M2 M2 wB (RA.out.below bB) (R4A.out.below bB)
  rw [decide_eq_true rfl] at cs
  have CS2 := Lib.hid cs
  have BB := Lib.hid (BA.out.trans (bB.mono BA.out.size))
  rw [← hwB]
  clear bB hwB cs
  go_wp2_with fail
  refine CS2.out.mono ?_
  rintro e wC ⟨rfl, kC, rfl⟩
  go_wp2
  go_ret
  exact ⟨rfl, below_draws BB.out _⟩
end Go.Proofs.YtmfmbmlfdlebfaaDoor
