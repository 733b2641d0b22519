/- CountTables, walked over what count's functions and the document's answer. -/
import Derived.Test.YtmfmbmlfdlebfaaDoorPk14
import Derived.Test.YtmfmbmlfdlebfaaDoorDFind
namespace Go.Proofs.YtmfmbmlfdlebfaaDoor
open Go.RowKit Go.Shelf
set_option linter.unusedSimpArgs false
set_option linter.unusedVariables false

set_option maxRecDepth 100000 in
set_option maxHeartbeats 8000000 in
theorem countTables_walk (u : Value) (l : List Blk) (p q : ByteArray) (w : World) (h : Okw w) (hu : BRuns w u l) (hz : szM l) :
    Calls Tryd.prog 3 #[u, .string p, .string q] w (RetTrue w) := by
  have cg := fun w hu => great_any u l w hu hz
  have c1 := fun (hg : notGreat l) w hO hu => ctable_any u l w hO hu (by have := hg.1; omega) hg.szL
  have c2 := fun (hg : notGreat l) w hu => refTable_any u l w hu (by have := hg.1; omega) hg.szB
  have c3 := fun (hg : notGreat l) w hO hu => total_any u l w hO hu (by have := hg.1; omega) hg.szL
  have c4 := fun (hg : notGreat l) w hu => refTotal_any u l w hu (by have := hg.1; omega) hg.szB
  have c5 := fun (hg : notGreat l) w hO hu => find_any u l p q w hO hu (by have := hg.1; omega) hg.szL
  have c6 := fun (hg : notGreat l) w hu => refFind_any u l p q w hu (by have := hg.1; omega) hg.szB
  have c7 := fun (hg : notGreat l) w hO hu => check6_any u l w hO hu (by have := hg.1; omega) hg.szL
  have c8 := fun (hg : notGreat l) w hu => refCheck6_any u l w hu (by have := hg.1; omega) hg.szB
  obtain ⟨er, her⟩ : ∃ z, tabE l = z := ⟨_, rfl⟩
  obtain ⟨X, hX⟩ : ∃ z, tabS l = z := ⟨_, rfl⟩
  obtain ⟨T, hT⟩ : ∃ z, totS l = z := ⟨_, rfl⟩
  obtain ⟨K, hK⟩ : ∃ z, chkT l = z := ⟨_, rfl⟩
  obtain ⟨F, hF⟩ : ∃ z, finS l (p, q, 0) = z := ⟨_, rfl⟩
  simp only [her, hX] at c1 c2
  simp only [hT, hK] at c3 c4
  simp only [hF, hK] at c5 c6
  simp only [hK] at c7 c8
  clear her hX hT hK hF hz
  have HU := Lib.hid hu; have CG := Lib.hid cg
  have C1 := Lib.hid c1; have C2 := Lib.hid c2; have C3 := Lib.hid c3; have C4 := Lib.hid c4; have C5 := Lib.hid c5; have C6 := Lib.hid c6; have C7 := Lib.hid c7; have C8 := Lib.hid c8
  clear hu cg c1 c2 c3 c4 c5 c6 c7 c8
  go_enter Tryd.func3, Tryd.ntmps3
  go_wp2_with fail
  refine (alive6_any _ h).mono ?_
  rintro e w1 ⟨rfl, b1⟩
  have U1 := Lib.hid (HU.out.below b1); have K1 : Hid (Okw w1) := Lib.hid (h.below b1)
  have B1 := Lib.hid b1; clear b1
  go_wp2_with fail
  refine (CG.out _ U1.out).mono ?_
  rintro e w2 ⟨hg, b2⟩
  have U2 := Lib.hid (U1.out.below b2); have K2 : Hid (Okw w2) := Lib.hid (K1.out.below b2)
  have B2 := Lib.hid (B1.out.trans (b2.mono B1.out.size)); clear b2
  rcases hg with rfl | ⟨rfl, hg⟩
  · go_wp2
    go_ret
    exact ⟨rfl, B2.out⟩
  have HG := Lib.hid hg; clear hg
  go_wp2_with fail
  refine (C1.out HG.out _ K2.out U2.out).mono ?_
  rintro e w3 ⟨va, rfl, r3, b3⟩
  obtain ⟨Aa, ka, rfl⟩ := r3.slice
  have R3 := Lib.hid r3
  have U3 := Lib.hid (U2.out.below b3); have K3 : Hid (Okw w3) := Lib.hid (K2.out.below b3)
  have B3 := Lib.hid (B2.out.trans (b3.mono B2.out.size)); clear b3 r3
  go_wp2_with fail
  refine (C2.out HG.out _ U3.out).mono ?_
  rintro e w4 ⟨vb, rfl, r4, b4⟩
  obtain ⟨Ab, kb, rfl⟩ := r4.slice
  have R3a := Lib.hid (R3.out.below b4); have R4 := Lib.hid r4
  have U4 := Lib.hid (U3.out.below b4); have K4 : Hid (Okw w4) := Lib.hid (K3.out.below b4)
  have B4 := Lib.hid (B3.out.trans (b4.mono B3.out.size)); clear b4 r4 R3
  go_wp2_with fail
  refine (C3.out HG.out _ K4.out U4.out).mono ?_
  rintro e w5 ⟨rfl, b5⟩
  have R3b := Lib.hid (R3a.out.below b5); have R4b := Lib.hid (R4.out.below b5)
  have U5 := Lib.hid (U4.out.below b5); have K5 : Hid (Okw w5) := Lib.hid (K4.out.below b5)
  have B5 := Lib.hid (B4.out.trans (b5.mono B4.out.size)); clear b5 R3a R4
  go_wp2_with fail
  refine (C4.out HG.out _ U5.out).mono ?_
  rintro e w6 ⟨rfl, b6⟩
  have R3c := Lib.hid (R3b.out.below b6); have R4c := Lib.hid (R4b.out.below b6)
  have U6 := Lib.hid (U5.out.below b6); have K6 : Hid (Okw w6) := Lib.hid (K5.out.below b6)
  have B6 := Lib.hid (B5.out.trans (b6.mono B5.out.size)); clear b6 R3b R4b
  go_wp2_with fail
  refine (C5.out HG.out _ K6.out U6.out).mono ?_
  rintro e w7 ⟨rfl, b7⟩
  have R3d := Lib.hid (R3c.out.below b7); have R4d := Lib.hid (R4c.out.below b7)
  have U7 := Lib.hid (U6.out.below b7); have K7 : Hid (Okw w7) := Lib.hid (K6.out.below b7)
  have B7 := Lib.hid (B6.out.trans (b7.mono B6.out.size)); clear b7 R3c R4c
  go_wp2_with fail
  refine (C6.out HG.out _ U7.out).mono ?_
  rintro e w8 ⟨rfl, b8⟩
  have R3e := R3d.out.below b8; have R4e := R4d.out.below b8
  have U8 := Lib.hid (U7.out.below b8); have K8 : Hid (Okw w8) := Lib.hid (K7.out.below b8)
  have B8 := Lib.hid (B7.out.trans (b8.mono B7.out.size)); clear b8 R3d R4d
  have cs := refSame5_any _ _ X X w8 R3e R4e
  rw [decide_eq_true rfl] at cs
  have CS := Lib.hid cs
  clear cs R3e R4e
  go_wp2_with fail
  refine CS.out.mono ?_
  rintro e w9 ⟨rfl, k9, rfl⟩
  obtain ⟨w9, hw9⟩ : ∃ z, z = w8.drewN k9 := ⟨_, rfl⟩
  have b9 : Below w8.heap.size w8 w9 := by rw [hw9]; exact below_draws (Below.refl _ _) _
  have U9 := Lib.hid (U8.out.below b9); have K9 : Hid (Okw w9) := Lib.hid (K8.out.below b9)
  have B9 := Lib.hid (B8.out.trans (b9.mono B8.out.size))
  rw [← hw9]
  clear b9 hw9
  go_wp2_with fail
  refine (C7.out HG.out _ K9.out U9.out).mono ?_
  rintro e wA ⟨rfl, bA⟩
  have UA := Lib.hid (U9.out.below bA)
  have BA := Lib.hid (B9.out.trans (bA.mono B9.out.size)); clear bA
  go_wp2_with fail
  refine (C8.out HG.out _ UA.out).mono ?_
  rintro e wB ⟨rfl, bB⟩
  have BB := Lib.hid (BA.out.trans (bB.mono BA.out.size)); clear bB
  go_wp2
  go_ret
  exact ⟨rfl, BB.out⟩
end Go.Proofs.YtmfmbmlfdlebfaaDoor
