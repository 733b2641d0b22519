/- The law AlignBack, walked. -/
import Derived.Test.YthigbnklekdemaaDoorABackP
namespace Go.Proofs.YthigbnklekdemaaDoor
open Go.RowKit Go.Shelf

set_option maxRecDepth 100000 in
set_option maxHeartbeats 8000000 in
theorem alignBack_walk (s t : ByteArray) (u : Value) (l : List St) (w : World) (h : Okw w) (hu : StRuns w u l) (hf : stFit l) (hs : s.size ≤ 1048576) (ht : t.size ≤ 1048576) :
    Calls Tryd.prog 5 #[.string s, .string t, u] w (RetTrue w) := by
  have ha := alive4_any
  obtain ⟨A, c, rfl, hxc, ⟨hxm, hA⟩, hxx⟩ := hu
  have hu : StRuns w (.slice A l.length c) l := ⟨A, c, rfl, hxc, ⟨hxm, hA⟩, hxx⟩
  clear hxx hA
  unfold maxLen at hxm
  unfold Alive4 at ha
  have AL := Lib.hid ha; clear ha
  by_cases hL : 100 < l.length
  · obtain ⟨n, hn⟩ : ∃ n, l.length = n := ⟨_, rfl⟩
    rw [hn] at hL hxc ⊢
    clear hu hn hf
    have h1' : (100 : Int) < (n : Int) := by omega
    go_enter Tryd.func5, Tryd.ntmps5
    go_wp2_with fail
    refine (AL.out _ h).mono ?_
    rintro e w1 ⟨rfl, b1⟩
    have B1 := Lib.hid b1; clear b1
    go_wp2
    go_ret
    exact ⟨rfl, B1.out⟩
  have c1 := steps_any s t (by omega) (by omega)
  have c2 := distance_any s t (by omega) (by omega)
  have c5 := read_any l (by omega) hf
  have c6 : CostAt l := fun w u _ hu => cost_any u l w hu
  have rs := read_size l
  have c7 := distance_any ⟨(readA l).toArray⟩ ⟨(readB l).toArray⟩ (by rw [Lib.size_eq, mk_toList]; omega) (by rw [Lib.size_eq, mk_toList]; omega)
  unfold StepsAt at c1
  unfold DistAt at c2 c7
  unfold ReadAt at c5
  unfold CostAt at c6
  have HU := Lib.hid hu; clear hu
  have h1' : ¬ (100 : Int) < (l.length : Int) := by omega
  clear rs
  have hst : ∀ v w, StRuns w v (stepsS s.data.toList t.data.toList) → ∃ A c, v = .slice A (stepsS s.data.toList t.data.toList).length c := fun v w h => by obtain ⟨A, c, e, _⟩ := h; exact ⟨A, c, e⟩
  by_cases hT : tokErr2 s.data.toList t.data.toList = 0
  · obtain ⟨f1, f2, f3, f4, f5, f6, _⟩ := steps_facts _ _ hT
    have c3 := read_any (stepsS s.data.toList t.data.toList) (by omega) f5
    have c4 : CostAt (stepsS s.data.toList t.data.toList) := fun w u _ hu => cost_any u _ w hu
    unfold ReadAt at c3
    unfold CostAt at c4
    simp only [f1, f2, f3] at c3
    simp only [f4] at c4
    have e1 : (⟨s.data.toList.toArray⟩ : ByteArray) = s := mk_data s _ rfl
    have e2 : (⟨t.data.toList.toArray⟩ : ByteArray) = t := mk_data t _ rfl
    rw [e1, e2] at c3
    simp only [hT] at c1 c2
    obtain ⟨D, hD⟩ : ∃ D, distS s.data.toList t.data.toList = D := ⟨_, rfl⟩
    simp only [hD] at c2 c4
    obtain ⟨L, hL0⟩ : ∃ L, stepsS s.data.toList t.data.toList = L := ⟨_, rfl⟩
    simp only [hL0] at c1 c3 c4 hst
    have C3 := Lib.hid c3; have C4 := Lib.hid c4
    clear c3 c4 hD hL0 f1 f2 f3 f4 f5 f6 e1 e2
    by_cases hG : l.all stGood = true
    · by_cases hE : tokErr2 (readA l) (readB l) = 0
      · have ee : stErr l = 0 := by rw [stErr, hG]; rfl
        have hle := steps_least l hG hE
        simp only [ee] at c5
        rw [mk_toList, mk_toList, hE] at c7
        obtain ⟨d7, hd7⟩ : ∃ x, distS (readA l) (readB l) = x := ⟨_, rfl⟩
        obtain ⟨k7, hk7⟩ : ∃ x, stC l = x := ⟨_, rfl⟩
        obtain ⟨xa, hxa⟩ : ∃ x, readA l = x := ⟨_, rfl⟩
        obtain ⟨xb, hxb⟩ : ∃ x, readB l = x := ⟨_, rfl⟩
        rw [hd7, hk7] at hle
        simp only [hd7] at c7
        simp only [hxa, hxb] at c5 c7
        simp only [hk7] at c6
        have b8 : decide ((d7 : Int) ≤ (k7 : Int)) = true := by simpa using hle
        have b8' : decide (d7 ≤ k7) = true := by simpa using hle
        have HLE := Lib.hid hle; clear hle
        clear ee hG hE hd7 hk7 hxa hxb
        have C1 := Lib.hid c1; have C2 := Lib.hid c2; have C5 := Lib.hid c5; have HST := Lib.hid hst
        clear c1 c2 c5 hst
        obtain ⟨n, hn⟩ : ∃ n, l.length = n := ⟨_, rfl⟩
        rw [hn] at HU hxc h1' hL ⊢
        clear hn hf
        go_enter Tryd.func5, Tryd.ntmps5
        go_wp2_with fail
        refine (AL.out _ h).mono ?_
        rintro e w1 ⟨rfl, b1⟩
        have K1 : Hid (Okw w1) := Lib.hid (h.below b1)
        have U1 := Lib.hid (HU.out.below b1)
        have B1 := Lib.hid b1; clear b1
        go_wp2_with fail
        refine (C1.out _ K1.out).mono ?_
        rintro e w2 ⟨v, rfl, r2, b2⟩
        obtain ⟨Av, cv, rfl⟩ := HST.out _ _ r2
        have K2 : Hid (Okw w2) := Lib.hid (K1.out.below b2)
        have U2 := Lib.hid (U1.out.below b2)
        have X2 := Lib.hid r2; clear r2
        have B2 := Lib.hid (B1.out.trans (b2.mono B1.out.size)); clear b2
        go_wp2_with fail
        refine (C2.out _ K2.out).mono ?_
        rintro e w3 ⟨rfl, b3⟩
        have K3 : Hid (Okw w3) := Lib.hid (K2.out.below b3)
        have U3 := Lib.hid (U2.out.below b3)
        have X3 := Lib.hid (X2.out.below b3)
        have B3 := Lib.hid (B2.out.trans (b3.mono B2.out.size)); clear b3
        clear K1 K2 U1 U2 X2 B1 B2 C1 C2 AL
        go_wp2_with fail
        refine (C3.out _ _ K3.out X3.out).mono ?_
        rintro e w4 ⟨rfl, b4⟩
        have K4 : Hid (Okw w4) := Lib.hid (K3.out.below b4)
        have U4 := Lib.hid (U3.out.below b4)
        have X4 := Lib.hid (X3.out.below b4)
        have B4 := Lib.hid (B3.out.trans (b4.mono B3.out.size)); clear b4
        go_wp2_with fail
        refine (C4.out _ _ K4.out X4.out).mono ?_
        rintro e w5 ⟨rfl, b5⟩
        have K5 : Hid (Okw w5) := Lib.hid (K4.out.below b5)
        have U5 := Lib.hid (U4.out.below b5)
        have B5 := Lib.hid (B4.out.trans (b5.mono B4.out.size)); clear b5
        go_wp2_with fail
        refine (C5.out _ _ K5.out U5.out).mono ?_
        rintro e w6 ⟨rfl, b6⟩
        have K6 : Hid (Okw w6) := Lib.hid (K5.out.below b6)
        have U6 := Lib.hid (U5.out.below b6)
        have B6 := Lib.hid (B5.out.trans (b6.mono B5.out.size)); clear b6
        go_wp2_with fail
        refine (c7 _ K6.out).mono ?_
        rintro e w7 ⟨rfl, b7⟩
        have K7 : Hid (Okw w7) := Lib.hid (K6.out.below b7)
        have U7 := Lib.hid (U6.out.below b7)
        have B7 := Lib.hid (B6.out.trans (b7.mono B6.out.size)); clear b7
        go_wp2_with fail
        refine (c6 _ _ K7.out U7.out).mono ?_
        rintro e w8 ⟨rfl, b8z⟩
        have B8 := Lib.hid (B7.out.trans (b8z.mono B7.out.size)); clear b8z
        go_wp2
        go_ret
        exact ⟨ret_bool (by first | rfl | exact decide_eq_true HLE.out), B8.out⟩
      · have ee : stErr l = 0 := by rw [stErr, hG]; rfl
        simp only [ee] at c5
        rw [mk_toList, mk_toList] at c7
        obtain ⟨e7, he7⟩ : ∃ x, tokErr2 (readA l) (readB l) = x := ⟨_, rfl⟩
        obtain ⟨d7, hd7⟩ : ∃ x, distS (readA l) (readB l) = x := ⟨_, rfl⟩
        rw [he7] at hE
        obtain ⟨xa, hxa⟩ : ∃ x, readA l = x := ⟨_, rfl⟩
        obtain ⟨xb, hxb⟩ : ∃ x, readB l = x := ⟨_, rfl⟩
        simp only [he7, hd7] at c7
        simp only [hxa, hxb] at c5 c7
        have b7 : (e7 != 0) = true := bne_iff_ne.2 hE
        clear c6 ee hG he7 hd7 hxa hxb
        have C1 := Lib.hid c1; have C2 := Lib.hid c2; have C5 := Lib.hid c5; have HST := Lib.hid hst
        clear c1 c2 c5 hst
        obtain ⟨n, hn⟩ : ∃ n, l.length = n := ⟨_, rfl⟩
        rw [hn] at HU hxc h1' hL ⊢
        clear hn hf
        go_enter Tryd.func5, Tryd.ntmps5
        go_wp2_with fail
        refine (AL.out _ h).mono ?_
        rintro e w1 ⟨rfl, b1⟩
        have K1 : Hid (Okw w1) := Lib.hid (h.below b1)
        have U1 := Lib.hid (HU.out.below b1)
        have B1 := Lib.hid b1; clear b1
        go_wp2_with fail
        refine (C1.out _ K1.out).mono ?_
        rintro e w2 ⟨v, rfl, r2, b2⟩
        obtain ⟨Av, cv, rfl⟩ := HST.out _ _ r2
        have K2 : Hid (Okw w2) := Lib.hid (K1.out.below b2)
        have U2 := Lib.hid (U1.out.below b2)
        have X2 := Lib.hid r2; clear r2
        have B2 := Lib.hid (B1.out.trans (b2.mono B1.out.size)); clear b2
        go_wp2_with fail
        refine (C2.out _ K2.out).mono ?_
        rintro e w3 ⟨rfl, b3⟩
        have K3 : Hid (Okw w3) := Lib.hid (K2.out.below b3)
        have U3 := Lib.hid (U2.out.below b3)
        have X3 := Lib.hid (X2.out.below b3)
        have B3 := Lib.hid (B2.out.trans (b3.mono B2.out.size)); clear b3
        clear K1 K2 U1 U2 X2 B1 B2 C1 C2 AL
        go_wp2_with fail
        refine (C3.out _ _ K3.out X3.out).mono ?_
        rintro e w4 ⟨rfl, b4⟩
        have K4 : Hid (Okw w4) := Lib.hid (K3.out.below b4)
        have U4 := Lib.hid (U3.out.below b4)
        have X4 := Lib.hid (X3.out.below b4)
        have B4 := Lib.hid (B3.out.trans (b4.mono B3.out.size)); clear b4
        go_wp2_with fail
        refine (C4.out _ _ K4.out X4.out).mono ?_
        rintro e w5 ⟨rfl, b5⟩
        have K5 : Hid (Okw w5) := Lib.hid (K4.out.below b5)
        have U5 := Lib.hid (U4.out.below b5)
        have B5 := Lib.hid (B4.out.trans (b5.mono B4.out.size)); clear b5
        go_wp2_with fail
        refine (C5.out _ _ K5.out U5.out).mono ?_
        rintro e w6 ⟨rfl, b6⟩
        have K6 : Hid (Okw w6) := Lib.hid (K5.out.below b6)
        have U6 := Lib.hid (U5.out.below b6)
        have B6 := Lib.hid (B5.out.trans (b6.mono B5.out.size)); clear b6
        go_wp2_with fail
        refine (c7 _ K6.out).mono ?_
        rintro e w7 ⟨rfl, b7⟩
        have K7 : Hid (Okw w7) := Lib.hid (K6.out.below b7)
        have U7 := Lib.hid (U6.out.below b7)
        have B7 := Lib.hid (B6.out.trans (b7.mono B6.out.size)); clear b7
        go_wp2
        go_ret
        exact ⟨rfl, B7.out⟩
    · have hgd : l.all stGood = false := by simpa using hG
      have ea : readA l = [] := by rw [readA, hgd]; rfl
      have eb : readB l = [] := by rw [readB, hgd]; rfl
      have ee : stErr l = 7 := by rw [stErr, hgd]; rfl
      simp only [ea, eb, ee] at c5
      clear c6 c7 ea eb ee hgd hG
      have C1 := Lib.hid c1; have C2 := Lib.hid c2; have C5 := Lib.hid c5; have HST := Lib.hid hst
      clear c1 c2 c5 hst
      obtain ⟨n, hn⟩ : ∃ n, l.length = n := ⟨_, rfl⟩
      rw [hn] at HU hxc h1' hL ⊢
      clear hn hf
      go_enter Tryd.func5, Tryd.ntmps5
      go_wp2_with fail
      refine (AL.out _ h).mono ?_
      rintro e w1 ⟨rfl, b1⟩
      have K1 : Hid (Okw w1) := Lib.hid (h.below b1)
      have U1 := Lib.hid (HU.out.below b1)
      have B1 := Lib.hid b1; clear b1
      go_wp2_with fail
      refine (C1.out _ K1.out).mono ?_
      rintro e w2 ⟨v, rfl, r2, b2⟩
      obtain ⟨Av, cv, rfl⟩ := HST.out _ _ r2
      have K2 : Hid (Okw w2) := Lib.hid (K1.out.below b2)
      have U2 := Lib.hid (U1.out.below b2)
      have X2 := Lib.hid r2; clear r2
      have B2 := Lib.hid (B1.out.trans (b2.mono B1.out.size)); clear b2
      go_wp2_with fail
      refine (C2.out _ K2.out).mono ?_
      rintro e w3 ⟨rfl, b3⟩
      have K3 : Hid (Okw w3) := Lib.hid (K2.out.below b3)
      have U3 := Lib.hid (U2.out.below b3)
      have X3 := Lib.hid (X2.out.below b3)
      have B3 := Lib.hid (B2.out.trans (b3.mono B2.out.size)); clear b3
      clear K1 K2 U1 U2 X2 B1 B2 C1 C2 AL
      go_wp2_with fail
      refine (C3.out _ _ K3.out X3.out).mono ?_
      rintro e w4 ⟨rfl, b4⟩
      have K4 : Hid (Okw w4) := Lib.hid (K3.out.below b4)
      have U4 := Lib.hid (U3.out.below b4)
      have X4 := Lib.hid (X3.out.below b4)
      have B4 := Lib.hid (B3.out.trans (b4.mono B3.out.size)); clear b4
      go_wp2_with fail
      refine (C4.out _ _ K4.out X4.out).mono ?_
      rintro e w5 ⟨rfl, b5⟩
      have K5 : Hid (Okw w5) := Lib.hid (K4.out.below b5)
      have U5 := Lib.hid (U4.out.below b5)
      have B5 := Lib.hid (B4.out.trans (b5.mono B4.out.size)); clear b5
      go_wp2_with fail
      refine (C5.out _ _ K5.out U5.out).mono ?_
      rintro e w6 ⟨rfl, b6⟩
      have K6 : Hid (Okw w6) := Lib.hid (K5.out.below b6)
      have U6 := Lib.hid (U5.out.below b6)
      have B6 := Lib.hid (B5.out.trans (b6.mono B5.out.size)); clear b6
      go_wp2
      go_ret
      exact ⟨rfl, B6.out⟩
  · obtain ⟨er, her⟩ : ∃ x, tokErr2 s.data.toList t.data.toList = x := ⟨_, rfl⟩
    rw [her] at hT
    simp only [her] at c1 c2
    have b9 : (er == 0) = false := beq_eq_false_iff_ne.2 hT
    obtain ⟨D, hD⟩ : ∃ D, distS s.data.toList t.data.toList = D := ⟨_, rfl⟩
    simp only [hD] at c2
    obtain ⟨L, hL0⟩ : ∃ L, stepsS s.data.toList t.data.toList = L := ⟨_, rfl⟩
    simp only [hL0] at c1 hst
    clear her hD hL0
    by_cases hG : l.all stGood = true
    · by_cases hE : tokErr2 (readA l) (readB l) = 0
      · have ee : stErr l = 0 := by rw [stErr, hG]; rfl
        have hle := steps_least l hG hE
        simp only [ee] at c5
        rw [mk_toList, mk_toList, hE] at c7
        obtain ⟨d7, hd7⟩ : ∃ x, distS (readA l) (readB l) = x := ⟨_, rfl⟩
        obtain ⟨k7, hk7⟩ : ∃ x, stC l = x := ⟨_, rfl⟩
        obtain ⟨xa, hxa⟩ : ∃ x, readA l = x := ⟨_, rfl⟩
        obtain ⟨xb, hxb⟩ : ∃ x, readB l = x := ⟨_, rfl⟩
        rw [hd7, hk7] at hle
        simp only [hd7] at c7
        simp only [hxa, hxb] at c5 c7
        simp only [hk7] at c6
        have b8 : decide ((d7 : Int) ≤ (k7 : Int)) = true := by simpa using hle
        have b8' : decide (d7 ≤ k7) = true := by simpa using hle
        have HLE := Lib.hid hle; clear hle
        clear ee hG hE hd7 hk7 hxa hxb
        have C1 := Lib.hid c1; have C2 := Lib.hid c2; have C5 := Lib.hid c5; have HST := Lib.hid hst
        clear c1 c2 c5 hst
        obtain ⟨n, hn⟩ : ∃ n, l.length = n := ⟨_, rfl⟩
        rw [hn] at HU hxc h1' hL ⊢
        clear hn hf
        go_enter Tryd.func5, Tryd.ntmps5
        go_wp2_with fail
        refine (AL.out _ h).mono ?_
        rintro e w1 ⟨rfl, b1⟩
        have K1 : Hid (Okw w1) := Lib.hid (h.below b1)
        have U1 := Lib.hid (HU.out.below b1)
        have B1 := Lib.hid b1; clear b1
        go_wp2_with fail
        refine (C1.out _ K1.out).mono ?_
        rintro e w2 ⟨v, rfl, r2, b2⟩
        obtain ⟨Av, cv, rfl⟩ := HST.out _ _ r2
        have K2 : Hid (Okw w2) := Lib.hid (K1.out.below b2)
        have U2 := Lib.hid (U1.out.below b2)
        have X2 := Lib.hid r2; clear r2
        have B2 := Lib.hid (B1.out.trans (b2.mono B1.out.size)); clear b2
        go_wp2_with fail
        refine (C2.out _ K2.out).mono ?_
        rintro e w3 ⟨rfl, b3⟩
        have K3 : Hid (Okw w3) := Lib.hid (K2.out.below b3)
        have U3 := Lib.hid (U2.out.below b3)
        have X3 := Lib.hid (X2.out.below b3)
        have B3 := Lib.hid (B2.out.trans (b3.mono B2.out.size)); clear b3
        clear K1 K2 U1 U2 X2 B1 B2 C1 C2 AL
        go_wp2_with fail
        refine (C5.out _ _ K3.out U3.out).mono ?_
        rintro e w6 ⟨rfl, b6⟩
        have K6 : Hid (Okw w6) := Lib.hid (K3.out.below b6)
        have U6 := Lib.hid (U3.out.below b6)
        have B6 := Lib.hid (B3.out.trans (b6.mono B3.out.size)); clear b6
        go_wp2_with fail
        refine (c7 _ K6.out).mono ?_
        rintro e w7 ⟨rfl, b7⟩
        have K7 : Hid (Okw w7) := Lib.hid (K6.out.below b7)
        have U7 := Lib.hid (U6.out.below b7)
        have B7 := Lib.hid (B6.out.trans (b7.mono B6.out.size)); clear b7
        go_wp2_with fail
        refine (c6 _ _ K7.out U7.out).mono ?_
        rintro e w8 ⟨rfl, b8z⟩
        have B8 := Lib.hid (B7.out.trans (b8z.mono B7.out.size)); clear b8z
        go_wp2
        go_ret
        exact ⟨ret_bool (by first | rfl | exact decide_eq_true HLE.out), B8.out⟩
      · have ee : stErr l = 0 := by rw [stErr, hG]; rfl
        simp only [ee] at c5
        rw [mk_toList, mk_toList] at c7
        obtain ⟨e7, he7⟩ : ∃ x, tokErr2 (readA l) (readB l) = x := ⟨_, rfl⟩
        obtain ⟨d7, hd7⟩ : ∃ x, distS (readA l) (readB l) = x := ⟨_, rfl⟩
        rw [he7] at hE
        obtain ⟨xa, hxa⟩ : ∃ x, readA l = x := ⟨_, rfl⟩
        obtain ⟨xb, hxb⟩ : ∃ x, readB l = x := ⟨_, rfl⟩
        simp only [he7, hd7] at c7
        simp only [hxa, hxb] at c5 c7
        have b7 : (e7 != 0) = true := bne_iff_ne.2 hE
        clear c6 ee hG he7 hd7 hxa hxb
        have C1 := Lib.hid c1; have C2 := Lib.hid c2; have C5 := Lib.hid c5; have HST := Lib.hid hst
        clear c1 c2 c5 hst
        obtain ⟨n, hn⟩ : ∃ n, l.length = n := ⟨_, rfl⟩
        rw [hn] at HU hxc h1' hL ⊢
        clear hn hf
        go_enter Tryd.func5, Tryd.ntmps5
        go_wp2_with fail
        refine (AL.out _ h).mono ?_
        rintro e w1 ⟨rfl, b1⟩
        have K1 : Hid (Okw w1) := Lib.hid (h.below b1)
        have U1 := Lib.hid (HU.out.below b1)
        have B1 := Lib.hid b1; clear b1
        go_wp2_with fail
        refine (C1.out _ K1.out).mono ?_
        rintro e w2 ⟨v, rfl, r2, b2⟩
        obtain ⟨Av, cv, rfl⟩ := HST.out _ _ r2
        have K2 : Hid (Okw w2) := Lib.hid (K1.out.below b2)
        have U2 := Lib.hid (U1.out.below b2)
        have X2 := Lib.hid r2; clear r2
        have B2 := Lib.hid (B1.out.trans (b2.mono B1.out.size)); clear b2
        go_wp2_with fail
        refine (C2.out _ K2.out).mono ?_
        rintro e w3 ⟨rfl, b3⟩
        have K3 : Hid (Okw w3) := Lib.hid (K2.out.below b3)
        have U3 := Lib.hid (U2.out.below b3)
        have X3 := Lib.hid (X2.out.below b3)
        have B3 := Lib.hid (B2.out.trans (b3.mono B2.out.size)); clear b3
        clear K1 K2 U1 U2 X2 B1 B2 C1 C2 AL
        go_wp2_with fail
        refine (C5.out _ _ K3.out U3.out).mono ?_
        rintro e w6 ⟨rfl, b6⟩
        have K6 : Hid (Okw w6) := Lib.hid (K3.out.below b6)
        have U6 := Lib.hid (U3.out.below b6)
        have B6 := Lib.hid (B3.out.trans (b6.mono B3.out.size)); clear b6
        go_wp2_with fail
        refine (c7 _ K6.out).mono ?_
        rintro e w7 ⟨rfl, b7⟩
        have K7 : Hid (Okw w7) := Lib.hid (K6.out.below b7)
        have U7 := Lib.hid (U6.out.below b7)
        have B7 := Lib.hid (B6.out.trans (b7.mono B6.out.size)); clear b7
        go_wp2
        go_ret
        exact ⟨rfl, B7.out⟩
    · have hgd : l.all stGood = false := by simpa using hG
      have ea : readA l = [] := by rw [readA, hgd]; rfl
      have eb : readB l = [] := by rw [readB, hgd]; rfl
      have ee : stErr l = 7 := by rw [stErr, hgd]; rfl
      simp only [ea, eb, ee] at c5
      clear c6 c7 ea eb ee hgd hG
      have C1 := Lib.hid c1; have C2 := Lib.hid c2; have C5 := Lib.hid c5; have HST := Lib.hid hst
      clear c1 c2 c5 hst
      obtain ⟨n, hn⟩ : ∃ n, l.length = n := ⟨_, rfl⟩
      rw [hn] at HU hxc h1' hL ⊢
      clear hn hf
      go_enter Tryd.func5, Tryd.ntmps5
      go_wp2_with fail
      refine (AL.out _ h).mono ?_
      rintro e w1 ⟨rfl, b1⟩
      have K1 : Hid (Okw w1) := Lib.hid (h.below b1)
      have U1 := Lib.hid (HU.out.below b1)
      have B1 := Lib.hid b1; clear b1
      go_wp2_with fail
      refine (C1.out _ K1.out).mono ?_
      rintro e w2 ⟨v, rfl, r2, b2⟩
      obtain ⟨Av, cv, rfl⟩ := HST.out _ _ r2
      have K2 : Hid (Okw w2) := Lib.hid (K1.out.below b2)
      have U2 := Lib.hid (U1.out.below b2)
      have X2 := Lib.hid r2; clear r2
      have B2 := Lib.hid (B1.out.trans (b2.mono B1.out.size)); clear b2
      go_wp2_with fail
      refine (C2.out _ K2.out).mono ?_
      rintro e w3 ⟨rfl, b3⟩
      have K3 : Hid (Okw w3) := Lib.hid (K2.out.below b3)
      have U3 := Lib.hid (U2.out.below b3)
      have X3 := Lib.hid (X2.out.below b3)
      have B3 := Lib.hid (B2.out.trans (b3.mono B2.out.size)); clear b3
      clear K1 K2 U1 U2 X2 B1 B2 C1 C2 AL
      go_wp2_with fail
      refine (C5.out _ _ K3.out U3.out).mono ?_
      rintro e w6 ⟨rfl, b6⟩
      have K6 : Hid (Okw w6) := Lib.hid (K3.out.below b6)
      have U6 := Lib.hid (U3.out.below b6)
      have B6 := Lib.hid (B3.out.trans (b6.mono B3.out.size)); clear b6
      go_wp2
      go_ret
      exact ⟨rfl, B6.out⟩
end Go.Proofs.YthigbnklekdemaaDoor
