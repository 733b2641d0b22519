/- The law AlignWays, walked. -/
import Derived.Test.YthigbnklekdemaaDoorABackP
namespace Go.Proofs.YthigbnklekdemaaDoor
open Go.RowKit Go.Shelf

theorem dist_of {a b : List UInt8} (ha : tokErr a = 0) (hb : tokErr b = 0) : distS a b = levR (tokRunes a).reverse (tokRunes b).reverse := by rw [distS, if_pos (tokErr2_of ha hb)]
theorem dist_facts {a b c : List UInt8} (ha : tokErr a = 0) (hb : tokErr b = 0) (hc : tokErr c = 0) :
    distS b a = distS a b ∧ (distS a b = 0 ↔ a = b) ∧ distS a b ≤ distS a c + distS c b ∧ (tokRunes a).length ≤ (tokRunes b).length + distS a b ∧ (tokRunes b).length ≤ (tokRunes a).length + distS a b ∧ distS a b ≤ max (tokRunes a).length (tokRunes b).length ∧ distS a c ≤ 128 ∧ distS c b ≤ 128 := by
  rw [dist_of ha hb, dist_of hb ha, dist_of ha hc, dist_of hc hb]
  have l1 := levR_len (tokRunes a).reverse (tokRunes b).reverse
  have l2 := levR_len' (tokRunes a).reverse (tokRunes b).reverse
  have l3 := levR_max (tokRunes a).reverse (tokRunes b).reverse
  have l4 := levR_max (tokRunes a).reverse (tokRunes c).reverse
  have l5 := levR_max (tokRunes c).reverse (tokRunes b).reverse
  simp only [List.length_reverse] at l1 l2 l3 l4 l5
  have n1 := tok_len ha
  have n2 := tok_len hb
  have n3 := tok_len hc
  refine ⟨levR_symm _ _, ⟨fun h => ?_, fun h => ?_⟩, levR_tri _ _ _, l1, l2, l3, by omega, by omega⟩
  · have := List.reverse_inj.1 (levR_zero h)
    rw [← (tok_runes ha).2.2.2, ← (tok_runes hb).2.2.2, this]
  · rw [h, levR_self]
theorem bytes_ext {a b : ByteArray} (h : a.data.toList = b.data.toList) : a = b := by
  cases a; cases b; congr 1; exact Array.toList_inj.1 h

set_option maxRecDepth 100000 in
set_option maxHeartbeats 8000000 in
theorem alignWays_walk (a b c : ByteArray) (w : World) (h : Okw w) (ha : a.size ≤ 1048576) (hb : b.size ≤ 1048576) (hc : c.size ≤ 1048576) :
    Calls Tryd.prog 6 #[.string a, .string b, .string c] w (RetTrue w) := by
  have AL := Lib.hid alive4_any
  unfold Alive4 at AL
  have t1 := fun (w : World) (h : Okw w) => token_any a w (by omega) h.1 h.2
  have t2 := fun (w : World) (h : Okw w) => token_any b w (by omega) h.1 h.2
  have t3 := fun (w : World) (h : Okw w) => token_any c w (by omega) h.1 h.2
  by_cases hE : tokErr a.data.toList = 0 ∧ tokErr b.data.toList = 0 ∧ tokErr c.data.toList = 0
  · obtain ⟨h1, h2, h3⟩ := hE
    have d1 := distance_any a b (by omega) (by omega)
    have d2 := distance_any b a (by omega) (by omega)
    have d3 := distance_any a c (by omega) (by omega)
    have d4 := distance_any c b (by omega) (by omega)
    unfold DistAt at d1 d2 d3 d4
    obtain ⟨f1, f2, f3, f4, f5, f6, f7, f8⟩ := dist_facts h1 h2 h3
    have l1 := tok_len h1
    have l2 := tok_len h2
    simp only [tokErr2_of h1 h2] at d1
    simp only [tokErr2_of h2 h1, f1] at d2
    simp only [tokErr2_of h1 h3] at d3
    simp only [tokErr2_of h3 h2] at d4
    simp only [h1] at t1
    simp only [h2] at t2
    simp only [h3] at t3
    clear h1 h2 h3 f1
    obtain ⟨N, hN⟩ : ∃ x, distS a.data.toList b.data.toList = x := ⟨_, rfl⟩
    obtain ⟨K, hK⟩ : ∃ x, distS a.data.toList c.data.toList = x := ⟨_, rfl⟩
    obtain ⟨L, hL⟩ : ∃ x, distS c.data.toList b.data.toList = x := ⟨_, rfl⟩
    obtain ⟨p, hp⟩ : ∃ x, (tokRunes a.data.toList).length = x := ⟨_, rfl⟩
    obtain ⟨q, hq⟩ : ∃ x, (tokRunes b.data.toList).length = x := ⟨_, rfl⟩
    obtain ⟨r, hr⟩ : ∃ x, (tokRunes c.data.toList).length = x := ⟨_, rfl⟩
    simp only [hN] at d1 d2 f2 f3 f4 f5 f6
    simp only [hK] at d3 f3 f7
    simp only [hL] at d4 f3 f8
    simp only [hp] at t1 f4 f5 f6 l1
    simp only [hq] at t2 f4 f5 f6 l2
    simp only [hr] at t3
    clear hN hK hL hp hq hr
    have T1 := Lib.hid t1; have T2 := Lib.hid t2; have T3 := Lib.hid t3
    have D1 := Lib.hid d1; have D2 := Lib.hid d2; have D3 := Lib.hid d3; have D4 := Lib.hid d4
    clear t1 t2 t3 d1 d2 d3 d4
    have F2 := Lib.hid f2; clear f2
    go_enter Tryd.func6, Tryd.ntmps6
    go_wp2_with fail
    refine (AL.out _ h).mono ?_
    rintro e w1 ⟨rfl, b1⟩
    have K1 : Hid (Okw w1) := Lib.hid (h.below b1)
    have B1 := Lib.hid b1; clear b1
    go_wp2_with fail
    refine (T1.out _ K1.out).mono ?_
    rintro e w2 ⟨A1, c1, rfl, r2, b2⟩
    have K2 : Hid (Okw w2) := Lib.hid (K1.out.below b2)
    have B2 := Lib.hid (B1.out.trans (b2.mono B1.out.size)); clear b2 r2
    go_wp2_with fail
    refine (T2.out _ K2.out).mono ?_
    rintro e w3 ⟨A2, c2, rfl, r3, b3⟩
    have K3 : Hid (Okw w3) := Lib.hid (K2.out.below b3)
    have B3 := Lib.hid (B2.out.trans (b3.mono B2.out.size)); clear b3 r3
    go_wp2_with fail
    refine (T3.out _ K3.out).mono ?_
    rintro e w4 ⟨A3, c3, rfl, r4, b4⟩
    have K4 : Hid (Okw w4) := Lib.hid (K3.out.below b4)
    have B4 := Lib.hid (B3.out.trans (b4.mono B3.out.size)); clear b4 r4
    go_wp2_with fail
    refine (D1.out _ K4.out).mono ?_
    rintro e w5 ⟨rfl, b5⟩
    have K5 : Hid (Okw w5) := Lib.hid (K4.out.below b5)
    have B5 := Lib.hid (B4.out.trans (b5.mono B4.out.size)); clear b5
    go_wp2_with fail
    refine (D2.out _ K5.out).mono ?_
    rintro e w6 ⟨rfl, b6⟩
    have K6 : Hid (Okw w6) := Lib.hid (K5.out.below b6)
    have B6 := Lib.hid (B5.out.trans (b6.mono B5.out.size)); clear b6
    go_wp2_with fail
    refine (D3.out _ K6.out).mono ?_
    rintro e w7 ⟨rfl, b7⟩
    have K7 : Hid (Okw w7) := Lib.hid (K6.out.below b7)
    have B7 := Lib.hid (B6.out.trans (b7.mono B6.out.size)); clear b7
    go_wp2_with fail
    refine (D4.out _ K7.out).mono ?_
    rintro e w8 ⟨rfl, b8⟩
    have B8 := Lib.hid (B7.out.trans (b8.mono B7.out.size)); clear b8
    clear K1 K2 K3 K4 K5 K6 K7 B1 B2 B3 B4 B5 B6 B7 T1 T2 T3 D1 D2 D3 D4 AL
    have g1 : (N : Int) ≤ (K : Int) + (L : Int) := by omega
    have g2 : (p : Int) - (q : Int) ≤ (N : Int) := by omega
    have g3 : (q : Int) - (p : Int) ≤ (N : Int) := by omega
    by_cases hab : a = b
    · subst hab
      have hn : N = 0 := F2.out.2 rfl
      subst hn
      go_wp2
      all_goals
        go_ret
        exact ⟨ret_bool (decide_eq_true (by omega)), B8.out⟩
    · have hn : N ≠ 0 := fun e => hab (bytes_ext (F2.out.1 e))
      have s1 : (a.toList == b.toList) = false := beq_eq_false_iff_ne.2 (fun e => hab (bytes_ext (by rw [← Lib.toList_data, ← Lib.toList_data]; exact e)))
      have s2 : ((N : Int) == 0) = false := beq_eq_false_iff_ne.2 (by omega)
      go_wp2
      all_goals
        go_ret
        exact ⟨ret_bool (decide_eq_true (by omega)), B8.out⟩
  · obtain ⟨ea, hea⟩ : ∃ x, tokErr a.data.toList = x := ⟨_, rfl⟩
    obtain ⟨eb, heb⟩ : ∃ x, tokErr b.data.toList = x := ⟨_, rfl⟩
    obtain ⟨ec, hec⟩ : ∃ x, tokErr c.data.toList = x := ⟨_, rfl⟩
    rw [hea, heb, hec] at hE
    simp only [hea] at t1
    simp only [heb] at t2
    simp only [hec] at t3
    obtain ⟨p, hp⟩ : ∃ x, (tokRunes a.data.toList).length = x := ⟨_, rfl⟩
    obtain ⟨q, hq⟩ : ∃ x, (tokRunes b.data.toList).length = x := ⟨_, rfl⟩
    obtain ⟨r, hr⟩ : ∃ x, (tokRunes c.data.toList).length = x := ⟨_, rfl⟩
    simp only [hp] at t1
    simp only [hq] at t2
    simp only [hr] at t3
    clear hea heb hec hp hq hr
    have T1 := Lib.hid t1; have T2 := Lib.hid t2; have T3 := Lib.hid t3
    clear t1 t2 t3
    have hcs : (ea != 0) = true ∨ ((ea != 0) = false ∧ (eb != 0) = true) ∨ ((ea != 0) = false ∧ (eb != 0) = false ∧ (ec != 0) = true) := by
      by_cases e1 : ea = 0
      · by_cases e2 : eb = 0
        · have e3 : ec ≠ 0 := fun e3 => hE ⟨e1, e2, e3⟩
          exact .inr (.inr ⟨by simp [e1], by simp [e2], by simpa using e3⟩)
        · exact .inr (.inl ⟨by simp [e1], by simpa using e2⟩)
      · exact .inl (by simpa using e1)
    clear hE
    rcases hcs with z1 | ⟨z1, z2⟩ | ⟨z1, z2, z3⟩
    all_goals
      go_enter Tryd.func6, Tryd.ntmps6
      go_wp2_with fail
      refine (AL.out _ h).mono ?_
      rintro e w1 ⟨rfl, b1⟩
      have K1 : Hid (Okw w1) := Lib.hid (h.below b1)
      have B1 := Lib.hid b1; clear b1
      go_wp2_with fail
      refine (T1.out _ K1.out).mono ?_
      rintro e w2 ⟨A1, c1, rfl, r2, b2⟩
      have K2 : Hid (Okw w2) := Lib.hid (K1.out.below b2)
      have B2 := Lib.hid (B1.out.trans (b2.mono B1.out.size)); clear b2 r2
      go_wp2_with fail
      refine (T2.out _ K2.out).mono ?_
      rintro e w3 ⟨A2, c2, rfl, r3, b3⟩
      have K3 : Hid (Okw w3) := Lib.hid (K2.out.below b3)
      have B3 := Lib.hid (B2.out.trans (b3.mono B2.out.size)); clear b3 r3
      go_wp2_with fail
      refine (T3.out _ K3.out).mono ?_
      rintro e w4 ⟨A3, c3, rfl, r4, b4⟩
      have B4 := Lib.hid (B3.out.trans (b4.mono B3.out.size)); clear b4 r4
      go_wp2
      go_ret
      exact ⟨rfl, B4.out⟩
end Go.Proofs.YthigbnklekdemaaDoor
