/- The law AlignEnds, walked. -/
import Derived.Test.YthigbnklekdemaaDoorAEndsP
namespace Go.Proofs.YthigbnklekdemaaDoor
open Go.RowKit Go.Shelf

set_option maxRecDepth 100000 in
set_option maxHeartbeats 8000000 in
theorem alignEnds_small (a b d : ByteArray) (w : World) (h : Okw w) (hS : a.size + d.size ≤ 200) (hS2 : b.size + d.size ≤ 200) :
    Calls Tryd.prog 7 #[.string a, .string b, .string d] w (RetTrue w) := by
  have AL := Lib.hid alive4_any
  unfold Alive4 at AL
  have m1 : ¬ (200 : Int) < (a.size : Int) + (d.size : Int) := by omega
  have m2 : ¬ (200 : Int) < (b.size : Int) + (d.size : Int) := by omega
  have c1 := steps_any a b (by omega) (by omega)
  have c2 := steps_any (a ++ d) (b ++ d) (by rw [app_size]; omega) (by rw [app_size]; omega)
  have c3 := fun (w : World) (h : Okw w) => decode_runs d w (by omega) h.1 h.2
  have c4 := distance_any (a ++ ⟨#[120]⟩) b (by rw [app_size]; show (a.size + 1) * 4 ≤ _; omega) (by omega)
  unfold StepsAt at c1 c2
  unfold DistAt at c4
  simp only [app_toList] at c2 c4
  have hst : ∀ l : List St, ∀ v w, StRuns w v l → ∃ A c, v = .slice A l.length c := fun l v w h => by obtain ⟨A, c, e, _⟩ := h; exact ⟨A, c, e⟩
  have HST := Lib.hid hst; clear hst
  by_cases hE : tokErr2 a.data.toList b.data.toList = 0 ∧ tokErr2 (a.data.toList ++ d.data.toList) (b.data.toList ++ d.data.toList) = 0 ∧ decErr d.data.toList = 0
  · obtain ⟨h1, h2, h3⟩ := hE
    simp only [h1] at c1
    simp only [h2, ends_steps h1 h2] at c2
    simp only [h3] at c3
    have hv : Lib.validD d.data.toList = true := by
      cases hv : Lib.validD d.data.toList with
      | true => rfl
      | false => rw [decErr, hv] at h3; cases h3
    have hdr : decRunes d.data.toList = items d.data.toList := by rw [decRunes, hv]; rfl
    simp only [hdr] at c3
    obtain ⟨_, _, _, f4, _, f6, _⟩ := steps_facts _ _ h1
    have hEl := items_le d.data.toList
    rw [← Lib.size_eq] at hEl
    have hom : tokErr2 (a.data.toList ++ [120]) b.data.toList = 0 → distS (a.data.toList ++ [120]) b.data.toList ≤ distS a.data.toList b.data.toList + 1 ∧ distS a.data.toList b.data.toList ≤ distS (a.data.toList ++ [120]) b.data.toList + 1 := one_more h1
    have hfin : tokErr2 (a.data.toList ++ [120]) b.data.toList = 0 → stC (stepsS a.data.toList b.data.toList) = distS a.data.toList b.data.toList := fun _ => f4
    obtain ⟨e4, he4⟩ : ∃ x, tokErr2 (a.data.toList ++ [120]) b.data.toList = x := ⟨_, rfl⟩
    obtain ⟨n4, hn4⟩ : ∃ x, distS (a.data.toList ++ [120]) b.data.toList = x := ⟨_, rfl⟩
    obtain ⟨X, hX⟩ : ∃ X, stepsS a.data.toList b.data.toList = X := ⟨_, rfl⟩
    obtain ⟨E, hEE⟩ : ∃ E, items d.data.toList = E := ⟨_, rfl⟩
    simp only [he4, hn4] at c4 hom
    rw [← f4] at hom
    simp only [hX] at c1 c2 hom f6
    simp only [hEE] at c2 c3 hEl
    clear he4 hn4 hX hEE f4 hfin h1 h2 h3 hv hdr
    have k1 := fun (w : World) (u : Value) (hu : StRuns w u X) => cost_any u X w hu
    have k2 := fun (w : World) (u : Value) (hu : StRuns w u (X ++ E.map matchOf)) => cost_any u (X ++ E.map matchOf) w hu
    have hc2 : stC (X ++ E.map matchOf) = stC X := by rw [stC_append, stC_matches, Nat.add_zero]
    simp only [hc2] at k2
    have hcl := stC_len X
    obtain ⟨m, hm⟩ : ∃ x, stC X = x := ⟨_, rfl⟩
    simp only [hm] at k1 k2 hom hcl
    have HAT := Lib.hid (ends_at X E)
    have hYl : (X ++ E.map matchOf).length = X.length + E.length := by simp
    obtain ⟨Y, hY⟩ : ∃ Y, X ++ E.map matchOf = Y := ⟨_, rfl⟩
    rw [hY] at hYl
    simp only [hY] at c2 k2 HAT
    obtain ⟨yn, hyn⟩ : ∃ x, Y.length = x := ⟨_, rfl⟩
    obtain ⟨en, hen⟩ : ∃ x, E.length = x := ⟨_, rfl⟩
    obtain ⟨xn, hxn⟩ : ∃ x, X.length = x := ⟨_, rfl⟩
    rw [hyn, hen, hxn] at hYl
    rw [hen] at hEl
    simp only [hyn, hen] at HAT
    simp only [hen] at c3
    rw [hxn] at hcl f6
    have HYN := Lib.hid hyn; have HEN := Lib.hid hen; have HXN := Lib.hid hxn
    have C1 := Lib.hid c1; have C2 := Lib.hid c2; have C3 := Lib.hid c3; have C4 := Lib.hid c4; have K1' := Lib.hid k1; have K2' := Lib.hid k2
    have HOM := Lib.hid hom
    clear c1 c2 c3 c4 k1 k2 hom hc2 hm hY hyn hen hxn
    have hylen : en ≤ yn := by omega
    have hyb : yn ≤ 1000 := by omega
    have HYL := Lib.hid hYl; clear hYl
    have g1 : ¬ (yn : Int) < (en : Int) := by omega
    have g1' : decide ((yn : Int) < (en : Int)) = false := by simpa using hylen
    have g1'' : decide (yn < en) = false := by simpa using hylen
    go_enter Tryd.func7, Tryd.ntmps7
    go_wp2_with fail
    refine (AL.out _ h).mono ?_
    rintro e w1 ⟨rfl, b1⟩
    have O1 : Hid (Okw w1) := Lib.hid (h.below b1)
    have B1 := Lib.hid b1; clear b1
    go_wp2_with fail
    refine (C1.out _ O1.out).mono ?_
    rintro e w2 ⟨vx, rfl, r2, b2⟩
    obtain ⟨Ax, cx, rfl⟩ := HST.out _ _ _ r2
    rw [HXN.out] at r2 ⊢
    have O2 : Hid (Okw w2) := Lib.hid (O1.out.below b2)
    have X2 := Lib.hid r2; clear r2
    have B2 := Lib.hid (B1.out.trans (b2.mono B1.out.size)); clear b2
    go_wp2_with fail
    refine (C2.out _ O2.out).mono ?_
    rintro e w3 ⟨vy, rfl, r3, b3⟩
    obtain ⟨Ay, cy, rfl⟩ := HST.out _ _ _ r3
    rw [HYN.out] at r3 ⊢
    have O3 : Hid (Okw w3) := Lib.hid (O2.out.below b3)
    have X3 := Lib.hid (X2.out.below b3)
    have Y3 := Lib.hid r3; clear r3
    have B3 := Lib.hid (B2.out.trans (b3.mono B2.out.size)); clear b3
    go_wp2_with fail
    refine (C3.out _ O3.out).mono ?_
    rintro e w4 ⟨Al, cl, rfl, r4, b4⟩
    have O4 : Hid (Okw w4) := Lib.hid (O3.out.below b4)
    have X4 := Lib.hid (X3.out.below b4)
    have Y4 := Lib.hid (Y3.out.below b4)
    have E4 := Lib.hid r4; clear r4
    have B4 := Lib.hid (B3.out.trans (b4.mono B3.out.size)); clear b4
    go_wp2_with fail
    refine (K1'.out _ _ X4.out).mono ?_
    rintro e w5 ⟨rfl, b5⟩
    have O5 : Hid (Okw w5) := Lib.hid (O4.out.below b5)
    have X5 := Lib.hid (X4.out.below b5)
    have Y5 := Lib.hid (Y4.out.below b5)
    have E5 := Lib.hid (E4.out.below b5)
    have B5 := Lib.hid (B4.out.trans (b5.mono B4.out.size)); clear b5
    go_wp2_with fail
    refine (K2'.out _ _ Y5.out).mono ?_
    rintro e w6 ⟨rfl, b6⟩
    have O6 : Hid (Okw w6) := Lib.hid (O5.out.below b6)
    have X6 := Lib.hid (X5.out.below b6)
    have Y6 := Lib.hid (Y5.out.below b6)
    have E6 := Lib.hid (E5.out.below b6)
    have B6 := Lib.hid (B5.out.trans (b6.mono B5.out.size)); clear b6
    clear O1 O2 O3 O4 O5 X2 X3 X4 X5 Y3 Y4 Y5 E4 E5 B1 B2 B3 B4 B5 AL C1 C2 C3 K2'
    go_wp2
    go_loopg [79] en (fun g s79 wr => ∃ i : Nat, s79 = .int .i64 i ∧ i ≤ en ∧ en - i ≤ g ∧ Hid (Below w6.heap.size w6 wr))
    case atStart => exact ⟨0, rfl, by omega, by omega, Lib.hid (Below.refl _ _)⟩
    case round =>
      obtain ⟨i, rfl, hi, hg, HB⟩ := hrel
      by_cases hlt : i < en
      · have hlt' : (i : Int) < (en : Int) := by omega
        obtain ⟨j, hj⟩ : ∃ j : Nat, (yn : Int) - 1 - (i : Int) = (j : Int) := ⟨yn - 1 - i, by omega⟩
        obtain ⟨k, hk⟩ : ∃ k : Nat, (en : Int) - 1 - (i : Int) = (k : Int) := ⟨en - 1 - i, by omega⟩
        have hjy : j < yn := by omega
        have hke : k < en := by omega
        have hat := HAT.out i hlt
        rw [show yn - 1 - i = j by omega, show en - 1 - i = k by omega] at hat
        obtain ⟨by1, oy, rfl, hby, hcy⟩ : ∃ b o, Ay = some ⟨b, o, none⟩ ∧ b < wr.heap.size ∧ ∀ j, j < yn → wr.cell? ⟨b, o + j * 3, none⟩ = some (.int .i64 (Y.getD j (0, 0, 0)).1) ∧ wr.cell? ⟨b, o + j * 3 + 1, none⟩ = some (.int .i32 (Y.getD j (0, 0, 0)).2.1) ∧ wr.cell? ⟨b, o + j * 3 + 2, none⟩ = some (.int .i32 (Y.getD j (0, 0, 0)).2.2) := by
          obtain ⟨A', c', e, _, _, hx⟩ := Y6.out.below HB.out
          rw [HYN.out] at e hx
          obtain ⟨rfl, _, rfl⟩ := Value.slice.inj e
          exact hx (by omega)
        obtain ⟨be, oe, rfl, hbe, hce⟩ : ∃ b o, Al = some ⟨b, o, none⟩ ∧ b < wr.heap.size ∧ ∀ k, k < en → wr.cell? ⟨b, o + k, none⟩ = some (.int .i32 (E.getD k 0)) := by
          obtain ⟨A', c', e, _, _, hx⟩ := E6.out.below HB.out
          rw [HEN.out] at e hx
          obtain ⟨rfl, _, rfl⟩ := Value.slice.inj e
          exact hx (by omega)
        obtain ⟨f0, f1, f2⟩ := hcy j hjy
        have f3 := hce k hke
        rw [hat] at f0 f1 f2
        simp only at f0 f1 f2
        obtain ⟨r, hr⟩ : ∃ r, E.getD k 0 = r := ⟨_, rfl⟩
        rw [hr] at f1 f2 f3
        clear hcy hce hat hr
        have hal : Hid (Below wr.heap.size wr (wr.alloc (.cells #[.int .i64 0, .int .i32 r, .int .i32 r] 42))) := Lib.hid ((Below.refl _ _).alloc (Nat.le_refl _) _)
        have f4 := (hal.out.cell (p := ⟨be, oe + k, none⟩) hbe).trans f3
        have i1 : (j : Int) < (yn : Int) := by omega
        have i2 : (k : Int) < (en : Int) := by omega
        have q1 : IntKind.i64.wrap ((en : Int) - 1) = (en : Int) - 1 := by rw [IntKind.wrap_i64]; omega
        have q2 : IntKind.i64.wrap (k : Int) = (k : Int) := by rw [IntKind.wrap_i64]; omega
        go_wp2
        go_quiet (fail)
        go_wp2
        go_roundg (en - (i + 1))
        case measure => omega
        case rel => exact ⟨i + 1, rfl, by omega, by omega, Lib.hid (below_draws (HB.out.trans (hal.out.mono HB.out.size)) _)⟩
      · obtain rfl : i = en := by omega
        have Or : Hid (Okw wr) := Lib.hid (O6.out.below HB.out)
        have Xr := Lib.hid (X6.out.below HB.out)
        have Br := Lib.hid (B6.out.trans (HB.out.mono B6.out.size))
        clear O6 X6 Y6 E6 B6 HB HAT
        go_wp2_with fail
        refine (C4.out _ Or.out).mono ?_
        rintro e w7 ⟨rfl, b7⟩
        have X7 := Lib.hid (Xr.out.below b7)
        have B7 := Lib.hid (Br.out.trans (b7.mono Br.out.size)); clear b7
        go_wp2_with fail
        refine (K1'.out _ _ X7.out).mono ?_
        rintro e w8 ⟨rfl, b8⟩
        have B8 := Lib.hid (B7.out.trans (b8.mono B7.out.size)); clear b8
        by_cases he : e4 = 0
        · obtain ⟨z1, z2⟩ := HOM.out he
          subst he
          have y1 : (m : Int) - 1 ≤ (n4 : Int) := by omega
          have y2 : (n4 : Int) ≤ (m : Int) + 1 := by omega
          go_wp2
          go_ret
          exact ⟨ret_bool (by first | rfl | exact decide_eq_true (by omega)), B8.out⟩
        · have y1 : (e4 != 0) = true := bne_iff_ne.2 he
          go_wp2
          go_ret
          exact ⟨rfl, B8.out⟩
  · obtain ⟨ea, hea⟩ : ∃ x, tokErr2 a.data.toList b.data.toList = x := ⟨_, rfl⟩
    obtain ⟨eb, heb⟩ : ∃ x, tokErr2 (a.data.toList ++ d.data.toList) (b.data.toList ++ d.data.toList) = x := ⟨_, rfl⟩
    obtain ⟨ec, hec⟩ : ∃ x, decErr d.data.toList = x := ⟨_, rfl⟩
    rw [hea, heb, hec] at hE
    simp only [hea] at c1
    simp only [heb] at c2
    simp only [hec] at c3
    obtain ⟨X, hX⟩ : ∃ X, stepsS a.data.toList b.data.toList = X := ⟨_, rfl⟩
    obtain ⟨Y, hY⟩ : ∃ X, stepsS (a.data.toList ++ d.data.toList) (b.data.toList ++ d.data.toList) = X := ⟨_, rfl⟩
    obtain ⟨en, hen⟩ : ∃ X, (decRunes d.data.toList).length = X := ⟨_, rfl⟩
    simp only [hX] at c1
    simp only [hY] at c2
    simp only [hen] at c3
    clear hea heb hec hX hY hen c4
    have C1 := Lib.hid c1; have C2 := Lib.hid c2; have C3 := Lib.hid c3
    clear c1 c2 c3
    have hcs : (ea != 0) = true ∨ ((ea != 0) = false ∧ (eb != 0) = true) ∨ ((ea != 0) = false ∧ (eb != 0) = false ∧ (ec != 0) = true) := by
      by_cases e1 : ea = 0
      · by_cases e2 : eb = 0
        · have e3 : ec ≠ 0 := fun e3 => hE ⟨e1, e2, e3⟩
          exact .inr (.inr ⟨by simp [e1], by simp [e2], by simpa using e3⟩)
        · exact .inr (.inl ⟨by simp [e1], by simpa using e2⟩)
      · exact .inl (by simpa using e1)
    clear hE
    rcases hcs with z1 | ⟨z1, z2⟩ | ⟨z1, z2, z3⟩
    all_goals
      go_enter Tryd.func7, Tryd.ntmps7
      go_wp2_with fail
      refine (AL.out _ h).mono ?_
      rintro e w1 ⟨rfl, b1⟩
      have O1 : Hid (Okw w1) := Lib.hid (h.below b1)
      have B1 := Lib.hid b1; clear b1
      go_wp2_with fail
      refine (C1.out _ O1.out).mono ?_
      rintro e w2 ⟨vx, rfl, r2, b2⟩
      obtain ⟨Ax, cx, rfl⟩ := HST.out _ _ _ r2
      have O2 : Hid (Okw w2) := Lib.hid (O1.out.below b2)
      have B2 := Lib.hid (B1.out.trans (b2.mono B1.out.size)); clear b2 r2
      go_wp2_with fail
      refine (C2.out _ O2.out).mono ?_
      rintro e w3 ⟨vy, rfl, r3, b3⟩
      obtain ⟨Ay, cy, rfl⟩ := HST.out _ _ _ r3
      have O3 : Hid (Okw w3) := Lib.hid (O2.out.below b3)
      have B3 := Lib.hid (B2.out.trans (b3.mono B2.out.size)); clear b3 r3
      go_wp2_with fail
      refine (C3.out _ O3.out).mono ?_
      rintro e w4 ⟨Al, cl, rfl, r4, b4⟩
      have B4 := Lib.hid (B3.out.trans (b4.mono B3.out.size)); clear b4 r4
      go_wp2
      go_ret
      exact ⟨rfl, B4.out⟩

set_option maxRecDepth 100000 in
set_option maxHeartbeats 4000000 in
theorem alignEnds_walk (a b d : ByteArray) (w : World) (h : Okw w) (ha : a.size ≤ 140737488351232) (hb : b.size ≤ 140737488351232) (hd : d.size ≤ 140737488351232) :
    Calls Tryd.prog 7 #[.string a, .string b, .string d] w (RetTrue w) := by
  by_cases hS : a.size + d.size ≤ 200
  · by_cases hS2 : b.size + d.size ≤ 200
    · exact alignEnds_small a b d w h hS hS2
    · have AL := Lib.hid alive4_any
      unfold Alive4 at AL
      have m1 : ¬ (200 : Int) < (a.size : Int) + (d.size : Int) := by omega
      have m2 : (200 : Int) < (b.size : Int) + (d.size : Int) := by omega
      go_enter Tryd.func7, Tryd.ntmps7
      go_wp2_with fail
      refine (AL.out _ h).mono ?_
      rintro e w1 ⟨rfl, b1⟩
      have B1 := Lib.hid b1; clear b1
      go_wp2
      go_ret
      exact ⟨rfl, B1.out⟩
  · have AL := Lib.hid alive4_any
    unfold Alive4 at AL
    have m1 : (200 : Int) < (a.size : Int) + (d.size : Int) := by omega
    go_enter Tryd.func7, Tryd.ntmps7
    go_wp2_with fail
    refine (AL.out _ h).mono ?_
    rintro e w1 ⟨rfl, b1⟩
    have B1 := Lib.hid b1; clear b1
    go_wp2
    go_ret
    exact ⟨rfl, B1.out⟩
end Go.Proofs.YthigbnklekdemaaDoor
