/- The law AlignPrefers, walked. -/
import Derived.Test.YthigbnklekdemaaDoorABackP
namespace Go.Proofs.YthigbnklekdemaaDoor
open Go.RowKit Go.Shelf

theorem pref_last (x y : List Int) (hx : 0 < x.length) (hy : 0 < y.length) (h : x.getD (x.length - 1) 0 = y.getD (y.length - 1) 0) :
    ((pathR x.reverse y.reverse).reverse.getD ((pathR x.reverse y.reverse).reverse.length - 1) (0, 0, 0)).1 = 0 := by
  have ex := rev_take x (x.length - 1) (by omega)
  have ey := rev_take y (y.length - 1) (by omega)
  rw [show x.length - 1 + 1 = x.length by omega, List.take_length] at ex
  rw [show y.length - 1 + 1 = y.length by omega, List.take_length] at ey
  rw [ex, ey, ← h, pathR_same, List.reverse_cons, List.length_append]
  simp [List.getD_eq_getElem?_getD]
theorem pref_flat (x y : List Int) (hl : x.length = y.length) (hc : levR x.reverse y.reverse ≤ 1) :
    (pathR x.reverse y.reverse).reverse.length = x.length ∧ ∀ i, i < x.length → ∃ k, (pathR x.reverse y.reverse).reverse.getD i (0, 0, 0) = (k, x.getD i 0, y.getD i 0) ∧ (k = 0 ∨ k = 1) := by
  obtain ⟨h1, h2⟩ := pathR_flat x.reverse y.reverse (by simp [hl]) hc
  rw [List.length_reverse] at h1 h2
  refine ⟨by rw [List.length_reverse, h1], fun i hi => ?_⟩
  obtain ⟨k, e, hk⟩ := h2 (x.length - 1 - i) (by omega)
  refine ⟨k, ?_, hk⟩
  rw [List.getD_eq_getElem?_getD, List.getElem?_reverse (by rw [h1]; exact hi), h1, e]
  have hx' : x.reverse.getD (x.length - 1 - i) 0 = x.getD i 0 := by
    rw [List.getD_eq_getElem?_getD, List.getElem?_reverse (by omega), show x.length - 1 - (x.length - 1 - i) = i by omega, List.getD_eq_getElem?_getD]
  have hy' : y.reverse.getD (x.length - 1 - i) 0 = y.getD i 0 := by
    rw [List.getD_eq_getElem?_getD, List.getElem?_reverse (by omega), show y.length - 1 - (x.length - 1 - i) = i by omega, List.getD_eq_getElem?_getD]
  rw [hx', hy']
  rfl

set_option maxRecDepth 100000 in
set_option maxHeartbeats 8000000 in
theorem alignPrefers_walk (a b : ByteArray) (w : World) (h : Okw w) (ha : a.size ≤ 1048576) (hb : b.size ≤ 1048576) :
    Calls Tryd.prog 8 #[.string a, .string b] w (RetTrue w) := by
  have AL := Lib.hid alive4_any
  unfold Alive4 at AL
  have t1 := fun (w : World) (h : Okw w) => token_any a w (by omega) h.1 h.2
  have t2 := fun (w : World) (h : Okw w) => token_any b w (by omega) h.1 h.2
  by_cases hE : tokErr a.data.toList = 0 ∧ tokErr b.data.toList = 0
  · obtain ⟨h1, h2⟩ := hE
    have hT := tokErr2_of h1 h2
    have c1 := steps_any a b (by omega) (by omega)
    unfold StepsAt at c1
    obtain ⟨_, _, _, f4, _, f6, f7⟩ := steps_facts _ _ hT
    have hLe : stepsS a.data.toList b.data.toList = (pathR (tokRunes a.data.toList).reverse (tokRunes b.data.toList).reverse).reverse := by rw [stepsS, if_pos hT]
    have hDe : distS a.data.toList b.data.toList = levR (tokRunes a.data.toList).reverse (tokRunes b.data.toList).reverse := by rw [distS, if_pos hT]
    obtain ⟨lx, px⟩ := tok_len h1
    obtain ⟨ly, py⟩ := tok_len h2
    have hlast := pref_last _ _ px py
    have hflat := pref_flat (tokRunes a.data.toList) (tokRunes b.data.toList)
    rw [← hDe, ← f4] at hflat
    rw [← hLe] at hlast hflat
    simp only [hT] at c1
    simp only [h1] at t1
    simp only [h2] at t2
    obtain ⟨L, hL⟩ : ∃ L, stepsS a.data.toList b.data.toList = L := ⟨_, rfl⟩
    obtain ⟨x, hx⟩ : ∃ L, tokRunes a.data.toList = L := ⟨_, rfl⟩
    obtain ⟨y, hy⟩ : ∃ L, tokRunes b.data.toList = L := ⟨_, rfl⟩
    simp only [hL] at c1 hlast hflat f6 f7
    simp only [hx] at t1 hlast hflat lx px
    simp only [hy] at t2 hlast hflat ly py
    clear hLe hDe hL hx hy h1 h2 hT f4
    have k1 := fun (w : World) (u : Value) (hu : StRuns w u L) => cost_any u L w hu
    have hst : ∀ l : List St, ∀ v w, StRuns w v l → ∃ A c, v = .slice A l.length c := fun l v w h => by obtain ⟨A, c, e, _⟩ := h; exact ⟨A, c, e⟩
    have HST := Lib.hid hst; clear hst
    have hcl := stC_len L
    obtain ⟨m, hm⟩ : ∃ x, stC L = x := ⟨_, rfl⟩
    obtain ⟨n, hn⟩ : ∃ x, L.length = x := ⟨_, rfl⟩
    obtain ⟨p, hp⟩ : ∃ z, x.length = z := ⟨_, rfl⟩
    obtain ⟨q, hq⟩ : ∃ z, y.length = z := ⟨_, rfl⟩
    simp only [hm] at k1 hflat hcl
    simp only [hn] at hlast hflat f6 f7 hcl
    simp only [hp] at t1 hlast hflat lx px
    simp only [hq] at t2 hlast hflat ly py
    have HN := Lib.hid hn; have HP := Lib.hid hp; have HQ := Lib.hid hq
    have T1 := Lib.hid t1; have T2 := Lib.hid t2; have C1 := Lib.hid c1; have K1' := Lib.hid k1
    have HLA := Lib.hid hlast; have HFL := Lib.hid hflat
    clear t1 t2 c1 k1 hlast hflat hm hn hp hq
    have n0 : ((n : Int) == 0) = false := beq_eq_false_iff_ne.2 (by omega)
    have n0' : ¬ (n : Int) = 0 := by omega
    obtain ⟨n', hn'⟩ : ∃ z : Nat, (n : Int) - 1 = (z : Int) := ⟨n - 1, by omega⟩
    obtain ⟨p', hp'⟩ : ∃ z : Nat, (p : Int) - 1 = (z : Int) := ⟨p - 1, by omega⟩
    obtain ⟨q', hq'⟩ : ∃ z : Nat, (q : Int) - 1 = (z : Int) := ⟨q - 1, by omega⟩
    go_enter Tryd.func8, Tryd.ntmps8
    go_wp2_with fail
    refine (AL.out _ h).mono ?_
    rintro e w1 ⟨rfl, b1⟩
    have O1 : Hid (Okw w1) := Lib.hid (h.below b1)
    have B1 := Lib.hid b1; clear b1
    go_wp2_with fail
    refine (T1.out _ O1.out).mono ?_
    rintro e w2 ⟨Ax, cx, rfl, r2, b2⟩
    have O2 : Hid (Okw w2) := Lib.hid (O1.out.below b2)
    have X2 := Lib.hid r2; clear r2
    have B2 := Lib.hid (B1.out.trans (b2.mono B1.out.size)); clear b2
    go_wp2_with fail
    refine (T2.out _ O2.out).mono ?_
    rintro e w3 ⟨Ay, cy, rfl, r3, b3⟩
    have O3 : Hid (Okw w3) := Lib.hid (O2.out.below b3)
    have X3 := Lib.hid (X2.out.below b3)
    have Y3 := Lib.hid r3; clear r3
    have B3 := Lib.hid (B2.out.trans (b3.mono B2.out.size)); clear b3
    go_wp2_with fail
    refine (C1.out _ O3.out).mono ?_
    rintro e w4 ⟨vl, rfl, r4, b4⟩
    obtain ⟨Al, cl, rfl⟩ := HST.out _ _ _ r4
    rw [HN.out] at r4 ⊢
    have X4 := Lib.hid (X3.out.below b4)
    have Y4 := Lib.hid (Y3.out.below b4)
    have L4 := Lib.hid r4; clear r4
    have B4 := Lib.hid (B3.out.trans (b4.mono B3.out.size)); clear b4
    clear O1 O2 O3 X2 X3 Y3 B1 B2 B3 AL C1 T1 T2
    obtain ⟨bx, ox, rfl, hbx, hcx⟩ : ∃ b o, Ax = some ⟨b, o, none⟩ ∧ b < w4.heap.size ∧ ∀ k, k < p → w4.cell? ⟨b, o + k, none⟩ = some (.int .i32 (x.getD k 0)) := by
      obtain ⟨A', c', e, _, _, hx⟩ := X4.out
      rw [HP.out] at e hx
      obtain ⟨rfl, _, rfl⟩ := Value.slice.inj e
      exact hx (by omega)
    obtain ⟨bY, oy, rfl, hby, hcy⟩ : ∃ b o, Ay = some ⟨b, o, none⟩ ∧ b < w4.heap.size ∧ ∀ k, k < q → w4.cell? ⟨b, o + k, none⟩ = some (.int .i32 (y.getD k 0)) := by
      obtain ⟨A', c', e, _, _, hx⟩ := Y4.out
      rw [HQ.out] at e hx
      obtain ⟨rfl, _, rfl⟩ := Value.slice.inj e
      exact hx (by omega)
    obtain ⟨bl, ol, rfl, hbl, hcl2⟩ : ∃ b o, Al = some ⟨b, o, none⟩ ∧ b < w4.heap.size ∧ ∀ j, j < n → w4.cell? ⟨b, o + j * 3, none⟩ = some (.int .i64 (L.getD j (0, 0, 0)).1) ∧ w4.cell? ⟨b, o + j * 3 + 1, none⟩ = some (.int .i32 (L.getD j (0, 0, 0)).2.1) ∧ w4.cell? ⟨b, o + j * 3 + 2, none⟩ = some (.int .i32 (L.getD j (0, 0, 0)).2.2) := by
      obtain ⟨A', c', e, _, _, hx⟩ := L4.out
      rw [HN.out] at e hx
      obtain ⟨rfl, _, rfl⟩ := Value.slice.inj e
      exact hx (by omega)
    have x1 := hcx p' (by omega)
    have y1 := hcy q' (by omega)
    have z1 := (hcl2 n' (by omega)).1
    have hla := HLA.out
    rw [show p - 1 = p' by omega, show q - 1 = q' by omega, show n - 1 = n' by omega] at hla
    have HCX := Lib.hid hcx; have HCY := Lib.hid hcy; have HCL := Lib.hid hcl2
    obtain ⟨rx, hrx⟩ : ∃ z, x.getD p' 0 = z := ⟨_, rfl⟩
    obtain ⟨ry, hry⟩ : ∃ z, y.getD q' 0 = z := ⟨_, rfl⟩
    obtain ⟨kl, hkl⟩ : ∃ z, (L.getD n' (0, 0, 0)).1 = z := ⟨_, rfl⟩
    rw [hrx] at x1 hla
    rw [hry] at y1 hla
    rw [hkl] at z1 hla
    have HLA2 := Lib.hid hla
    clear hcx hcy hcl2 hla HLA hrx hry hkl
    have i1 : (p' : Int) < (p : Int) := by omega
    have i2 : (q' : Int) < (q : Int) := by omega
    have i3 : (n' : Int) < (n : Int) := by omega
    have q1 : IntKind.i64.wrap (p' : Int) = (p' : Int) := by rw [IntKind.wrap_i64]; omega
    have q2 : IntKind.i64.wrap (q' : Int) = (q' : Int) := by rw [IntKind.wrap_i64]; omega
    have q3 : IntKind.i64.wrap (n' : Int) = (n' : Int) := by rw [IntKind.wrap_i64]; omega
    have hcs : (rx = ry ∧ kl = 0) ∨ (rx == ry) = false := by
      by_cases hr : rx = ry
      · exact .inl ⟨hr, HLA2.out hr⟩
      · exact .inr (beq_eq_false_iff_ne.2 hr)
    clear HLA2
    by_cases hpq : p = q
    · subst hpq
      obtain rfl : p' = q' := by omega
      clear hq' q2 i2
      rcases hcs with ⟨rfl, rfl⟩ | hr
      all_goals
        go_wp2
        go_quiet (fail)
        go_wp2_with fail
        obtain ⟨w5, hw5⟩ : ∃ w5, w5 = w4.drewN nq := ⟨_, rfl⟩
        have b45 : Below w4.heap.size w4 w5 := by rw [hw5]; exact below_draws (Below.refl _ _) _
        rw [← hw5]
        clear hw5
        have L5 := Lib.hid (L4.out.below b45)
        refine (K1'.out _ _ L5.out).mono ?_
        rintro e w6 ⟨rfl, b6⟩
        have BB : Hid (Below w4.heap.size w4 w6) := Lib.hid (b45.trans (b6.mono b45.size))
        have B6 := Lib.hid (B4.out.trans (BB.out.mono B4.out.size)); clear b6 b45
        by_cases hm1 : 1 < m
        · have g1 : (1 : Int) < (m : Int) := by omega
          go_wp2
          go_ret
          exact ⟨rfl, B6.out⟩
        · have g1 : ¬ (1 : Int) < (m : Int) := by omega
          obtain ⟨fn, hfl⟩ := HFL.out (by trivial) (by omega)
          have HF := Lib.hid hfl; clear hfl
          subst fn
          go_wp2
          go_loopg [79] n (fun g s79 wr => ∃ i : Nat, s79 = .int .i64 i ∧ i ≤ n ∧ n - i ≤ g ∧ Hid (Below w6.heap.size w6 wr))
          case atStart => exact ⟨0, rfl, by omega, by omega, Lib.hid (Below.refl _ _)⟩
          case round =>
            obtain ⟨i, rfl, hi, hg, HB⟩ := hrel
            by_cases hlt : i < n
            · have hlt' : (i : Int) < (n : Int) := by omega
              have b4r : Below w4.heap.size w4 wr := BB.out.trans (HB.out.mono BB.out.size)
              obtain ⟨k, hk, hk2⟩ := HF.out i hlt
              obtain ⟨f0, f1, f2⟩ := HCL.out i hlt
              rw [hk] at f0 f1 f2
              simp only at f0 f1 f2
              have g0 := (b4r.cell (p := ⟨bl, ol + i * 3, none⟩) hbl).trans f0
              have g2 := (b4r.cell (p := ⟨bl, ol + i * 3 + 1, none⟩) hbl).trans f1
              have g3 := (b4r.cell (p := ⟨bl, ol + i * 3 + 2, none⟩) hbl).trans f2
              have g4 := (b4r.cell (p := ⟨bx, ox + i, none⟩) hbx).trans (HCX.out i hlt)
              have g5 := (b4r.cell (p := ⟨bY, oy + i, none⟩) hby).trans (HCY.out i hlt)
              have lx1 : bx < wr.heap.size := Nat.lt_of_lt_of_le hbx b4r.size
              have ly1 : bY < wr.heap.size := Nat.lt_of_lt_of_le hby b4r.size
              obtain ⟨ra, hra⟩ : ∃ z, x.getD i 0 = z := ⟨_, rfl⟩
              obtain ⟨rb, hrb⟩ : ∃ z, y.getD i 0 = z := ⟨_, rfl⟩
              rw [hra] at g2 g4
              rw [hrb] at g3 g5
              clear f0 f1 f2 hk hra hrb b4r
              have hal : Hid (Below wr.heap.size wr (wr.alloc (.cells #[.int .i64 k, .int .i32 ra, .int .i32 rb] 42))) := Lib.hid ((Below.refl _ _).alloc (Nat.le_refl _) _)
              have g6 := (hal.out.cell (p := ⟨bx, ox + i, none⟩) lx1).trans g4
              have g7 := (hal.out.cell (p := ⟨bY, oy + i, none⟩) ly1).trans g5
              rcases hk2 with rfl | rfl
              all_goals
                go_wp2
                go_quiet (fail)
                go_wp2
                go_roundg (n - (i + 1))
                case measure => omega
                case rel => exact ⟨i + 1, rfl, by omega, by omega, Lib.hid (below_draws (HB.out.trans (hal.out.mono HB.out.size)) _)⟩
            · obtain rfl : i = n := by omega
              go_wp2
              go_ret
              exact ⟨rfl, B6.out.trans (HB.out.mono B6.out.size)⟩
    · have u1 : ((p : Int) != (q : Int)) = true := bne_iff_ne.2 (by omega)
      have u2 : (p != q) = true := bne_iff_ne.2 hpq
      have u3 : ¬ (p : Int) = (q : Int) := by omega
      rcases hcs with ⟨rfl, rfl⟩ | hr
      all_goals
        go_wp2
        go_quiet (fail)
        go_wp2
        go_ret
        exact ⟨rfl, below_draws B4.out _⟩
  · obtain ⟨ea, hea⟩ : ∃ x, tokErr a.data.toList = x := ⟨_, rfl⟩
    obtain ⟨eb, heb⟩ : ∃ x, tokErr b.data.toList = x := ⟨_, rfl⟩
    rw [hea, heb] at hE
    simp only [hea] at t1
    simp only [heb] at t2
    obtain ⟨p, hp⟩ : ∃ x, (tokRunes a.data.toList).length = x := ⟨_, rfl⟩
    obtain ⟨q, hq⟩ : ∃ x, (tokRunes b.data.toList).length = x := ⟨_, rfl⟩
    simp only [hp] at t1
    simp only [hq] at t2
    clear hea heb hp hq
    have T1 := Lib.hid t1; have T2 := Lib.hid t2
    clear t1 t2
    have hcs : (ea != 0) = true ∨ ((ea != 0) = false ∧ (eb != 0) = true) := by
      by_cases e1 : ea = 0
      · have e2 : eb ≠ 0 := fun e2 => hE ⟨e1, e2⟩
        exact .inr ⟨by simp [e1], by simpa using e2⟩
      · exact .inl (by simpa using e1)
    clear hE
    rcases hcs with z1 | ⟨z1, z2⟩
    all_goals
      go_enter Tryd.func8, Tryd.ntmps8
      go_wp2_with fail
      refine (AL.out _ h).mono ?_
      rintro e w1 ⟨rfl, b1⟩
      have K1 : Hid (Okw w1) := Lib.hid (h.below b1)
      have B1 := Lib.hid b1; clear b1
      go_wp2_with fail
      refine (T1.out _ K1.out).mono ?_
      rintro e w2 ⟨A1, c1, rfl, r2, b2⟩
      have K2 : Hid (Okw w2) := Lib.hid (K1.out.below b2)
      have B2 := Lib.hid (B1.out.trans (b2.mono B1.out.size)); clear b2 r2
      go_wp2_with fail
      refine (T2.out _ K2.out).mono ?_
      rintro e w3 ⟨A2, c2, rfl, r3, b3⟩
      have B3 := Lib.hid (B2.out.trans (b3.mono B2.out.size)); clear b3 r3
      go_wp2
      go_ret
      exact ⟨rfl, B3.out⟩
end Go.Proofs.YthigbnklekdemaaDoor
