/- DawgStates, walked over what dawg's functions and the document's own automaton answer. -/
import Derived.Test.YtljaibhhkjapmaaDoorJSame
import Derived.Test.YtljaibhhkjapmaaDoorUStaL
namespace Go.Proofs.YtljaibhhkjapmaaDoor
open Go.RowKit Go.Shelf
attribute [local go_sem] Oper.semAt_some
set_option linter.unusedSimpArgs false
set_option linter.unusedVariables false

theorem ris10_any (u : Value) (l : List Wrd) (w : World) (hu : WRuns w u l) (hl : l.length ≤ 2000000) (hz : szW l) :
    Calls Tryd.prog 13 #[u] w fun e w' => e = .returned (.int .i64 (wisS l)) ∧ Below w.heap.size w w' := by
  have c1 := refIs9_any u l w hu hl hz
  obtain ⟨z, hz'⟩ : ∃ z, wisS l = z := ⟨_, rfl⟩
  rw [hz'] at c1 ⊢
  have C1 := Lib.hid c1
  clear c1 hz' hz hl hu
  go_enter Tryd.func13, Tryd.ntmps13
  go_wp2_with fail
  refine C1.out.mono ?_
  rintro e w1 ⟨rfl, b1⟩
  have B1 := Lib.hid b1; clear b1
  go_wp2
  go_ret
  exact ⟨rfl, B1.out⟩
/-- Where a rune leads, as both tell it. -/
theorem next_both (Q : List Rst) (x : Rst) (r : Int) : ∃ (to_ : Nat) (ok : Bool) (er : Int), (byE Q x r).2.1 = to_ ∧ (if r ∈ hdsR x then (0 : Int) else 10) = er ∧ nxtE (stF Q x).2.2 r = (to_, ok) ∧ ((ok = true ∧ er = 0) ∨ (ok = false ∧ er = 10)) := by
  rw [nxtE_stF]
  unfold byE
  by_cases h : r ∈ hdsR x
  · rw [if_pos h, if_pos h, if_pos h]
    exact ⟨_, true, 0, rfl, rfl, rfl, .inl ⟨rfl, rfl⟩⟩
  · rw [if_neg h, if_neg h, if_neg h]
    exact ⟨_, false, 10, rfl, rfl, rfl, .inr ⟨rfl, rfl⟩⟩
theorem smW_szW {l : List Wrd} (h : smW l ≤ 500) : szW l := fun b hb => by have := smW_mem l b hb; omega
set_option maxRecDepth 100000 in
set_option maxHeartbeats 64000000 in
theorem dawgStates_walk (u : Value) (l : List Wrd) (a r : Int) (w : World) (h : Okw w) (hu : WRuns w u l) (hz : szMW l) :
    Calls Tryd.prog 3 #[u, .int .i64 a, .int .i32 r] w (RetTrue w) := by
  have g1 := fun w (hv : WRuns w u l) => great10_det u l w hv hz
  have hgn := @gr10_no l
  obtain ⟨gr, hgr⟩ : ∃ z, gr10 l = z := ⟨_, rfl⟩
  simp only [hgr] at g1
  rw [hgr] at hgn
  have G1 := Lib.hid g1; have HGN := Lib.hid hgn; have HU := Lib.hid hu
  clear g1 hgn hgr hz hu
  go_enter Tryd.func3, Tryd.ntmps3
  go_wp2_with fail
  refine (alive10_any _ h).mono ?_
  rintro e w1 ⟨rfl, b1⟩
  have K1 : Hid (Okw w1) := Lib.hid (h.below b1); have U1 := Lib.hid (HU.out.below b1)
  have B1 := Lib.hid b1; clear b1 HU h
  go_wp2_with fail
  refine (G1.out _ U1.out).mono ?_
  rintro e w2 ⟨rfl, b2⟩
  have K2 : Hid (Okw w2) := Lib.hid (K1.out.below b2); have U2 := Lib.hid (U1.out.below b2); have B2 := Lib.hid (B1.out.trans (b2.mono B1.out.size))
  clear b2 G1 U1 K1 B1
  cases gr
  rotate_left
  · go_wp2
    go_ret
    exact ⟨rfl, B2.out⟩
  obtain ⟨hl60, hsm⟩ := HGN.out rfl
  have hsz := smW_szW hsm
  have cn := newd_any u l w2 K2.out U2.out (by omega) hsz
  have ci := fun w' (hb : Below w2.heap.size w2 w') => ris10_any u l w' (U2.out.below hb) (by omega) hsz
  have CN := Lib.hid cn; have CI := Lib.hid ci
  clear cn ci HGN
  go_wp2_with fail
  refine CN.out.mono ?_
  rintro e w3 ⟨b3, hp⟩
  have B3 := Lib.hid b3
  clear b3 CN
  rcases hp with ⟨hn, rfl⟩ | ⟨hn, d, rfl, hd⟩
  · obtain ⟨er, her⟩ : ∃ z, wisS l = z := ⟨_, rfl⟩
    have e0 := hn
    simp only [her] at CI hn
    rw [her]
    have e1 : (er == 0) = false := by simpa using hn
    have e2 : (er != 0) = true := by simpa using hn
    have e3 : (er == er) = true := beq_self_eq_true _
    clear e0 her hn hsm hsz
    go_wp2_with fail
    refine (CI.out _ B3.out).mono ?_
    rintro e w4 ⟨rfl, b4⟩
    have B4 := Lib.hid (B2.out.trans ((B3.out.trans (b4.mono B3.out.size)).mono B2.out.size))
    clear b4
    go_wp2
    go_ret
    exact ⟨rfl, B4.out⟩
  have hok := dgOk hn
  have hlt := ltrs_words hn hl60
  obtain ⟨W, hW⟩ : ∃ z, rnW l = z := ⟨_, rfl⟩
  have hwr := rnW_rising hn
  have ca := fun w' (hb : Below w2.heap.size w2 w') => rnew_any u l hn w' (U2.out.below hb) (by omega) (fun x hx => by have := hsz x hx; omega) hlt
  simp only [hW] at ca hok hd hwr
  obtain ⟨Q, hQ⟩ : ∃ z, staQ W = z := ⟨_, rfl⟩
  obtain ⟨M, hM⟩ : ∃ z, (tldS W).length = z := ⟨_, rfl⟩
  have hQM : Q.length = M := by rw [← hQ, ← tldS_len]; exact hM
  have hrs := fun (x : Rst) (hx : x ∈ Q) => staQ_rising (x := x) hwr (by rw [hQ]; exact hx)
  have hat := fun (i : Nat) (x : Rst) (hx : Q[i]? = some x) => tldS_at (W := W) (i := i) (x := x) (by rw [hQ]; exact hx)
  simp only [hQ] at hok hd hat
  simp only [hM] at ca
  have hMb : M ≤ 5000001 := by rw [← hQM]; exact hok.qm
  obtain ⟨eN, heN⟩ : ∃ z, (edK Q Q.length).length = z := ⟨_, rfl⟩
  have heb : eN ≤ 6000000 := by
    have h1 := edK_all (w := W) hwr (staQ W).length
    rw [hQ, heN] at h1
    have h2 : ltrs W ≤ 90000 := by rw [← hW]; exact hlt
    omega
  have cre := fun w' (bb : Nat) (A : Option Addr) (c : Nat) (T : List StV) (hh : StRow w' bb (.slice A M c) (tldS W) T (fun _ => False)) => redges_any bb A c W T _ w' M hM hh (by rw [hQ, heN]; exact heb)
  simp only [hQ, heN] at cre
  have cst := fun w' (hb : Below w3.heap.size w3 w') => states_any w' d Q l (hd.below hb) hok
  have ced := fun w' (hb : Below w3.heap.size w3 w') => edges_any w' d Q l (hd.below hb)
  have cln := fun w' (hb : Below w3.heap.size w3 w') => len_any w' d Q l (hd.below hb)
  have cou := fun w' (hb : Below w3.heap.size w3 w') (i : Nat) (x : Rst) (hx : Q[i]? = some x) => outs_in w' d Q l (hd.below hb) hok i x hx
  have cen := fun w' (hb : Below w3.heap.size w3 w') (i : Nat) (x : Rst) (hx : Q[i]? = some x) => ends_in w' d Q l (hd.below hb) hok i x hx
  have cnx := fun w' (hb : Below w3.heap.size w3 w') (i : Nat) (x : Rst) (hx : Q[i]? = some x) => next_in w' d Q l (hd.below hb) hok i x hx (hrs x (List.mem_of_getElem? hx)) r
  have cou2 := fun w' (hb : Below w3.heap.size w3 w') (hc : chkD Q a = 2) => outs_out w' d Q l (hd.below hb) hok a hc
  have cen2 := fun w' (hb : Below w3.heap.size w3 w') (hc : chkD Q a = 2) => ends_out w' d Q l (hd.below hb) hok a hc
  have cnx2 := fun w' (hb : Below w3.heap.size w3 w') (hc : chkD Q a = 2) => next_out w' d Q l (hd.below hb) hok a hc r
  have heo := fun (i : Nat) (x : Rst) (hx : Q[i]? = some x) => (edE_bound hok hx).1
  simp only [heN] at ced
  simp only [hQM] at cst
  obtain ⟨Al, cl, el⟩ := U2.out.slice
  obtain ⟨nl, hnl⟩ : ∃ z, l.length = z := ⟨_, rfl⟩
  simp only [hnl] at cln el
  subst el
  simp only [hn] at CI
  have CA := Lib.hid ca; have CRE := Lib.hid cre; have CST := Lib.hid cst; have CED := Lib.hid ced; have CLN := Lib.hid cln; have COU := Lib.hid cou; have CEN := Lib.hid cen; have CNX := Lib.hid cnx; have COU2 := Lib.hid cou2; have CEN2 := Lib.hid cen2; have CNX2 := Lib.hid cnx2
  have HM := Lib.hid hM; have HQM := Lib.hid hQM; have HAT := Lib.hid hat; have HEO := Lib.hid heo
  clear ca cre cst ced cln cou cen cnx cou2 cen2 cnx2 hM hQM hat heo hok hd hwr hW hQ hrs heN heb hnl hn hlt hsm hsz hl60 U2 K2
  have n1 : ((M : Int) != (M : Int)) = false := by simp
  have n2 : ((eN : Int) != (eN : Int)) = false := by simp
  have n3 : ((nl : Int) != (nl : Int)) = false := by simp
  go_wp2_with fail
  refine (CI.out _ B3.out).mono ?_
  rintro e w4 ⟨rfl, b4⟩
  have B4 := Lib.hid b4
  have B24 := Lib.hid (B3.out.trans (b4.mono B3.out.size))
  clear b4
  go_wp2_with fail
  refine (CA.out _ B24.out).mono ?_
  rintro e w5 ⟨Aa, ca, T, rfl, h5, b5⟩
  have B5 := Lib.hid (B4.out.trans (b5.mono B4.out.size)); have H5 := Lib.hid h5
  have CRE5 := Lib.hid (CRE.out _ _ _ _ _ h5)
  clear h5 b5 CA CI CRE B24 B4
  go_wp2_with (first
    | (go_at_call 15; refine (CST.out _ B5.out).mono ?_; rintro e w' ⟨rfl, e5⟩; obtain rfl := e5.symm)
    | (go_at_call 16; refine (CED.out _ B5.out).mono ?_; rintro e w' ⟨rfl, e5⟩; obtain rfl := e5.symm)
    | (go_at_call 17; refine CRE5.out.mono ?_; rintro e w6 ⟨rfl, b6⟩; have B6 := Lib.hid (B5.out.trans (b6.mono B5.out.size)); have H6 := Lib.hid (H5.out.below b6); clear b6)
    | (go_at_call 18; refine (CLN.out _ B6.out).mono ?_; rintro e w' ⟨rfl, e5⟩; obtain rfl := e5.symm))
  clear H5 CRE5 B5 CST CED CLN n1 n2 n3
  go_loopw [79] (fun s79 wr => ∃ k : Nat, k ≤ M ∧ s79 = .int .i64 (k : Int) ∧ Hid (Below w6.heap.size w6 wr)) (fun s79 _ => M - (RowKit.intOf s79).toNat)
  case atStart => exact ⟨0, Nat.zero_le _, rfl, Lib.hid (Below.refl _ _)⟩
  case round =>
    obtain ⟨k, hkn, rfl, HB⟩ := hrel
    have BF := Lib.hid (B6.out.trans (HB.out.mono B6.out.size))
    by_cases hk : k < M
    · have k1 : (k : Int) < (M : Int) := by omega
      obtain ⟨x, hx⟩ : ∃ x, Q[k]? = some x := ⟨_, List.getElem?_eq_getElem (by rw [HQM.out]; exact hk)⟩
      have hs := HAT.out k x hx
      obtain ⟨g, cap, t, ev, hbg, hlt, ht, hxx, g0, g1, g2⟩ := (H6.out.below HB.out).at_ HM.out hs
      cases ev
      obtain ⟨⟨x0, x1, x2⟩, tb, ⟨y0, y1, y2⟩⟩ := t
      have htb : decide ([] ∈ x) = tb := hxx.2.1.symm
      have hxE : GRuns oeCell 2 wr (.slice y0 y1 y2) (outE Q x) := by
        have h1 := hxx.2.2.1
        rw [stF_out] at h1
        exact h1
      have hel : (outE Q x).length ≤ 6000000 := by rw [outE_len]; exact HEO.out k x hx
      obtain ⟨A', c', e', _⟩ := id hxE
      obtain ⟨ne, hne⟩ : ∃ z, (outE Q x).length = z := ⟨_, rfl⟩
      rw [hne] at e' hel
      cases e'
      change wr.cell? ⟨g, k * 3, none⟩ = some (.slice x0 x1 x2) at g0
      change wr.cell? ⟨g, k * 3 + 1, none⟩ = some (.bool tb) at g1
      change wr.cell? ⟨g, k * 3 + 2, none⟩ = some (.slice y0 y1 y2) at g2
      obtain ⟨to_, ok, er, hb1, hb2, hb3, hoke⟩ := next_both Q x r
      have co := fun w' (hb : Below wr.heap.size wr w') => COU.out w' (BF.out.trans (hb.mono BF.out.size)) k x hx
      have ce := fun w' (hb : Below wr.heap.size wr w') => CEN.out w' (BF.out.trans (hb.mono BF.out.size)) k x hx
      have cx := fun w' (hb : Below wr.heap.size wr w') => CNX.out w' (BF.out.trans (hb.mono BF.out.size)) k x hx
      have cr := fun w' (hb : Below wr.heap.size wr w') => rnext_any x0 x1 x2 tb y0 y1 y2 (outE Q x) r w' hne (hxE.below hb)
      rw [stF_out] at hb3
      simp only [hb1, hb2] at cx
      simp only [hb3] at cr
      simp only [htb] at ce
      obtain ⟨E, hE⟩ : ∃ z, outE Q x = z := ⟨_, rfl⟩
      simp only [hE] at co hxE hne
      have cg := fun v w' (hv : GRuns oeCell 2 w' v E) => edges10_any v E w' hv (by rw [hne]; exact hel)
      have cs := fun v w' (hv : GRuns oeCell 2 w' v E) (hb : Below wr.heap.size wr w') => refSame10_eq v (.slice y0 y1 y2) E w' hv (hxE.below hb)
      have hal := bel_one wr (.cells #[.slice x0 x1 x2, .bool tb, .slice y0 y1 y2] 37)
      have hbx := bx_new wr 37 #[.slice x0 x1 x2, .bool tb, .slice y0 y1 y2]
      obtain ⟨W1, hW1⟩ : ∃ z, wr.alloc (.cells #[.slice x0 x1 x2, .bool tb, .slice y0 y1 y2] 37) = z := ⟨_, rfl⟩
      obtain ⟨B, hB⟩ : ∃ z, wr.heap.size = z := ⟨_, rfl⟩
      rw [hW1] at hal hbx
      rw [hB] at hbx
      obtain ⟨c0, c1, c2⟩ := hbx.three
      have CO := Lib.hid co; have CE := Lib.hid ce; have CX := Lib.hid cx; have CR := Lib.hid cr; have CG := Lib.hid cg; have CS := Lib.hid cs; have HW1 := Lib.hid hW1; have HBL := Lib.hid hB; have HAL := Lib.hid hal; have HOKE := Lib.hid hoke; have HNE := Lib.hid hne
      clear co ce cx cr cg cs hW1 hB hal hbx hoke hb1 hb2 hb3 hE hel hne hxE htb hxx ht hs hx hlt hbg
      go_wp2_with fail
      rw [HW1.out, HBL.out]
      refine (CO.out _ HAL.out).mono ?_
      rintro e w7 ⟨v7, rfl, r7, b7⟩
      obtain ⟨A7, c7, e7⟩ := r7.slice
      rw [HNE.out] at e7
      subst e7
      have B7 := Lib.hid (HAL.out.trans (b7.mono HAL.out.size)); have R7 := Lib.hid r7
      replace c0 := cell_keep b7 c0
      replace c1 := cell_keep b7 c1
      replace c2 := cell_keep b7 c2
      clear b7 r7
      go_wp2_with fail
      refine (CE.out _ B7.out).mono ?_
      rintro e w8 ⟨rfl, b8⟩
      have B8 := Lib.hid (B7.out.trans (b8.mono B7.out.size)); have R8 := Lib.hid (R7.out.below b8)
      replace c0 := cell_keep b8 c0
      replace c1 := cell_keep b8 c1
      replace c2 := cell_keep b8 c2
      clear b8 R7 B7
      have tbb : (tb != tb) = false := by simp
      have KD : Hid (Below wr.heap.size wr w8.drew) := Lib.hid (B8.out.drew)
      have q0 : w8.drew.cell? ⟨B, 0, none⟩ = some (.slice x0 x1 x2) := c0
      have q1 : w8.drew.cell? ⟨B, 1, none⟩ = some (.bool tb) := c1
      have q2 : w8.drew.cell? ⟨B, 2, none⟩ = some (.slice y0 y1 y2) := c2
      have RD : Hid (GRuns oeCell 2 w8.drew (.slice A7 y1 c7) E) := Lib.hid (R8.out.below ((Below.refl _ _).drew))
      go_wp2
      go_region_held3 (fun wx => wx.cell? ⟨B, 1, none⟩ = some (.bool tb) ∧ wx.cell? ⟨B, 2, none⟩ = some (.slice y0 y1 y2) ∧ wx.cell? ⟨B, 0, none⟩ = some (.slice x0 x1 x2) ∧ Hid (Below wr.heap.size wr wx))
        (first | exact ⟨q1, q2, q0, KD⟩ | exact ⟨p1, p2, p0, KE⟩ | exact ⟨s1, s2, s0, KF⟩ | go_keep)
        (first
          | (go_at_call 22; refine (CG.out _ _ RD.out).mono ?_; rintro e w9 ⟨v9, rfl, r9, b9⟩; obtain ⟨A9, c9, e9⟩ := r9.slice; rw [HNE.out] at e9; subst e9; have R9 := Lib.hid r9; have KE := Lib.hid (KD.out.trans (b9.mono KD.out.size)); have p0 := cell_keep b9 q0; have p1 := cell_keep b9 q1; have p2 := cell_keep b9 q2; clear b9 r9)
          | (go_at_call 21; refine (CS.out _ _ R9.out KE.out).mono ?_; rintro e wa ⟨rfl, ba⟩; have KF := Lib.hid (KE.out.trans (ba.mono KE.out.size)); have s0 := cell_keep ba p0; have s1 := cell_keep ba p1; have s2 := cell_keep ba p2; clear ba))
      all_goals
        clear c0 c1 c2 q0 q1 q2 p0 p1 p2 RD R9 KD KE B8 R8 CG CS CO CE
        go_wp2_with fail
        refine (CX.out _ KF.out).mono ?_
        rintro e wb ⟨rfl, bb⟩
        have KB := Lib.hid (KF.out.trans (bb.mono KF.out.size))
        replace s0 := cell_keep bb s0
        replace s1 := cell_keep bb s1
        replace s2 := cell_keep bb s2
        clear bb
        go_wp2_with fail
        refine (CR.out _ KB.out).mono ?_
        rintro e wc ⟨rfl, bc⟩
        have KC := Lib.hid (HB.out.trans ((KB.out.trans (bc.mono KB.out.size)).mono HB.out.size))
        clear bc
        have t1 : ((to_ : Int) != (to_ : Int)) = false := by simp
        rcases HOKE.out with ⟨rfl, rfl⟩ | ⟨rfl, rfl⟩
        · go_wp2
          exact ⟨⟨k + 1, by omega, by go_num, KC⟩, by simp [RowKit.intOf]; omega⟩
        · go_wp2
          exact ⟨⟨k + 1, by omega, by go_num, KC⟩, by simp [RowKit.intOf]; omega⟩
    · obtain rfl : k = M := by omega
      have BW := Lib.hid (B2.out.trans ((B3.out.trans (BF.out.mono B3.out.size)).mono B2.out.size))
      clear H6 HAT HEO
      by_cases hin : 0 ≤ a ∧ a < (k : Int)
      · obtain ⟨i, rfl⟩ : ∃ i : Nat, a = (i : Int) := ⟨a.toNat, by omega⟩
        obtain ⟨_, ha⟩ := hin
        obtain ⟨x, hx⟩ : ∃ x, Q[i]? = some x := ⟨_, List.getElem?_eq_getElem (by rw [HQM.out]; omega)⟩
        obtain ⟨to_, ok, er, hb1, hb2, hb3, hoke⟩ := next_both Q x r
        have co := fun w' (hb : Below wr.heap.size wr w') => COU.out w' (BF.out.trans (hb.mono BF.out.size)) i x hx
        have ce := fun w' (hb : Below wr.heap.size wr w') => CEN.out w' (BF.out.trans (hb.mono BF.out.size)) i x hx
        have cx := CNX.out wr BF.out i x hx
        rw [hb1, hb2] at cx
        have e1 : (er != 2) = true := by rcases hoke with ⟨_, rfl⟩ | ⟨_, rfl⟩ <;> decide
        obtain ⟨tb, htb⟩ : ∃ z, decide ([] ∈ x) = z := ⟨_, rfl⟩
        simp only [htb] at ce
        have a1 : ¬ (i : Int) < 0 := by omega
        have a2 : (0 : Int) ≤ (i : Int) := by omega
        have a3 : decide ((0 : Int) ≤ (i : Int)) = true := decide_eq_true a2
        have a4 : decide ((i : Int) < (k : Int)) = true := decide_eq_true ha
        have a5 : decide (i < k) = true := decide_eq_true (by omega)
        have CO := Lib.hid co; have CE := Lib.hid ce; have CX := Lib.hid cx
        clear co ce cx hb1 hb2 hb3 hoke htb hx COU CEN CNX COU2 CEN2 CNX2
        go_wp2_with fail
        refine CX.out.mono ?_
        rintro e wa ⟨rfl, ba⟩
        have BA := Lib.hid ba
        clear ba
        go_wp2_with fail
        refine (CO.out _ BA.out).mono ?_
        rintro e wb ⟨v9, rfl, r9, bb⟩
        obtain ⟨A9, c9, e9⟩ := r9.slice
        subst e9
        have BB := Lib.hid (BA.out.trans (bb.mono BA.out.size))
        clear bb r9
        go_wp2_with fail
        refine (CE.out _ BB.out).mono ?_
        rintro e wc ⟨rfl, bc⟩
        have BC := Lib.hid (BW.out.trans ((BB.out.trans (bc.mono BB.out.size)).mono BW.out.size))
        clear bc
        go_wp2
        go_ret
        exact ⟨rfl, BC.out⟩
      · have hc : chkD Q a = 2 := by
          unfold chkD
          rw [HQM.out, if_pos (by omega)]
        have CX := Lib.hid (CNX2.out _ BF.out hc); have CO := Lib.hid (COU2.out _ BF.out hc); have CE := Lib.hid (CEN2.out _ BF.out hc)
        clear COU CEN CNX COU2 CEN2 CNX2 hc
        by_cases h0 : 0 ≤ a
        · have ha : ¬ a < (k : Int) := fun h => hin ⟨h0, h⟩
          have a3 : decide ((0 : Int) ≤ a) = true := decide_eq_true h0
          have a4 : decide (a < (k : Int)) = false := decide_eq_false ha
          have a1 : ¬ a < 0 := by omega
          clear hin
          go_wp2_with (first
            | (go_at_call 23; refine CX.out.mono ?_; rintro e w' ⟨rfl, e5⟩; obtain rfl := e5.symm)
            | (go_at_call 19; refine CO.out.mono ?_; rintro e w' ⟨rfl, e5⟩; obtain rfl := e5.symm)
            | (go_at_call 20; refine CE.out.mono ?_; rintro e w' ⟨rfl, e5⟩; obtain rfl := e5.symm))
          go_ret
          exact ⟨rfl, BW.out⟩
        · have a3 : decide ((0 : Int) ≤ a) = false := decide_eq_false h0
          have a1 : a < 0 := by omega
          clear hin
          go_wp2_with (first
            | (go_at_call 23; refine CX.out.mono ?_; rintro e w' ⟨rfl, e5⟩; obtain rfl := e5.symm)
            | (go_at_call 19; refine CO.out.mono ?_; rintro e w' ⟨rfl, e5⟩; obtain rfl := e5.symm)
            | (go_at_call 20; refine CE.out.mono ?_; rintro e w' ⟨rfl, e5⟩; obtain rfl := e5.symm))
          go_ret
          exact ⟨rfl, BW.out⟩
end Go.Proofs.YtljaibhhkjapmaaDoor
