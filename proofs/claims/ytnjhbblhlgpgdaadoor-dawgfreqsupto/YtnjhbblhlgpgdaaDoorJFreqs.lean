/- DawgFreqs, walked over what dawg's functions answer. -/
import Derived.Test.YtnjhbblhlgpgdaaDoorPk19
import Derived.Test.YtnjhbblhlgpgdaaDoorJSame
import Derived.Test.YtnjhbblhlgpgdaaDoorPk5
namespace Go.Proofs.YtnjhbblhlgpgdaaDoor
open Go.RowKit Go.Shelf
attribute [local go_sem] Oper.semAt_some
set_option linter.unusedSimpArgs false
set_option linter.unusedVariables false

theorem z_wrapF (a : Int) (h : 0 ≤ a) (h2 : a ≤ 65535) : IntKind.i64.wrap (a + 1) = a + 1 := by rw [IntKind.wrap_i64]; omega
theorem z_wrapA (a : Int) (h : 0 ≤ a) (h2 : a ≤ 65535) : wrap64 a = a := by unfold wrap64; omega
/-- The first j words with one number for all. -/
def frqUp (X : List Wrd) (F : Int) (j : Nat) : List Wrd := (X.take j).map (fun b => (b.1, F)) ++ X.drop j
theorem frqUp_zero (X : List Wrd) (F : Int) : frqUp X F 0 = X := rfl
theorem frqUp_len (X : List Wrd) (F : Int) (j : Nat) : (frqUp X F j).length = X.length := by
  unfold frqUp
  rw [List.length_append, List.length_map, List.length_take, List.length_drop]
  omega
theorem frqUp_at {X : List Wrd} {F : Int} {j : Nat} {x : Wrd} (h : X[j]? = some x) : (frqUp X F j)[j]? = some x ∧ (frqUp X F j).set j (x.1, F) = frqUp X F (j + 1) := by
  obtain ⟨hj, he⟩ := List.getElem?_eq_some_iff.1 h
  have hd : X.drop j = x :: X.drop (j + 1) := by rw [List.drop_eq_getElem_cons hj, he]
  have hl : ((X.take j).map (fun b : Wrd => (b.1, F))).length = j := by rw [List.length_map, List.length_take]; omega
  unfold frqUp
  rw [hd, List.take_add_one, h]
  constructor
  · rw [List.getElem?_append_right (by omega), hl, Nat.sub_self]; rfl
  · rw [List.set_append_right _ _ (by omega), hl, Nat.sub_self]
    simp
theorem frqUp_all (X : List Wrd) (F : Int) : frqUp X F X.length = X.map (fun b => (b.1, F)) := by
  unfold frqUp
  rw [List.take_length, List.drop_length, List.append_nil]

set_option maxRecDepth 100000 in
set_option maxHeartbeats 64000000 in
theorem dawgFreqs_walk (u : Value) (l : List Wrd) (a : Int) (ha0 : 0 ≤ a) (ha : a ≤ 65535) (w : World) (h : Okw w) (hu : WRuns w u l) (hl : l.length ≤ 2000000) (hz : szW l) :
    Calls Tryd.prog 8 #[u, .int .u16 a] w (RetTrue w) := by
  have n1 := fun w hu => refNormal9_any u l w hu hl hz
  have hzn := szW_nor hz
  have hln := worS_len l
  have g1 := fun v w (hv : WRuns w v (worS l)) => great10_det v (worS l) w hv (fun b hb => by have := hzn b hb; omega)
  have hwi : worE l = 0 → wisS (worS l) = 0 := fun e => wor_is e
  clear hz
  obtain ⟨gr, hgr⟩ : ∃ z, gr10 (worS l) = z := ⟨_, rfl⟩
  obtain ⟨ea, hea⟩ : ∃ z, worE l = z := ⟨_, rfl⟩
  obtain ⟨X, hX⟩ : ∃ z, worS l = z := ⟨_, rfl⟩
  simp only [hgr] at g1
  simp only [hea, hX] at n1
  rw [hea] at hwi
  simp only [hX] at g1 hwi hln hzn
  obtain ⟨nx, hnx⟩ : ∃ z, X.length = z := ⟨_, rfl⟩
  have hnb : nx ≤ 2000000 := by rw [← hnx]; omega
  obtain ⟨FF, hFF⟩ : ∃ z, a + 1 = z := ⟨_, rfl⟩
  have hF1 : 1 ≤ FF ∧ FF ≤ 1073741824 := by omega
  have HU := Lib.hid hu; have G1 := Lib.hid g1; have N1 := Lib.hid n1; have HWI := Lib.hid hwi; have HNX := Lib.hid hnx; have HZN := Lib.hid hzn; have HFF := Lib.hid hF1
  have wkF := z_wrapF a ha0 ha
  have wkA := z_wrapA a ha0 ha
  rw [hFF] at wkF
  clear hu g1 n1 hwi hnx hgr hea hX hln hl hzn hF1
  go_enter Tryd.func8, Tryd.ntmps8
  go_wp2_with fail
  refine (alive10_any _ h).mono ?_
  rintro e w1 ⟨rfl, b1⟩
  have U1 := Lib.hid (HU.out.below b1); have K1 : Hid (Okw w1) := Lib.hid (h.below b1)
  have B1 := Lib.hid b1; clear b1
  go_wp2_with fail
  refine (N1.out _ U1.out).mono ?_
  rintro e w2 ⟨va, rfl, ra, b2⟩
  obtain ⟨Aa, ka, ea2⟩ := ra.slice
  rw [HNX.out] at ea2
  subst ea2
  have K2 : Hid (Okw w2) := Lib.hid (K1.out.below b2)
  have R2 := Lib.hid ra
  have B2 := Lib.hid (B1.out.trans (b2.mono B1.out.size)); clear b2 ra U1 K1 B1
  go_wp2_with fail
  refine (G1.out _ _ R2.out).mono ?_
  rintro e w3 ⟨rfl, b3⟩
  have K3 : Hid (Okw w3) := Lib.hid (K2.out.below b3)
  have R3 := Lib.hid (R2.out.below b3)
  have B3 := Lib.hid (B2.out.trans (b3.mono B2.out.size)); clear b3 K2 B2 R2 G1 N1
  cases gr
  rotate_left
  · go_wp2
    go_ret
    exact ⟨rfl, B3.out⟩
  by_cases h0 : ea = 0
  rotate_left
  · have h0' : (ea == 0) = false := by simpa using h0
    have h0'' : (ea != 0) = true := by simpa using h0
    go_wp2
    go_ret
    exact ⟨rfl, B3.out⟩
  subst h0
  have hn := HWI.out (by first | rfl | trivial)
  -- the copy
  obtain ⟨n3, hn3⟩ : ∃ z, w3.heap.size = z := ⟨_, rfl⟩
  have hlit := own_litW w3 n3 (by omega)
  rw [hn3] at hlit
  have bl3 := bel_one w3 (.cells #[] 55)
  obtain ⟨w4, hw4⟩ : ∃ z, w3.alloc (.cells #[] 55) = z := ⟨_, rfl⟩
  rw [hw4] at hlit bl3
  obtain ⟨v5, w5, hrun5, hown5, hgr5, hblk5⟩ := append_many (P := Tryd.prog) wrd_ln wrd_one info_wrd rfl (by decide) (by decide) Tryd.underlying22 w4 n3 _ 0 [] hlit _ X (R3.out.below bl3) (by have := bl3.size; omega) (by rw [HNX.out]; omega)
  rw [HNX.out, Nat.zero_add, List.nil_append] at hown5
  have bb5 : Below n3 w3 w5 := ((by rw [hn3] at bl3; exact bl3 : Below n3 w3 w4)).grown hgr5 (by have := bl3.size; omega) (fun r e => by
    have e2 : n3 = r := by simpa [Value.ownBlock] using e
    omega)
  have HM5 : Hid (w5.ownsRow n3 55 2 v5 nx (gCells wrdCell (frqUp X FF 0))) := Lib.hid (by rw [frqUp_zero]; exact hown5)
  obtain ⟨A5, c5, e5⟩ := z_own_slice hown5
  subst e5
  have HRUN5 := Lib.hid hrun5; have HW4 := Lib.hid hw4; have HN3 := Lib.hid hn3; have BB5 := Lib.hid bb5; have HNN := Lib.hid hn
  clear hlit bl3 hw4 hn3 hrun5 hown5 hgr5 hblk5 bb5 HWI hn
  go_wp2_with (first
    | (rw [HW4.out, HN3.out])
    | (at_builtin; refine wpList_append_run (.tmp 33) (.tmp 34) 22 _ _ _ _ HRUN5.out rfl rfl rfl rfl ?_))
  go_loopw [38] (fun s38 wr => ∃ j : Nat, s38 = .int .i64 (j : Int) ∧ j ≤ nx ∧ Hid (wr.ownsRow n3 55 2 (.slice A5 nx c5) nx (gCells wrdCell (frqUp X FF j))) ∧ Hid (Below n3 w3 wr)) (fun s38 _ => nx - (RowKit.intOf s38).toNat)
  case atStart => exact ⟨0, rfl, Nat.zero_le _, HM5, BB5⟩
  case round =>
    clear HM5 BB5
    obtain ⟨j, rfl, hjn, HM, HB⟩ := hrel
    by_cases hj : j < nx
    · obtain ⟨⟨x1, x2⟩, hx⟩ : ∃ x, X[j]? = some x := ⟨_, List.getElem?_eq_getElem (by rw [HNX.out]; exact hj)⟩
      have hm := HM.out
      obtain ⟨g, cg, eg, hg1, hg2, hg3, hg4, cur, hgc⟩ := z_own_form hm (by omega)
      simp only [Value.slice.injEq] at eg
      obtain ⟨rfl, _, rfl⟩ := eg
      obtain ⟨f1, f2⟩ := frqUp_at (F := FF) hx
      have gold := z_own_at wrd_ln hm (i := 1) f1 (u := .int .i64 x2) rfl
      have gth := own_thaw hm (j * 2 + 1)
      have hset := z_own_set hm (j * 2 + 1) (by omega) (.int .i64 FF)
      rw [z_gset wrd_ln _ j 1 (x1, x2) (x1, FF) (.int .i64 FF) f1 (by decide) rfl, f2] at hset
      have hbs : Below n3 w3 (wr.setCell ⟨g, j * 2 + 1, none⟩ (.int .i64 FF)) := bel_set HB.out (by omega) g (j * 2 + 1) _ hg1
      have i1 : (j : Int) < (nx : Int) := by omega
      have HS := Lib.hid hset; have HBS := Lib.hid hbs
      clear hx hm hg1 hg2 hg3 hg4 hgc f1 f2 hset hbs HM HB
      go_wp2
      exact ⟨⟨j + 1, by go_num, by omega, HS, HBS⟩, by simp [RowKit.intOf]; omega⟩
    · obtain rfl : j = nx := by omega
      have i1 : ¬ (j : Int) < (j : Int) := by omega
      obtain ⟨wc, rfl⟩ : ∃ wc, wc = wr := ⟨wr, rfl⟩
      obtain ⟨M, hM⟩ : ∃ z, X.map (fun b => (b.1, FF)) = z := ⟨_, rfl⟩
      have hru : WRuns wc (.slice A5 j c5) M := by
        have := HM.out
        rw [← HNX.out, frqUp_all, hM] at this
        rw [← HNX.out]
        exact GRuns.of_own wrd_ln (by rw [← hM, List.length_map]) this
      have hmn : wisS M = 0 := by rw [← hM]; exact wisS_freq HNN.out HFF.out.1 HFF.out.2
      have hml : M.length = j := by rw [← hM, List.length_map, HNX.out]
      have hmz : szW M := fun b hb => by
        rw [← hM] at hb
        obtain ⟨z, hz, rfl⟩ := List.mem_map.1 hb
        exact HZN.out z hz
      have hsm : rnW M = rnW X := rnW_same (by rw [← hM, List.map_map]; rfl)
      have hma : ∀ (i : Nat) (x : Wrd), X[i]? = some x → M[i]? = some (x.1, FF) := fun i x hx => by rw [← hM, List.getElem?_map, hx]; rfl
      have hkX := dgOk HNN.out
      have hkM := dgOk hmn
      have hriX := rnW_rising HNN.out
      have hB3 : Below w3.heap.size w3 wc := by rw [HN3.out]; exact HB.out
      have hbc : Below w.heap.size w wc := B3.out.trans (hB3.mono B3.out.size)
      have d1 := fun w' (hO : Okw w') (hv : WRuns w' (.slice Aa j ka) X) => newd_any (.slice Aa j ka) X w' hO hv (by rw [HNX.out]; exact hnb) HZN.out
      have d2 := fun w' (hO : Okw w') (hv : WRuns w' (.slice A5 j c5) M) => newd_any (.slice A5 j c5) M w' hO hv (by rw [hml]; exact hnb) hmz
      rw [hsm] at hkM
      obtain ⟨Q, hQ⟩ : ∃ z, staQ (rnW X) = z := ⟨_, rfl⟩
      rw [hQ] at hkX hkM
      have c1 : Calls Tryd.prog 12 #[.slice Aa j ka] wc fun e w' => ∃ d, e = .returned (.tuple #[.pointer (some ⟨d, 0, none⟩), .int .i64 0]) ∧ DgAt w' d Q X ∧ Below wc.heap.size wc w' := (d1 wc (K3.out.below hB3) (R3.out.below hB3)).mono (by
        rintro e w' ⟨hb, hp⟩
        rcases hp with ⟨hne, _⟩ | ⟨_, d, e1, hd⟩
        · exact absurd HNN.out hne
        · rw [hQ] at hd
          exact ⟨d, e1, hd, hb⟩)
      have c2 : ∀ w', Okw w' → WRuns w' (.slice A5 j c5) M → Calls Tryd.prog 12 #[.slice A5 j c5] w' fun e w'' => ∃ d, e = .returned (.tuple #[.pointer (some ⟨d, 0, none⟩), .int .i64 0]) ∧ DgAt w'' d Q M ∧ Below w'.heap.size w' w'' := fun w' hO hv => (d2 w' hO hv).mono (by
        rintro e w'' ⟨hb, hp⟩
        rcases hp with ⟨hne, _⟩ | ⟨_, d, e1, hd⟩
        · exact absurd hmn hne
        · rw [hsm, hQ] at hd
          exact ⟨d, e1, hd, hb⟩)
      have C1 := Lib.hid c1; have C2 := Lib.hid c2
      have KC : Hid (Okw wc) := Lib.hid (K3.out.below hB3); have RC := Lib.hid (R3.out.below hB3); have RM := Lib.hid hru; have BC := Lib.hid hbc
      have HKX := Lib.hid hkX; have HKM := Lib.hid hkM; have HMN := Lib.hid hmn; have HML := Lib.hid hml; have HMA := Lib.hid hma; have HQ := Lib.hid hQ; have HSM := Lib.hid hsm; have HRI := Lib.hid hriX
      clear hru hmn hml hmz hsm hma hkX hkM hriX hB3 hbc d1 d2 hQ hM c1 c2 HM HB K3 R3 B3
      go_wp2_with fail
      refine C1.out.mono ?_
      rintro e w7 ⟨d, rfl, hd, b7⟩
      have K7 : Hid (Okw w7) := Lib.hid (KC.out.below b7); have R7 := Lib.hid (RC.out.below b7); have RM7 := Lib.hid (RM.out.below b7)
      have B7 := Lib.hid (BC.out.trans (b7.mono BC.out.size)); have HD7 := Lib.hid hd
      clear b7 hd KC RC RM BC C1
      go_wp2_with fail
      refine (C2.out w7 K7.out RM7.out).mono ?_
      rintro e w8 ⟨d2, rfl, hd2, b8⟩
      have K8 : Hid (Okw w8) := Lib.hid (K7.out.below b8); have R8 := Lib.hid (R7.out.below b8)
      have B8 := Lib.hid (B7.out.trans (b8.mono B7.out.size)); have HD8 := Lib.hid (HD7.out.below b8); have HE8 := Lib.hid hd2
      clear b8 hd2 K7 R7 RM7 B7 HD7 C2
      obtain ⟨nq, hnq⟩ : ∃ z, Q.length = z := ⟨_, rfl⟩
      obtain ⟨ne, hne⟩ : ∃ z, (edK Q Q.length).length = z := ⟨_, rfl⟩
      have hnq6 : nq ≤ 6000000 := by rw [← hnq]; have := HKX.out.qm; omega
      have s1 := states_any w8 d Q X HD8.out HKX.out
      have s2 := states_any w8 d2 Q M HE8.out HKM.out
      have s3 := edges_any w8 d Q X HD8.out
      have s4 := edges_any w8 d2 Q M HE8.out
      rw [hnq] at s1 s2
      rw [hne] at s3 s4
      have S1 := Lib.hid s1; have S2 := Lib.hid s2; have S3 := Lib.hid s3; have S4 := Lib.hid s4; have HNQ := Lib.hid hnq
      clear s1 s2 s3 s4 hnq hne
      go_wp2_with fail
      refine S1.out.mono ?_
      rintro e w' ⟨rfl, e1⟩
      obtain rfl := e1.symm
      go_wp2_with fail
      refine S2.out.mono ?_
      rintro e w' ⟨rfl, e1⟩
      obtain rfl := e1.symm
      go_wp2_with fail
      refine S3.out.mono ?_
      rintro e w' ⟨rfl, e1⟩
      obtain rfl := e1.symm
      go_wp2_with fail
      refine S4.out.mono ?_
      rintro e w' ⟨rfl, e1⟩
      obtain rfl := e1.symm
      go_wp2_with fail
      refine S1.out.mono ?_
      rintro e w' ⟨rfl, e1⟩
      obtain rfl := e1.symm
      clear S1 S2 S3 S4
      have hos : ∀ (i : Nat) (x : Rst), Q[i]? = some x → (outE Q x).length ≤ 6000000 := fun i x hx => by
        unfold outE
        rw [List.length_map]
        exact (edE_bound HKX.out hx).1
      have HOS := Lib.hid hos
      clear hos
      go_wp2
      go_loopw [81] (fun s81 wr => ∃ i : Nat, s81 = .int .i64 (i : Int) ∧ i ≤ nq ∧ Hid (Below w.heap.size w wr) ∧ Hid (Below w8.heap.size w8 wr)) (fun s81 _ => nq - (RowKit.intOf s81).toNat)
      case atStart => exact ⟨0, rfl, Nat.zero_le _, B8, Lib.hid (Below.refl _ _)⟩
      case round =>
        obtain ⟨i, rfl, hin, HB, HBB⟩ := hrel
        by_cases hi : i < nq
        · obtain ⟨x, hx⟩ : ∃ x, Q[i]? = some x := ⟨_, List.getElem?_eq_getElem (by rw [HNQ.out]; exact hi)⟩
          have i1 : (i : Int) < (nq : Int) := by omega
          have o1 := outs_in wr d Q X (HD8.out.below HBB.out) HKX.out i x hx
          have o2 := fun w' (hb : Below wr.heap.size wr w') => outs_in w' d2 Q M ((HE8.out.below HBB.out).below hb) HKM.out i x hx
          have hol := HOS.out i x hx
          obtain ⟨E, hE⟩ : ∃ z, outE Q x = z := ⟨_, rfl⟩
          rw [hE] at o1 hol
          simp only [hE] at o2
          have O1 := Lib.hid o1; have O2 := Lib.hid o2
          clear o1 o2 hE hx
          go_wp2_with fail
          refine O1.out.mono ?_
          rintro e w11 ⟨v11, rfl, g11, b11⟩
          have G11 := Lib.hid g11; have BB11 := Lib.hid b11
          obtain ⟨A11, c11, e11⟩ := g11.slice
          subst e11
          clear g11 b11 O1
          go_wp2_with fail
          refine (O2.out w11 BB11.out).mono ?_
          rintro e w12 ⟨v12, rfl, g12, b12⟩
          have G12 := Lib.hid g12; have GA12 := Lib.hid (G11.out.below b12); have BB12 := Lib.hid (BB11.out.trans (b12.mono BB11.out.size))
          obtain ⟨A12, c12, e12⟩ := g12.slice
          subst e12
          clear g12 b12 O2 G11 BB11
          have ce1 := edges10_any _ E w12 GA12.out hol
          have CE1 := Lib.hid ce1; clear ce1
          go_wp2_with fail
          refine CE1.out.mono ?_
          rintro e w13 ⟨v13, rfl, g13, b13⟩
          have G13 := Lib.hid g13; have GB13 := Lib.hid (G12.out.below b13); have BB13 := Lib.hid (BB12.out.trans (b13.mono BB12.out.size))
          clear g13 b13 CE1 G12 GA12 BB12
          have ce2 := edges10_any _ E w13 GB13.out hol
          have CE2 := Lib.hid ce2; clear ce2
          go_wp2_with fail
          refine CE2.out.mono ?_
          rintro e w14 ⟨v14, rfl, g14, b14⟩
          have G14 := Lib.hid g14; have GA14 := Lib.hid (G13.out.below b14); have BB14 := Lib.hid (BB13.out.trans (b14.mono BB13.out.size))
          clear g14 b14 CE2 G13 GB13 BB13
          have cs := refSame10_eq v13 v14 E w14 GA14.out G14.out
          have CS := Lib.hid cs; clear cs
          go_wp2_with fail
          refine CS.out.mono ?_
          rintro e w15 ⟨rfl, b15⟩
          have h15 := BB14.out.trans (b15.mono BB14.out.size)
          have hf1 := Lib.hid (HB.out.trans (h15.mono HB.out.size)); have hf2 := Lib.hid (HBB.out.trans (h15.mono HBB.out.size))
          clear b15 h15 CS G14 GA14 BB14
          go_wp2
          exact ⟨⟨i + 1, by go_num, by omega, hf1, hf2⟩, by simp [RowKit.intOf]; omega⟩
        · obtain rfl : i = nq := by omega
          have i1 : ¬ (i : Int) < (i : Int) := by omega
          go_wp2
          go_loopw [105] (fun s105 wr => ∃ k : Nat, s105 = .int .i64 (k : Int) ∧ k ≤ j ∧ Hid (Below w.heap.size w wr) ∧ Hid (Below w8.heap.size w8 wr)) (fun s105 _ => j - (RowKit.intOf s105).toNat)
          case atStart => exact ⟨0, rfl, Nat.zero_le _, HB, HBB⟩
          case round =>
            clear HB HBB
            obtain ⟨k, rfl, hkj, HB, HBB⟩ := hrel
            by_cases hk : k < j
            · obtain ⟨⟨x1, x2⟩, hx⟩ : ∃ x, X[k]? = some x := ⟨_, List.getElem?_eq_getElem (by rw [HNX.out]; exact hk)⟩
              have i2 : (k : Int) < (j : Int) := by omega
              have cw := word_in wr d2 M HMN.out Q (by rw [HSM.out]; exact HQ.out) (HE8.out.below HBB.out) k _ (HMA.out k _ hx)
              simp only at cw
              have CW := Lib.hid cw; have HXX := Lib.hid hx
              clear cw hx
              go_wp2_with fail
              refine CW.out.mono ?_
              rintro e w11 ⟨rfl, b11⟩
              have hr12 := ((R8.out.below HBB.out).below b11).below (bel_one w11 (.cells #[.string x1, .int .i64 FF] 55))
              have hb12 : Below wr.heap.size wr (w11.alloc (.cells #[.string x1, .int .i64 FF] 55)) := b11.alloc b11.size _
              have hbx := bx_new w11 55 #[.string x1, .int .i64 FF]
              obtain ⟨B, hB⟩ : ∃ z, w11.heap.size = z := ⟨_, rfl⟩
              obtain ⟨w12, hw12⟩ : ∃ z, w11.alloc (.cells #[.string x1, .int .i64 FF] 55) = z := ⟨_, rfl⟩
              rw [hw12] at hr12 hb12 hbx
              rw [hB] at hbx
              obtain ⟨b, o, eA, hlt, hc⟩ := hr12.cells HNX.out (by omega)
              subst eA
              obtain ⟨g0, g1⟩ := wrd_cells hc HXX.out
              simp only at g0 g1
              obtain ⟨k0, k1⟩ := hbx.two
              have HBN : Hid (∀ q, Below w.heap.size w (w12.drewN q) ∧ Below w8.heap.size w8 (w12.drewN q)) := Lib.hid (fun q => by
                have hbq := hb12.trans ((bel_drewN w12 q).mono hb12.size)
                exact ⟨HB.out.trans (hbq.mono HB.out.size), HBB.out.trans (hbq.mono HBB.out.size)⟩)
              have HW12 := Lib.hid hw12; have HBQ := Lib.hid hB
              clear b11 hr12 hb12 hbx hB hw12 hc hlt CW HXX HB HBB
              go_wp2_with (rw [HW12.out, HBQ.out])
              go_quiet (fail)
              go_wp2
              exact ⟨⟨k + 1, by go_num, by omega, Lib.hid (HBN.out _).1, Lib.hid (HBN.out _).2⟩, by simp [RowKit.intOf]; omega⟩
            · obtain rfl : k = j := by omega
              have i2 : ¬ (k : Int) < (k : Int) := by omega
              go_wp2
              go_ret
              exact ⟨rfl, HB.out⟩
end Go.Proofs.YtnjhbblhlgpgdaaDoor
