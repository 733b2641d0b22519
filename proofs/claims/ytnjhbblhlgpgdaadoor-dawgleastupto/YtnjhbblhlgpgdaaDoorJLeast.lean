/- DawgLeast, walked over what dawg's functions answer. -/
import Derived.Test.YtnjhbblhlgpgdaaDoorPk19
import Derived.Test.YtnjhbblhlgpgdaaDoorJLed
import Derived.Test.YtnjhbblhlgpgdaaDoorPk5
namespace Go.Proofs.YtnjhbblhlgpgdaaDoor
open Go.RowKit Go.Shelf
attribute [local go_sem] Oper.semAt_some
set_option linter.unusedSimpArgs false
set_option linter.unusedVariables false

theorem l_dec {s : ByteArray} (hv : Lib.validD s.data.toList = true) : decErr s.data.toList = 0 ∧ decRunes s.data.toList = rnK s := by
  constructor
  · unfold decErr; rw [if_pos hv]
  · unfold decRunes; rw [if_pos hv]; rfl

set_option maxRecDepth 100000 in
set_option maxHeartbeats 64000000 in
theorem dawgLeast_walk (u : Value) (l : List Wrd) (w : World) (h : Okw w) (hu : WRuns w u l) (hl : l.length ≤ 2000000) (hz : szW l) :
    Calls Tryd.prog 7 #[u] w (RetTrue w) := by
  have n1 := fun w hu => refNormal9_any u l w hu hl hz
  have hzn := szW_nor hz
  have hln := worS_len l
  have g1 := fun v w (hv : WRuns w v (worS l)) => great10_det v (worS l) w hv (fun b hb => by have := hzn b hb; omega)
  have d1 := fun v w hO (hv : WRuns w v (worS l)) => newd_any v (worS l) w hO hv (by omega) hzn
  have hwi : worE l = 0 → wisS (worS l) = 0 := fun e => wor_is e
  have hsz4 : ∀ x ∈ worS l, x.1.size * 4 ≤ 140737488355328 := fun x hx => by have := hzn x hx; omega
  clear hz
  obtain ⟨gr, hgr⟩ : ∃ z, gr10 (worS l) = z := ⟨_, rfl⟩
  obtain ⟨ea, hea⟩ : ∃ z, worE l = z := ⟨_, rfl⟩
  obtain ⟨X, hX⟩ : ∃ z, worS l = z := ⟨_, rfl⟩
  simp only [hgr] at g1
  simp only [hea, hX] at n1
  rw [hea] at hwi
  simp only [hX] at g1 d1 hwi hln hsz4
  obtain ⟨nx, hnx⟩ : ∃ z, X.length = z := ⟨_, rfl⟩
  have hnb : nx ≤ 2000000 := by rw [← hnx]; omega
  have HU := Lib.hid hu; have G1 := Lib.hid g1; have N1 := Lib.hid n1; have D1 := Lib.hid d1; have HWI := Lib.hid hwi; have HNX := Lib.hid hnx; have HS4 := Lib.hid hsz4
  clear hu g1 n1 d1 hwi hnx hgr hea hX hzn hln hl hsz4
  go_enter Tryd.func7, Tryd.ntmps7
  go_wp2_with fail
  refine (alive10_any _ h).mono ?_
  rintro e w1 ⟨rfl, b1⟩
  have U1 := Lib.hid (HU.out.below b1); have K1 : Hid (Okw w1) := Lib.hid (h.below b1)
  have B1 := Lib.hid b1; clear b1
  go_wp2_with fail
  refine (N1.out _ U1.out).mono ?_
  rintro e w2 ⟨va, rfl, ra, b2⟩
  obtain ⟨Aa, ka, ea2⟩ := ra.slice
  rw [HNX.out] at ea2
  subst ea2
  have K2 : Hid (Okw w2) := Lib.hid (K1.out.below b2)
  have R2 := Lib.hid ra
  have B2 := Lib.hid (B1.out.trans (b2.mono B1.out.size)); clear b2 ra U1 K1 B1
  go_wp2_with fail
  refine (G1.out _ _ R2.out).mono ?_
  rintro e w3 ⟨rfl, b3⟩
  have K3 : Hid (Okw w3) := Lib.hid (K2.out.below b3)
  have R3 := Lib.hid (R2.out.below b3)
  have B3 := Lib.hid (B2.out.trans (b3.mono B2.out.size)); clear b3 K2 B2 R2 G1 N1
  cases gr
  rotate_left
  · go_wp2
    go_ret
    exact ⟨rfl, B3.out⟩
  by_cases h0 : ea = 0
  rotate_left
  · have h0' : (ea == 0) = false := by simpa using h0
    have h0'' : (ea != 0) = true := by simpa using h0
    go_wp2
    all_goals (go_ret; exact ⟨rfl, B3.out⟩)
  subst h0
  have hn := HWI.out (by first | rfl | trivial)
  have hri := rnW_rising hn
  have hk := dgOk hn
  have hvx : ∀ x1 x2, (x1, x2) ∈ X → Lib.validD x1.data.toList = true := fun x1 x2 hx => wchk_valid (wall_zero.1 (wisS_facts hn).1 _ hx)
  have hm0 := mstX_zero X
  have hms : ∀ (j : Nat) (x1 : ByteArray) (x2 : Int), X[j]? = some (x1, x2) → mstX X (j + 1) = mstX X j + (rnK x1).length ∧ (rnK x1).length ≤ 2000000 := fun j x1 x2 hx => by
    refine ⟨mstX_succ hx, ?_⟩
    have := (rnW_facts hn (rnK x1) (by unfold rnW; exact List.mem_map.2 ⟨_, List.mem_of_getElem? hx, rfl⟩)).2.1
    omega
  have hma := mstX_all X
  rw [HNX.out] at hma
  have hml := fun j => mstX_le hn j
  have hqm := staQ_most (rnW X)
  rw [← hma] at hqm
  have hed := fun k => (edK_all (rnW_rising hn) k)
  obtain ⟨W, hW⟩ : ∃ z, rnW X = z := ⟨_, rfl⟩
  rw [hW] at hri hk hqm
  have hoa := fun (i : Nat) (x : Rst) (hx : (staQ W)[i]? = some x) (j : Nat) (e : OEd) he => out_at hri (List.mem_of_getElem? hx) (j := j) (e := e) he
  have hos : ∀ (i k : Nat) (x y : Rst), (staQ W)[i]? = some x → (staQ W)[k]? = some y → decide ([] ∈ x) = decide ([] ∈ y) → outE (staQ W) x = outE (staQ W) y → k < i → False := fun i k x y hx hy he ho hik => by
    have e := out_same hri (List.mem_of_getElem? hx) (List.mem_of_getElem? hy) he ho
    subst e
    have := sta_inj hx hy
    omega
  have hon := fun (i : Nat) (x : Rst) (hx : (staQ W)[i]? = some x) he ho => out_none hx he ho
  have hls := fun (w : World) (mb : Nat) (h : LedAt w mb (oeK (staQ W) (staQ W).length)) => led_size h
  obtain ⟨Q, hQ⟩ : ∃ z, staQ W = z := ⟨_, rfl⟩
  rw [hQ] at hk hqm
  simp only [hQ] at hoa hos hon hls
  obtain ⟨mst, hmst⟩ : ∃ z, mstX X = z := ⟨_, rfl⟩
  rw [hmst] at hm0 hqm
  simp only [hmst] at hms hml
  have HMS := Lib.hid hms; have HML := Lib.hid hml; have HOA := Lib.hid hoa; have HOS := Lib.hid hos; have HON := Lib.hid hon; have HLS := Lib.hid hls
  have DEW := Lib.hid (fun x1 x2 (hx : (x1, x2) ∈ X) w (hO : Okw w) => (show Calls Tryd.prog 31 #[.string x1] w fun e w' => ∃ A c, e = .returned (.tuple #[.slice A (rnK x1).length c, .int .i64 0]) ∧ Runs w' (.slice A (rnK x1).length c) (rnK x1) ∧ Below w.heap.size w w' from by
    have c := decode_runs x1 w (HS4.out _ hx) hO.1 hO.2
    obtain ⟨e1, e2⟩ := l_dec (hvx x1 x2 hx)
    rw [e1, e2] at c
    exact c))
  have cn : ∀ w, Okw w → WRuns w (.slice Aa nx ka) X → Calls Tryd.prog 12 #[.slice Aa nx ka] w fun e w' => ∃ d, e = .returned (.tuple #[.pointer (some ⟨d, 0, none⟩), .int .i64 0]) ∧ DgAt w' d Q X ∧ Below w.heap.size w w' := fun w hO hv => (D1.out _ w hO hv).mono (by
    rintro e w' ⟨hb, hp⟩
    rcases hp with ⟨hne, _⟩ | ⟨_, d, e1, hd⟩
    · exact absurd hn hne
    · rw [hW, hQ] at hd
      exact ⟨d, e1, hd, hb⟩)
  have CN := Lib.hid (cn w3 K3.out R3.out)
  have HKO := Lib.hid hk; have HQ := Lib.hid hQ; have HM0 := Lib.hid hm0; have HQM := Lib.hid hqm
  clear cn hri hk hQ hW hvx hn D1 HWI hm0 hms hma hml hqm hed hoa hos hon hls hmst
  go_wp2_with fail
  refine CN.out.mono ?_
  rintro e w4 ⟨d, rfl, hd, b4⟩
  have K4 : Hid (Okw w4) := Lib.hid (K3.out.below b4); have R4 := Lib.hid (R3.out.below b4)
  have B4 := Lib.hid (B3.out.trans (b4.mono B3.out.size)); have HD4 := Lib.hid hd
  clear b4 hd K3 R3 B3 CN
  obtain ⟨nq, hnq⟩ : ∃ z, Q.length = z := ⟨_, rfl⟩
  have hnq6 : nq ≤ 6000000 := by rw [← hnq]; have := HKO.out.qm; omega
  have s1 := states_any w4 d Q X HD4.out HKO.out
  rw [hnq] at s1
  have hqm := HQM.out
  rw [hnq] at hqm
  have S1 := Lib.hid s1; have HNQ := Lib.hid hnq; have HQM2 := Lib.hid hqm
  clear s1 hnq hqm HQM
  go_wp2_with fail
  refine S1.out.mono ?_
  rintro e w' ⟨rfl, e1⟩
  obtain rfl := e1.symm
  clear S1
  obtain ⟨w6, hrun6, hled6, bb6⟩ := LedAt.first w4
  obtain ⟨mp, hmp⟩ : ∃ z, w4.heap.size = z := ⟨_, rfl⟩
  obtain ⟨w5, hw5⟩ : ∃ z, w4.alloc (.map #[] 0) = z := ⟨_, rfl⟩
  have K6 : Hid (Okw w6) := Lib.hid (K4.out.below bb6); have R6 := Lib.hid (R4.out.below bb6); have HD6 := Lib.hid (HD4.out.below bb6)
  have BB6 := Lib.hid bb6
  rw [hw5, hmp] at hrun6
  rw [hmp] at hled6
  have HMP := Lib.hid hmp; have HW5 := Lib.hid hw5; have HL6 := Lib.hid hled6
  clear hmp hw5 hled6 bb6
  have hmm := @run_makeMap Tryd.prog
  go_wp2_with (rw [HW5.out, HMP.out])
  have m1 : (1 : Int) = ((mst 0 : Nat) : Int) := by rw [HM0.out]; rfl
  go_loopw [9, 54] (fun s9 s54 wr => ∃ j : Nat, s54 = .int .i64 (j : Int) ∧ j ≤ nx ∧ s9 = .int .i64 ((mst j : Nat) : Int) ∧ Hid (Below w4.heap.size w4 wr) ∧ Hid (Below w6.heap.size w6 wr)) (fun _ s54 _ => nx - (RowKit.intOf s54).toNat)
  case atStart => exact ⟨0, rfl, Nat.zero_le _, by rw [m1], BB6, Lib.hid (Below.refl _ _)⟩
  case round =>
    clear m1
    obtain ⟨j, rfl, hjn, rfl, HB, HBB⟩ := hrel
    by_cases hj : j < nx
    · obtain ⟨⟨x1, x2⟩, hx⟩ : ∃ x, X[j]? = some x := ⟨_, List.getElem?_eq_getElem (by rw [HNX.out]; exact hj)⟩
      obtain ⟨b, o, rfl, _, hc⟩ := (R6.out.below HBB.out).cells HNX.out (by omega)
      obtain ⟨g0, g1⟩ := wrd_cells hc hx
      simp only at g0 g1
      have i1 : (j : Int) < (nx : Int) := by omega
      have hal : Hid (∀ o : Obj, Below wr.heap.size wr (wr.alloc o)) := Lib.hid (fun o => bel_one wr o)
      have cd := fun w' (hb : Below wr.heap.size wr w') => DEW.out x1 x2 (List.mem_of_getElem? hx) w' ((K6.out.below HBB.out).below hb)
      obtain ⟨ms1, ms2⟩ := HMS.out j x1 x2 hx
      have ml := HML.out j
      obtain ⟨rn, hrn⟩ : ∃ z, (rnK x1).length = z := ⟨_, rfl⟩
      rw [hrn] at ms1 ms2
      simp only [hrn] at cd
      have wp1 := z_wrap_add (mst j) rn (by omega) (by omega)
      rw [← ms1] at wp1
      obtain ⟨m0, hm0⟩ : ∃ z, mst j = z := ⟨_, rfl⟩
      rw [hm0] at wp1 ⊢
      have CD := Lib.hid cd
      clear hc hx cd ms1 ms2 ml hrn hm0
      go_wp2_with fail
      refine (CD.out _ (hal.out _)).mono ?_
      rintro e w11 ⟨A1, c1, rfl, hr1, b11⟩
      have h11 := (hal.out _).trans (b11.mono (hal.out _).size)
      have hf1 := Lib.hid (HB.out.trans (h11.mono HB.out.size)); have hf2 := Lib.hid (HBB.out.trans (h11.mono HBB.out.size))
      clear b11 hr1 h11 CD
      go_wp2
      exact ⟨⟨j + 1, by go_num, by omega, rfl, hf1, hf2⟩, by simp [RowKit.intOf]; omega⟩
    · obtain rfl : j = nx := by omega
      have i1 : ¬ (j : Int) < (j : Int) := by omega
      obtain ⟨wc, rfl⟩ : ∃ wc, wc = wr := ⟨wr, rfl⟩
      have hel0 : (edK Q 0).length = 0 := by rw [edK_zero]; rfl
      have hel1 : ∀ (i : Nat) (x : Rst), Q[i]? = some x → (edK Q (i + 1)).length = (edK Q i).length + (outE Q x).length := fun i x hx => by
        rw [edK_succ hx, List.length_append]
        unfold outE
        rw [List.length_map]
      have hel2 : ∀ i, i < nq → (edK Q i).length ≤ 6000000 ∧ (edK Q (i + 1)).length ≤ 6000000 := fun i hi => by
        have h1 := edK_le (Q := Q) (i := i) (by rw [HNQ.out]; exact hi)
        have h2 := HKO.out.em
        omega
      have hol := fun i => oeK_len Q i
      have hos1 := fun (i : Nat) (x : Rst) (hx : Q[i]? = some x) => oeK_succ hx
      have hell : LedAt wc mp (oeK Q 0) := by rw [oeK_zero]; exact HL6.out.below HBB.out
      obtain ⟨el, hel⟩ : ∃ z, (fun i => (edK Q i).length) = z := ⟨_, rfl⟩
      have hele : ∀ i, (edK Q i).length = el i := fun i => by rw [← hel]
      simp only [hele] at hel0 hel1 hel2 hol
      have EL0 := Lib.hid hel0; have EL1 := Lib.hid hel1; have EL2 := Lib.hid hel2; have HOL := Lib.hid hol; have OS1 := Lib.hid hos1; have HLL := Lib.hid hell; have ELE := Lib.hid hele
      clear hel0 hel1 hel2 hol hos1 hell hel hele HBB
      go_wp2
      have e0 : (0 : Int) = ((el 0 : Nat) : Int) := by rw [EL0.out]; rfl
      go_loopw [8, 70] (fun s8 s70 wr => ∃ i : Nat, s70 = .int .i64 (i : Int) ∧ i ≤ nq ∧ s8 = .int .i64 ((el i : Nat) : Int) ∧ Hid (LedAt wr mp (oeK Q i)) ∧ Hid (Below w4.heap.size w4 wr)) (fun _ s70 _ => nq - (RowKit.intOf s70).toNat)
      case atStart => exact ⟨0, rfl, Nat.zero_le _, by rw [e0], HLL, HB⟩
      case round =>
        clear e0 HB HLL
        obtain ⟨i, rfl, hin, rfl, HL, HB⟩ := hrel
        by_cases hi : i < nq
        · obtain ⟨x, hx⟩ : ∃ x, Q[i]? = some x := ⟨_, List.getElem?_eq_getElem (by rw [HNQ.out]; exact hi)⟩
          have i1' : (i : Int) < (nq : Int) := by omega
          have o1 := outs_in wr d Q X (HD4.out.below HB.out) HKO.out i x hx
          have o2 := fun w' (hb : Below wr.heap.size wr w') => ends_in w' d Q X ((HD4.out.below HB.out).below hb) HKO.out i x hx
          have l1 := EL1.out i x hx
          have l2 := EL2.out i hi
          have l3 := OS1.out i x hx
          have l4 := HOL.out i
          have f1 := fun j e he => HOA.out i x hx j e he
          have f2 := fun he ho => HON.out i x hx he ho
          have f3 := fun k y hy he ho hik => HOS.out i k x y hx hy he ho hik
          obtain ⟨E, hE⟩ : ∃ z, outE Q x = z := ⟨_, rfl⟩
          obtain ⟨en, hen⟩ : ∃ z, decide ([] ∈ x) = z := ⟨_, rfl⟩
          rw [hE] at o1 l1 l3
          simp only [hE] at f1 f2 f3
          rw [hen] at f2
          simp only [hen] at o2 f3
          rw [HNQ.out] at f1
          obtain ⟨no, hno⟩ : ∃ z, E.length = z := ⟨_, rfl⟩
          rw [hno] at l1 f2
          have wp1 := z_wrap_add (el i) no (by omega) (by omega)
          rw [← l1] at wp1
          have O1 := Lib.hid o1; have O2 := Lib.hid o2; have F1 := Lib.hid f1; have F2 := Lib.hid f2; have F3 := Lib.hid f3; have L1 := Lib.hid l1; have L2 := Lib.hid l2; have L3 := Lib.hid l3; have L4 := Lib.hid l4; have HNO := Lib.hid hno; have WP1 := Lib.hid wp1
          clear o1 o2 f1 f2 f3 l1 l2 l3 l4 hE hen hx wp1 hno
          go_wp2_with fail
          refine O1.out.mono ?_
          rintro e w11 ⟨v11, rfl, g11, b11⟩
          obtain ⟨A11, c11, e11⟩ := g11.slice
          rw [HNO.out] at e11
          subst e11
          have G11 := Lib.hid g11; have BB11 := Lib.hid b11
          clear g11 b11 O1
          go_wp2_with fail
          refine (O2.out w11 BB11.out).mono ?_
          rintro e w12 ⟨rfl, b12⟩
          have G12 := Lib.hid (G11.out.below b12); have hb12 := BB11.out.trans (b12.mono BB11.out.size)
          have HL12 := Lib.hid (HL.out.below hb12); have HB12 := Lib.hid (HB.out.trans (hb12.mono HB.out.size))
          clear b12 O2 G11 BB11 hb12 HL HB
          have wp1 := WP1.out
          have hcs : (∃ z, no = z + 1) ∨ (no = 0 ∧ en = true) ∨ (no = 0 ∧ en = false ∧ i = 0) := by
            by_cases h0 : no = 0
            · cases hen : en
              · exact .inr (.inr ⟨h0, rfl, F2.out hen h0⟩)
              · exact .inr (.inl ⟨h0, rfl⟩)
            · exact .inl ⟨no - 1, by omega⟩
          rcases hcs with ⟨z, hz⟩ | ⟨h0, rfl⟩ | ⟨h0, rfl, hi0⟩
          · have n0 : ((no : Int) == 0) = false := by simpa using (by omega : ¬ (no : Int) = 0)
            have n1 : ¬ (no : Int) = 0 := by omega
            clear hz z
            have hc0 : LedAt w12 mp (oeK Q i ++ E.take 0) := by simpa using HL12.out
            have HC0 := Lib.hid hc0
            clear hc0
            go_wp2
            go_loopw [102] (fun s102 wr => ∃ j : Nat, s102 = .int .i64 (j : Int) ∧ j ≤ no ∧ Hid (LedAt wr mp (oeK Q i ++ E.take j)) ∧ Hid (GRuns oeCell 2 wr (.slice A11 no c11) E) ∧ Hid (Below w4.heap.size w4 wr)) (fun s102 _ => no - (RowKit.intOf s102).toNat)
            case atStart => exact ⟨0, rfl, Nat.zero_le _, HC0, G12, HB12⟩
            case round =>
              clear HC0 G12 HB12 HL12
              obtain ⟨j, rfl, hjn, HLc, HG, HB⟩ := hrel
              by_cases hj : j < no
              · obtain ⟨⟨y1, y2⟩, hy⟩ : ∃ y, E[j]? = some y := ⟨_, List.getElem?_eq_getElem (by rw [HNO.out]; exact hj)⟩
                have i2 : (j : Int) < (no : Int) := by omega
                obtain ⟨b, o, rfl, hlt, hc⟩ := HG.out.cells HNO.out (by omega)
                obtain ⟨g0, g1⟩ := oe_cells hc hy
                simp only at g0 g1
                obtain ⟨q0, q1, q2⟩ := F1.out j _ hy
                simp only at q0 q1 q2
                have hal := bel_one wr (.cells #[.int .i32 y1, .int .i64 (y2 : Int)] 73)
                have hbx := bx_new wr 73 #[.int .i32 y1, .int .i64 (y2 : Int)]
                obtain ⟨B, hB⟩ : ∃ z, wr.heap.size = z := ⟨_, rfl⟩
                have hHL := HLc.out.below hal
                have hHG := HG.out.below hal
                have hbal := HB.out.trans (hal.mono HB.out.size)
                obtain ⟨w13, hw13⟩ : ∃ z, wr.alloc (.cells #[.int .i32 y1, .int .i64 (y2 : Int)] 73) = z := ⟨_, rfl⟩
                rw [hw13] at hal hbx hHL hHG hbal
                obtain ⟨k0, k1⟩ := hbx.two
                rw [hB] at k0 k1
                have hln : (oeK Q i ++ E.take j).length ≤ 90000000 := by
                  rw [List.length_append, L4.out, List.length_take]
                  have := L2.out
                  have := L1.out
                  omega
                have hbs := HB.out.size
                have hms := HMP.out
                have hrun : ∀ q, ∃ w', (Instr.mapUpdate 71 (.map (some mp)) (.int .i64 (y2 : Int)) (.bool true)).run Tryd.prog (w13.drewN q) = .ok () w' ∧ LedAt w' mp (oeK Q i ++ E.take (j + 1)) ∧ GRuns oeCell 2 w' (.slice (some ⟨b, o, none⟩) no c11) E ∧ Below w4.heap.size w4 w' := fun q => by
                  obtain ⟨w', r1, r2, r3⟩ := (hHL.below (bel_drewN w13 q)).set hln (y1, y2) (by show y2 ≤ _; omega)
                  refine ⟨w', r1, ?_, (hHL.below (bel_drewN w13 q)).row oe_ln (by decide) r3 (hHG.below (bel_drewN w13 q)), ?_⟩
                  · rw [List.take_add_one, hy]
                    rw [List.append_assoc] at r2
                    exact r2
                  · have h2 := hbal.trans ((bel_drewN w13 q).mono hbal.size)
                    exact h2.grown r3 h2.size (fun k hk => by cases hk; rw [← hms]; exact Nat.le_refl _)
                obtain ⟨yz, hyz⟩ : ∃ z : Int, (y2 : Int) = z := ⟨_, rfl⟩
                have p1 : ¬ yz ≤ 0 := by omega
                have p2 : ¬ (nq : Int) ≤ yz := by omega
                have p1d : decide (yz ≤ 0) = false := decide_eq_false p1
                have p2d : decide ((nq : Int) ≤ yz) = false := decide_eq_false p2
                simp only [hyz] at hw13 k1 hrun g1
                have HRUN := Lib.hid hrun; have HW13 := Lib.hid hw13; have HBQ := Lib.hid hB
                have hprev : ∀ k, j = k + 1 → ∃ z1, w13.cell? ⟨b, o + k * 2, none⟩ = some (.int .i32 z1) ∧ w13.cell? ⟨b, o + k * 2 + 1, none⟩ ≠ none ∧ z1 < y1 := fun k hk => by
                  obtain ⟨⟨z1, z2⟩, hz⟩ : ∃ z, E[k]? = some z := ⟨_, List.getElem?_eq_getElem (by rw [HNO.out]; omega)⟩
                  obtain ⟨m0, m1⟩ := oe_cells hc hz
                  refine ⟨z1, cell_keep hal m0, ?_, q2 k _ (by omega) hz⟩
                  rw [cell_keep hal m1]
                  simp
                have HPREV := Lib.hid hprev
                clear hrun hw13 hB hc hal hbx hHL hHG hbal hlt HLc HG HB hbs hms hln q2 hy hprev hyz q0 q1
                go_wp2_with (rw [HW13.out, HBQ.out])
                obtain ⟨W14, hw14⟩ := Classical.axiomOfChoice HRUN.out
                have hr14 := fun q => (hw14 q).1
                have HW14 := Lib.hid (fun q => (hw14 q).2)
                clear hw14 HRUN
                rcases j with _ | k
                · go_quiet (fail)
                  go_wp2
                  exact ⟨⟨0 + 1, by go_num, by omega, Lib.hid (HW14.out _).1, Lib.hid (HW14.out _).2.1, Lib.hid (HW14.out _).2.2⟩, by simp [RowKit.intOf]; omega⟩
                · obtain ⟨z1, c1, _, hz1⟩ := HPREV.out k rfl
                  obtain ⟨jz, hjz⟩ : ∃ z : Int, ((k + 1 : Nat) : Int) = z := ⟨_, rfl⟩
                  have hno6 : no ≤ 6000000 := by have := L1.out; have := L2.out; omega
                  have s1 : IntKind.i64.wrap (jz - 1) = (k : Int) := by rw [← hjz, IntKind.wrap_i64]; omega
                  have s2 : IntKind.i64.wrap (jz + 1) = ((k + 1 + 1 : Nat) : Int) := by rw [← hjz, IntKind.wrap_i64]; omega
                  have s3 : 0 < jz := by omega
                  have s3d : decide (0 < jz) = true := decide_eq_true s3
                  have i3 : (k : Int) < (no : Int) := by omega
                  have s4 : ¬ y1 ≤ z1 := by omega
                  have s4d : decide (y1 ≤ z1) = false := decide_eq_false s4
                  rw [hjz]
                  have HJZ := Lib.hid hjz
                  clear hjz hz1
                  go_quiet (fail)
                  go_wp2
                  exact ⟨⟨k + 1 + 1, by go_num, by omega, Lib.hid (HW14.out _).1, Lib.hid (HW14.out _).2.1, Lib.hid (HW14.out _).2.2⟩, by simp [RowKit.intOf]; omega⟩
              · obtain rfl : j = no := by omega
                have i2 : ¬ (j : Int) < (j : Int) := by omega
                obtain ⟨wd, rfl⟩ : ∃ wd, wd = wr := ⟨wr, rfl⟩
                have hlc : LedAt wd mp (oeK Q (i + 1)) := by
                  rw [L3.out]
                  have := HLc.out
                  rwa [List.take_of_length_le (by rw [HNO.out]; exact Nat.le_refl _)] at this
                have HLD := Lib.hid hlc
                clear hlc HLc
                go_wp2
                go_loopw [136] (fun s136 wr => ∃ k : Nat, s136 = .int .i64 (k : Int) ∧ k ≤ i ∧ Hid (Below wd.heap.size wd wr)) (fun s136 _ => i - (RowKit.intOf s136).toNat)
                case atStart => exact ⟨0, rfl, Nat.zero_le _, Lib.hid (Below.refl _ _)⟩
                case round =>
                  obtain ⟨k, rfl, hki, HBD⟩ := hrel
                  by_cases hk : k < i
                  · obtain ⟨y, hy⟩ : ∃ y, Q[k]? = some y := ⟨_, List.getElem?_eq_getElem (by rw [HNQ.out]; omega)⟩
                    have i3 : (k : Int) < (i : Int) := by omega
                    have hd4 := HD4.out.below (HB.out.trans (HBD.out.mono HB.out.size))
                    have o1 := outs_in wr d Q X hd4 HKO.out k y hy
                    have o2 := fun w' (hb : Below wr.heap.size wr w') => ends_in w' d Q X (hd4.below hb) HKO.out k y hy
                    have f3 := fun he ho => F3.out k y hy he ho hk
                    have hgE := HG.out.below HBD.out
                    obtain ⟨E2, hE⟩ : ∃ z, outE Q y = z := ⟨_, rfl⟩
                    obtain ⟨en2, hen⟩ : ∃ z, decide ([] ∈ y) = z := ⟨_, rfl⟩
                    rw [hE] at o1
                    simp only [hen] at o2
                    rw [hE, hen] at f3
                    obtain ⟨no2, hno2⟩ : ∃ z, E2.length = z := ⟨_, rfl⟩
                    have O1 := Lib.hid o1; have O2 := Lib.hid o2; have F4 := Lib.hid f3; have HN2 := Lib.hid hno2; have HGE := Lib.hid hgE
                    clear o1 o2 f3 hE hen hno2 hy hgE hd4
                    go_wp2_with fail
                    refine O1.out.mono ?_
                    rintro e w15 ⟨v15, rfl, g15, b15⟩
                    obtain ⟨A15, c15, e15⟩ := g15.slice
                    rw [HN2.out] at e15
                    subst e15
                    have G15 := Lib.hid g15; have BB15 := Lib.hid b15; have GE15 := Lib.hid (HGE.out.below b15)
                    clear g15 b15 O1 HGE
                    go_wp2_with fail
                    refine (O2.out w15 BB15.out).mono ?_
                    rintro e w16 ⟨rfl, b16⟩
                    have G16 := Lib.hid (G15.out.below b16); have GE16 := Lib.hid (GE15.out.below b16); have hb16 := BB15.out.trans (b16.mono BB15.out.size)
                    have HB16 := Lib.hid (HBD.out.trans (hb16.mono HBD.out.size))
                    clear b16 O2 G15 GE15 BB15 hb16 HBD
                    by_cases he : en2 = en
                    rotate_left
                    · have he1 : (en2 == en) = false := by simpa using he
                      clear F4 he
                      go_wp2
                      go_loopw [26, 27] (fun s26 s27 wr => s26 = .bool false ∧ s27 = .int .i64 0 ∧ wr = w16) (fun _ _ _ => 0)
                      case atStart => exact ⟨rfl, rfl, rfl⟩
                      case round =>
                        obtain ⟨rfl, rfl, rfl⟩ := hrel
                        go_wp2
                        exact ⟨⟨k + 1, by go_num, by omega, HB16⟩, by simp [RowKit.intOf]; omega⟩
                    subst he
                    by_cases hl2 : no2 = j
                    rotate_left
                    · have hl3 : ((j : Int) == (no2 : Int)) = false := by simpa using (by omega : ¬ (j : Int) = (no2 : Int))
                      clear F4 hl2
                      go_wp2
                      go_loopw [26, 27] (fun s26 s27 wr => s26 = .bool false ∧ s27 = .int .i64 0 ∧ wr = w16) (fun _ _ _ => 0)
                      case atStart => exact ⟨rfl, rfl, rfl⟩
                      case round =>
                        obtain ⟨rfl, rfl, rfl⟩ := hrel
                        go_wp2
                        exact ⟨⟨k + 1, by go_num, by omega, HB16⟩, by simp [RowKit.intOf]; omega⟩
                    subst hl2
                    have hno6 : no2 ≤ 6000000 := by have := L1.out; have := L2.out; omega
                    have hz0 : ∀ m, m < 0 → E[m]? = E2[m]? := fun m hm => absurd hm (by omega)
                    have HZ0 := Lib.hid hz0
                    clear hz0
                    go_wp2
                    go_loopw [26, 27] (fun s26 s27 wr => ∃ (m : Nat) (sm : Bool), s27 = .int .i64 (m : Int) ∧ s26 = .bool sm ∧ m ≤ no2 ∧ Hid (sm = true → ∀ m', m' < m → E[m']? = E2[m']?) ∧ Hid (Below w16.heap.size w16 wr)) (fun _ s27 _ => no2 - (RowKit.intOf s27).toNat)
                    case atStart => exact ⟨0, true, rfl, rfl, Nat.zero_le _, Lib.hid (fun _ => HZ0.out), Lib.hid (Below.refl _ _)⟩
                    case round =>
                      obtain ⟨m, sm, rfl, rfl, hmn, HZ, HBE⟩ := hrel
                      have HBF := Lib.hid (HB16.out.trans (HBE.out.mono HB16.out.size))
                      cases sm
                      · clear F4 HZ HZ0
                        go_wp2
                        exact ⟨⟨k + 1, by go_num, by omega, HBF⟩, by simp [RowKit.intOf]; omega⟩
                      · by_cases hm : m < no2
                        · have i5 : (m : Int) < (no2 : Int) := by omega
                          have i5d : decide ((m : Int) < (no2 : Int)) = true := decide_eq_true i5
                          obtain ⟨⟨y1, y2⟩, hy1⟩ : ∃ z, E[m]? = some z := ⟨_, List.getElem?_eq_getElem (by rw [HNO.out]; exact hm)⟩
                          obtain ⟨⟨z1, z2⟩, hz1⟩ : ∃ z, E2[m]? = some z := ⟨_, List.getElem?_eq_getElem (by rw [HN2.out]; exact hm)⟩
                          obtain ⟨b, o, rfl, _, hc⟩ := (GE16.out.below HBE.out).cells HNO.out (by omega)
                          obtain ⟨b', o', rfl, _, hc'⟩ := (G16.out.below HBE.out).cells HN2.out (by omega)
                          obtain ⟨g0, g1⟩ := oe_cells hc hy1
                          obtain ⟨g0', g1'⟩ := oe_cells hc' hz1
                          simp only at g0 g1 g0' g1'
                          have hst : y1 = z1 → (y2 : Int) = (z2 : Int) → ∀ m', m' < m + 1 → E[m']? = E2[m']? := fun e1 e2 m' hm' => by
                            by_cases e3 : m' = m
                            · subst e3
                              rw [hy1, hz1, e1, show y2 = z2 by omega]
                            · exact HZ.out rfl m' (by omega)
                          obtain ⟨y3, hy3⟩ : ∃ z : Int, (y2 : Int) = z := ⟨_, rfl⟩
                          obtain ⟨z3, hz3⟩ : ∃ z : Int, (z2 : Int) = z := ⟨_, rfl⟩
                          rw [hy3] at g1
                          rw [hz3] at g1'
                          rw [hy3, hz3] at hst
                          have hfr : ∀ q, Below w16.heap.size w16 (wr.drewN q) := fun q => HBE.out.trans ((bel_drewN wr q).mono HBE.out.size)
                          have HST := Lib.hid hst; have HFR := Lib.hid hfr
                          clear hst hfr hc hc' hy1 hz1 hy3 hz3 HZ HZ0 F4 HBE HBF
                          have hcs : (y1 = z1 ∧ y3 = z3) ∨ (y1 == z1) = false ∨ ((y1 == z1) = true ∧ (y3 == z3) = false) := by
                            by_cases h1 : y1 = z1
                            · by_cases h2 : y3 = z3
                              · exact .inl ⟨h1, h2⟩
                              · exact .inr (.inr ⟨by simpa using h1, by simpa using h2⟩)
                            · exact .inr (.inl (by simpa using h1))
                          rcases hcs with ⟨rfl, rfl⟩ | h1 | ⟨h1, h2⟩
                          · go_wp2
                            go_quiet (fail)
                            go_wp2
                            exact ⟨⟨m + 1, true, by go_num, rfl, by omega, Lib.hid (fun _ => HST.out (by first | rfl | trivial) (by first | rfl | trivial)), Lib.hid (HFR.out _)⟩, by simp [RowKit.intOf]; omega⟩
                          all_goals
                            go_wp2
                            go_quiet (fail)
                            go_wp2
                            exact ⟨⟨m + 1, false, by go_num, by first | rfl | simp_all, by omega, Lib.hid (fun h => by cases h), Lib.hid (HFR.out _)⟩, by simp [RowKit.intOf]; omega⟩
                        · obtain rfl : m = no2 := by omega
                          exact absurd (F4.out (by first | rfl | trivial) (List.ext_getElem? (fun q => by
                            by_cases hq : q < m
                            · exact HZ.out rfl q hq
                            · rw [List.getElem?_eq_none (by rw [HNO.out]; omega), List.getElem?_eq_none (by rw [HN2.out]; omega)]))) (fun h => h)
                  · obtain rfl : k = i := by omega
                    have i3 : ¬ (k : Int) < (k : Int) := by omega
                    have hbb := HB.out.trans (HBD.out.mono HB.out.size)
                    have hbl := HLD.out.below HBD.out
                    have HBB := Lib.hid hbb; have HBL := Lib.hid hbl
                    clear hbb hbl HB HBD HLD
                    go_wp2
                    exact ⟨⟨k + 1, by go_num, by omega, rfl, HBL, HBB⟩, by simp [RowKit.intOf]; omega⟩
          · have n0 : ((no : Int) == 0) = true := by rw [h0]; rfl
            clear h0
            have hc0 : LedAt w12 mp (oeK Q i ++ E.take 0) := by simpa using HL12.out
            have HC0 := Lib.hid hc0
            clear hc0
            go_wp2
            go_loopw [102] (fun s102 wr => ∃ j : Nat, s102 = .int .i64 (j : Int) ∧ j ≤ no ∧ Hid (LedAt wr mp (oeK Q i ++ E.take j)) ∧ Hid (GRuns oeCell 2 wr (.slice A11 no c11) E) ∧ Hid (Below w4.heap.size w4 wr)) (fun s102 _ => no - (RowKit.intOf s102).toNat)
            case atStart => exact ⟨0, rfl, Nat.zero_le _, HC0, G12, HB12⟩
            case round =>
              clear HC0 G12 HB12 HL12
              obtain ⟨j, rfl, hjn, HLc, HG, HB⟩ := hrel
              by_cases hj : j < no
              · obtain ⟨⟨y1, y2⟩, hy⟩ : ∃ y, E[j]? = some y := ⟨_, List.getElem?_eq_getElem (by rw [HNO.out]; exact hj)⟩
                have i2 : (j : Int) < (no : Int) := by omega
                obtain ⟨b, o, rfl, hlt, hc⟩ := HG.out.cells HNO.out (by omega)
                obtain ⟨g0, g1⟩ := oe_cells hc hy
                simp only at g0 g1
                obtain ⟨q0, q1, q2⟩ := F1.out j _ hy
                simp only at q0 q1 q2
                have hal := bel_one wr (.cells #[.int .i32 y1, .int .i64 (y2 : Int)] 73)
                have hbx := bx_new wr 73 #[.int .i32 y1, .int .i64 (y2 : Int)]
                obtain ⟨B, hB⟩ : ∃ z, wr.heap.size = z := ⟨_, rfl⟩
                have hHL := HLc.out.below hal
                have hHG := HG.out.below hal
                have hbal := HB.out.trans (hal.mono HB.out.size)
                obtain ⟨w13, hw13⟩ : ∃ z, wr.alloc (.cells #[.int .i32 y1, .int .i64 (y2 : Int)] 73) = z := ⟨_, rfl⟩
                rw [hw13] at hal hbx hHL hHG hbal
                obtain ⟨k0, k1⟩ := hbx.two
                rw [hB] at k0 k1
                have hln : (oeK Q i ++ E.take j).length ≤ 90000000 := by
                  rw [List.length_append, L4.out, List.length_take]
                  have := L2.out
                  have := L1.out
                  omega
                have hbs := HB.out.size
                have hms := HMP.out
                have hrun : ∀ q, ∃ w', (Instr.mapUpdate 71 (.map (some mp)) (.int .i64 (y2 : Int)) (.bool true)).run Tryd.prog (w13.drewN q) = .ok () w' ∧ LedAt w' mp (oeK Q i ++ E.take (j + 1)) ∧ GRuns oeCell 2 w' (.slice (some ⟨b, o, none⟩) no c11) E ∧ Below w4.heap.size w4 w' := fun q => by
                  obtain ⟨w', r1, r2, r3⟩ := (hHL.below (bel_drewN w13 q)).set hln (y1, y2) (by show y2 ≤ _; omega)
                  refine ⟨w', r1, ?_, (hHL.below (bel_drewN w13 q)).row oe_ln (by decide) r3 (hHG.below (bel_drewN w13 q)), ?_⟩
                  · rw [List.take_add_one, hy]
                    rw [List.append_assoc] at r2
                    exact r2
                  · have h2 := hbal.trans ((bel_drewN w13 q).mono hbal.size)
                    exact h2.grown r3 h2.size (fun k hk => by cases hk; rw [← hms]; exact Nat.le_refl _)
                obtain ⟨yz, hyz⟩ : ∃ z : Int, (y2 : Int) = z := ⟨_, rfl⟩
                have p1 : ¬ yz ≤ 0 := by omega
                have p2 : ¬ (nq : Int) ≤ yz := by omega
                have p1d : decide (yz ≤ 0) = false := decide_eq_false p1
                have p2d : decide ((nq : Int) ≤ yz) = false := decide_eq_false p2
                simp only [hyz] at hw13 k1 hrun g1
                have HRUN := Lib.hid hrun; have HW13 := Lib.hid hw13; have HBQ := Lib.hid hB
                have hprev : ∀ k, j = k + 1 → ∃ z1, w13.cell? ⟨b, o + k * 2, none⟩ = some (.int .i32 z1) ∧ w13.cell? ⟨b, o + k * 2 + 1, none⟩ ≠ none ∧ z1 < y1 := fun k hk => by
                  obtain ⟨⟨z1, z2⟩, hz⟩ : ∃ z, E[k]? = some z := ⟨_, List.getElem?_eq_getElem (by rw [HNO.out]; omega)⟩
                  obtain ⟨m0, m1⟩ := oe_cells hc hz
                  refine ⟨z1, cell_keep hal m0, ?_, q2 k _ (by omega) hz⟩
                  rw [cell_keep hal m1]
                  simp
                have HPREV := Lib.hid hprev
                clear hrun hw13 hB hc hal hbx hHL hHG hbal hlt HLc HG HB hbs hms hln q2 hy hprev hyz q0 q1
                go_wp2_with (rw [HW13.out, HBQ.out])
                obtain ⟨W14, hw14⟩ := Classical.axiomOfChoice HRUN.out
                have hr14 := fun q => (hw14 q).1
                have HW14 := Lib.hid (fun q => (hw14 q).2)
                clear hw14 HRUN
                rcases j with _ | k
                · go_quiet (fail)
                  go_wp2
                  exact ⟨⟨0 + 1, by go_num, by omega, Lib.hid (HW14.out _).1, Lib.hid (HW14.out _).2.1, Lib.hid (HW14.out _).2.2⟩, by simp [RowKit.intOf]; omega⟩
                · obtain ⟨z1, c1, _, hz1⟩ := HPREV.out k rfl
                  obtain ⟨jz, hjz⟩ : ∃ z : Int, ((k + 1 : Nat) : Int) = z := ⟨_, rfl⟩
                  have hno6 : no ≤ 6000000 := by have := L1.out; have := L2.out; omega
                  have s1 : IntKind.i64.wrap (jz - 1) = (k : Int) := by rw [← hjz, IntKind.wrap_i64]; omega
                  have s2 : IntKind.i64.wrap (jz + 1) = ((k + 1 + 1 : Nat) : Int) := by rw [← hjz, IntKind.wrap_i64]; omega
                  have s3 : 0 < jz := by omega
                  have s3d : decide (0 < jz) = true := decide_eq_true s3
                  have i3 : (k : Int) < (no : Int) := by omega
                  have s4 : ¬ y1 ≤ z1 := by omega
                  have s4d : decide (y1 ≤ z1) = false := decide_eq_false s4
                  rw [hjz]
                  have HJZ := Lib.hid hjz
                  clear hjz hz1
                  go_quiet (fail)
                  go_wp2
                  exact ⟨⟨k + 1 + 1, by go_num, by omega, Lib.hid (HW14.out _).1, Lib.hid (HW14.out _).2.1, Lib.hid (HW14.out _).2.2⟩, by simp [RowKit.intOf]; omega⟩
              · obtain rfl : j = no := by omega
                have i2 : ¬ (j : Int) < (j : Int) := by omega
                obtain ⟨wd, rfl⟩ : ∃ wd, wd = wr := ⟨wr, rfl⟩
                have hlc : LedAt wd mp (oeK Q (i + 1)) := by
                  rw [L3.out]
                  have := HLc.out
                  rwa [List.take_of_length_le (by rw [HNO.out]; exact Nat.le_refl _)] at this
                have HLD := Lib.hid hlc
                clear hlc HLc
                go_wp2
                go_loopw [136] (fun s136 wr => ∃ k : Nat, s136 = .int .i64 (k : Int) ∧ k ≤ i ∧ Hid (Below wd.heap.size wd wr)) (fun s136 _ => i - (RowKit.intOf s136).toNat)
                case atStart => exact ⟨0, rfl, Nat.zero_le _, Lib.hid (Below.refl _ _)⟩
                case round =>
                  obtain ⟨k, rfl, hki, HBD⟩ := hrel
                  by_cases hk : k < i
                  · obtain ⟨y, hy⟩ : ∃ y, Q[k]? = some y := ⟨_, List.getElem?_eq_getElem (by rw [HNQ.out]; omega)⟩
                    have i3 : (k : Int) < (i : Int) := by omega
                    have hd4 := HD4.out.below (HB.out.trans (HBD.out.mono HB.out.size))
                    have o1 := outs_in wr d Q X hd4 HKO.out k y hy
                    have o2 := fun w' (hb : Below wr.heap.size wr w') => ends_in w' d Q X (hd4.below hb) HKO.out k y hy
                    have f3 := fun he ho => F3.out k y hy he ho hk
                    have hgE := HG.out.below HBD.out
                    obtain ⟨E2, hE⟩ : ∃ z, outE Q y = z := ⟨_, rfl⟩
                    obtain ⟨en2, hen⟩ : ∃ z, decide ([] ∈ y) = z := ⟨_, rfl⟩
                    rw [hE] at o1
                    simp only [hen] at o2
                    rw [hE, hen] at f3
                    obtain ⟨no2, hno2⟩ : ∃ z, E2.length = z := ⟨_, rfl⟩
                    have O1 := Lib.hid o1; have O2 := Lib.hid o2; have F4 := Lib.hid f3; have HN2 := Lib.hid hno2; have HGE := Lib.hid hgE
                    clear o1 o2 f3 hE hen hno2 hy hgE hd4
                    go_wp2_with fail
                    refine O1.out.mono ?_
                    rintro e w15 ⟨v15, rfl, g15, b15⟩
                    obtain ⟨A15, c15, e15⟩ := g15.slice
                    rw [HN2.out] at e15
                    subst e15
                    have G15 := Lib.hid g15; have BB15 := Lib.hid b15; have GE15 := Lib.hid (HGE.out.below b15)
                    clear g15 b15 O1 HGE
                    go_wp2_with fail
                    refine (O2.out w15 BB15.out).mono ?_
                    rintro e w16 ⟨rfl, b16⟩
                    have G16 := Lib.hid (G15.out.below b16); have GE16 := Lib.hid (GE15.out.below b16); have hb16 := BB15.out.trans (b16.mono BB15.out.size)
                    have HB16 := Lib.hid (HBD.out.trans (hb16.mono HBD.out.size))
                    clear b16 O2 G15 GE15 BB15 hb16 HBD
                    by_cases he : en2 = true
                    rotate_left
                    · obtain rfl : en2 = false := by simpa using he
                      clear F4
                      go_wp2
                      go_loopw [26, 27] (fun s26 s27 wr => s26 = .bool false ∧ s27 = .int .i64 0 ∧ wr = w16) (fun _ _ _ => 0)
                      case atStart => exact ⟨rfl, rfl, rfl⟩
                      case round =>
                        obtain ⟨rfl, rfl, rfl⟩ := hrel
                        go_wp2
                        exact ⟨⟨k + 1, by go_num, by omega, HB16⟩, by simp [RowKit.intOf]; omega⟩
                    subst he
                    by_cases hl2 : no2 = j
                    rotate_left
                    · have hl3 : ((j : Int) == (no2 : Int)) = false := by simpa using (by omega : ¬ (j : Int) = (no2 : Int))
                      clear F4 hl2
                      go_wp2
                      go_loopw [26, 27] (fun s26 s27 wr => s26 = .bool false ∧ s27 = .int .i64 0 ∧ wr = w16) (fun _ _ _ => 0)
                      case atStart => exact ⟨rfl, rfl, rfl⟩
                      case round =>
                        obtain ⟨rfl, rfl, rfl⟩ := hrel
                        go_wp2
                        exact ⟨⟨k + 1, by go_num, by omega, HB16⟩, by simp [RowKit.intOf]; omega⟩
                    subst hl2
                    have hno6 : no2 ≤ 6000000 := by have := L1.out; have := L2.out; omega
                    have hz0 : ∀ m, m < 0 → E[m]? = E2[m]? := fun m hm => absurd hm (by omega)
                    have HZ0 := Lib.hid hz0
                    clear hz0
                    go_wp2
                    go_loopw [26, 27] (fun s26 s27 wr => ∃ (m : Nat) (sm : Bool), s27 = .int .i64 (m : Int) ∧ s26 = .bool sm ∧ m ≤ no2 ∧ Hid (sm = true → ∀ m', m' < m → E[m']? = E2[m']?) ∧ Hid (Below w16.heap.size w16 wr)) (fun _ s27 _ => no2 - (RowKit.intOf s27).toNat)
                    case atStart => exact ⟨0, true, rfl, rfl, Nat.zero_le _, Lib.hid (fun _ => HZ0.out), Lib.hid (Below.refl _ _)⟩
                    case round =>
                      obtain ⟨m, sm, rfl, rfl, hmn, HZ, HBE⟩ := hrel
                      have HBF := Lib.hid (HB16.out.trans (HBE.out.mono HB16.out.size))
                      cases sm
                      · clear F4 HZ HZ0
                        go_wp2
                        exact ⟨⟨k + 1, by go_num, by omega, HBF⟩, by simp [RowKit.intOf]; omega⟩
                      · by_cases hm : m < no2
                        · have i5 : (m : Int) < (no2 : Int) := by omega
                          have i5d : decide ((m : Int) < (no2 : Int)) = true := decide_eq_true i5
                          obtain ⟨⟨y1, y2⟩, hy1⟩ : ∃ z, E[m]? = some z := ⟨_, List.getElem?_eq_getElem (by rw [HNO.out]; exact hm)⟩
                          obtain ⟨⟨z1, z2⟩, hz1⟩ : ∃ z, E2[m]? = some z := ⟨_, List.getElem?_eq_getElem (by rw [HN2.out]; exact hm)⟩
                          obtain ⟨b, o, rfl, _, hc⟩ := (GE16.out.below HBE.out).cells HNO.out (by omega)
                          obtain ⟨b', o', rfl, _, hc'⟩ := (G16.out.below HBE.out).cells HN2.out (by omega)
                          obtain ⟨g0, g1⟩ := oe_cells hc hy1
                          obtain ⟨g0', g1'⟩ := oe_cells hc' hz1
                          simp only at g0 g1 g0' g1'
                          have hst : y1 = z1 → (y2 : Int) = (z2 : Int) → ∀ m', m' < m + 1 → E[m']? = E2[m']? := fun e1 e2 m' hm' => by
                            by_cases e3 : m' = m
                            · subst e3
                              rw [hy1, hz1, e1, show y2 = z2 by omega]
                            · exact HZ.out rfl m' (by omega)
                          obtain ⟨y3, hy3⟩ : ∃ z : Int, (y2 : Int) = z := ⟨_, rfl⟩
                          obtain ⟨z3, hz3⟩ : ∃ z : Int, (z2 : Int) = z := ⟨_, rfl⟩
                          rw [hy3] at g1
                          rw [hz3] at g1'
                          rw [hy3, hz3] at hst
                          have hfr : ∀ q, Below w16.heap.size w16 (wr.drewN q) := fun q => HBE.out.trans ((bel_drewN wr q).mono HBE.out.size)
                          have HST := Lib.hid hst; have HFR := Lib.hid hfr
                          clear hst hfr hc hc' hy1 hz1 hy3 hz3 HZ HZ0 F4 HBE HBF
                          have hcs : (y1 = z1 ∧ y3 = z3) ∨ (y1 == z1) = false ∨ ((y1 == z1) = true ∧ (y3 == z3) = false) := by
                            by_cases h1 : y1 = z1
                            · by_cases h2 : y3 = z3
                              · exact .inl ⟨h1, h2⟩
                              · exact .inr (.inr ⟨by simpa using h1, by simpa using h2⟩)
                            · exact .inr (.inl (by simpa using h1))
                          rcases hcs with ⟨rfl, rfl⟩ | h1 | ⟨h1, h2⟩
                          · go_wp2
                            go_quiet (fail)
                            go_wp2
                            exact ⟨⟨m + 1, true, by go_num, rfl, by omega, Lib.hid (fun _ => HST.out (by first | rfl | trivial) (by first | rfl | trivial)), Lib.hid (HFR.out _)⟩, by simp [RowKit.intOf]; omega⟩
                          all_goals
                            go_wp2
                            go_quiet (fail)
                            go_wp2
                            exact ⟨⟨m + 1, false, by go_num, by first | rfl | simp_all, by omega, Lib.hid (fun h => by cases h), Lib.hid (HFR.out _)⟩, by simp [RowKit.intOf]; omega⟩
                        · obtain rfl : m = no2 := by omega
                          exact absurd (F4.out (by first | rfl | trivial) (List.ext_getElem? (fun q => by
                            by_cases hq : q < m
                            · exact HZ.out rfl q hq
                            · rw [List.getElem?_eq_none (by rw [HNO.out]; omega), List.getElem?_eq_none (by rw [HN2.out]; omega)]))) (fun h => h)
                  · obtain rfl : k = i := by omega
                    have i3 : ¬ (k : Int) < (k : Int) := by omega
                    have hbb := HB.out.trans (HBD.out.mono HB.out.size)
                    have hbl := HLD.out.below HBD.out
                    have HBB := Lib.hid hbb; have HBL := Lib.hid hbl
                    clear hbb hbl HB HBD HLD
                    go_wp2
                    exact ⟨⟨k + 1, by go_num, by omega, rfl, HBL, HBB⟩, by simp [RowKit.intOf]; omega⟩
          · have n0 : ((no : Int) == 0) = true := by rw [h0]; rfl
            obtain ⟨iz, hiz⟩ : ∃ z : Int, (i : Int) = z := ⟨_, rfl⟩
            have n2 : ¬ 0 < iz := by omega
            have n1 : decide (0 < iz) = false := decide_eq_false n2
            rw [hiz]
            have HIZ := Lib.hid hiz
            clear hiz h0 hi0
            have hc0 : LedAt w12 mp (oeK Q i ++ E.take 0) := by simpa using HL12.out
            have HC0 := Lib.hid hc0
            clear hc0
            go_wp2
            have hiz := HIZ.out
            clear n1 n2 HIZ
            subst hiz
            go_loopw [102] (fun s102 wr => ∃ j : Nat, s102 = .int .i64 (j : Int) ∧ j ≤ no ∧ Hid (LedAt wr mp (oeK Q i ++ E.take j)) ∧ Hid (GRuns oeCell 2 wr (.slice A11 no c11) E) ∧ Hid (Below w4.heap.size w4 wr)) (fun s102 _ => no - (RowKit.intOf s102).toNat)
            case atStart => exact ⟨0, rfl, Nat.zero_le _, HC0, G12, HB12⟩
            case round =>
              clear HC0 G12 HB12 HL12
              obtain ⟨j, rfl, hjn, HLc, HG, HB⟩ := hrel
              by_cases hj : j < no
              · obtain ⟨⟨y1, y2⟩, hy⟩ : ∃ y, E[j]? = some y := ⟨_, List.getElem?_eq_getElem (by rw [HNO.out]; exact hj)⟩
                have i2 : (j : Int) < (no : Int) := by omega
                obtain ⟨b, o, rfl, hlt, hc⟩ := HG.out.cells HNO.out (by omega)
                obtain ⟨g0, g1⟩ := oe_cells hc hy
                simp only at g0 g1
                obtain ⟨q0, q1, q2⟩ := F1.out j _ hy
                simp only at q0 q1 q2
                have hal := bel_one wr (.cells #[.int .i32 y1, .int .i64 (y2 : Int)] 73)
                have hbx := bx_new wr 73 #[.int .i32 y1, .int .i64 (y2 : Int)]
                obtain ⟨B, hB⟩ : ∃ z, wr.heap.size = z := ⟨_, rfl⟩
                have hHL := HLc.out.below hal
                have hHG := HG.out.below hal
                have hbal := HB.out.trans (hal.mono HB.out.size)
                obtain ⟨w13, hw13⟩ : ∃ z, wr.alloc (.cells #[.int .i32 y1, .int .i64 (y2 : Int)] 73) = z := ⟨_, rfl⟩
                rw [hw13] at hal hbx hHL hHG hbal
                obtain ⟨k0, k1⟩ := hbx.two
                rw [hB] at k0 k1
                have hln : (oeK Q i ++ E.take j).length ≤ 90000000 := by
                  rw [List.length_append, L4.out, List.length_take]
                  have := L2.out
                  have := L1.out
                  omega
                have hbs := HB.out.size
                have hms := HMP.out
                have hrun : ∀ q, ∃ w', (Instr.mapUpdate 71 (.map (some mp)) (.int .i64 (y2 : Int)) (.bool true)).run Tryd.prog (w13.drewN q) = .ok () w' ∧ LedAt w' mp (oeK Q i ++ E.take (j + 1)) ∧ GRuns oeCell 2 w' (.slice (some ⟨b, o, none⟩) no c11) E ∧ Below w4.heap.size w4 w' := fun q => by
                  obtain ⟨w', r1, r2, r3⟩ := (hHL.below (bel_drewN w13 q)).set hln (y1, y2) (by show y2 ≤ _; omega)
                  refine ⟨w', r1, ?_, (hHL.below (bel_drewN w13 q)).row oe_ln (by decide) r3 (hHG.below (bel_drewN w13 q)), ?_⟩
                  · rw [List.take_add_one, hy]
                    rw [List.append_assoc] at r2
                    exact r2
                  · have h2 := hbal.trans ((bel_drewN w13 q).mono hbal.size)
                    exact h2.grown r3 h2.size (fun k hk => by cases hk; rw [← hms]; exact Nat.le_refl _)
                obtain ⟨yz, hyz⟩ : ∃ z : Int, (y2 : Int) = z := ⟨_, rfl⟩
                have p1 : ¬ yz ≤ 0 := by omega
                have p2 : ¬ (nq : Int) ≤ yz := by omega
                have p1d : decide (yz ≤ 0) = false := decide_eq_false p1
                have p2d : decide ((nq : Int) ≤ yz) = false := decide_eq_false p2
                simp only [hyz] at hw13 k1 hrun g1
                have HRUN := Lib.hid hrun; have HW13 := Lib.hid hw13; have HBQ := Lib.hid hB
                have hprev : ∀ k, j = k + 1 → ∃ z1, w13.cell? ⟨b, o + k * 2, none⟩ = some (.int .i32 z1) ∧ w13.cell? ⟨b, o + k * 2 + 1, none⟩ ≠ none ∧ z1 < y1 := fun k hk => by
                  obtain ⟨⟨z1, z2⟩, hz⟩ : ∃ z, E[k]? = some z := ⟨_, List.getElem?_eq_getElem (by rw [HNO.out]; omega)⟩
                  obtain ⟨m0, m1⟩ := oe_cells hc hz
                  refine ⟨z1, cell_keep hal m0, ?_, q2 k _ (by omega) hz⟩
                  rw [cell_keep hal m1]
                  simp
                have HPREV := Lib.hid hprev
                clear hrun hw13 hB hc hal hbx hHL hHG hbal hlt HLc HG HB hbs hms hln q2 hy hprev hyz q0 q1
                go_wp2_with (rw [HW13.out, HBQ.out])
                obtain ⟨W14, hw14⟩ := Classical.axiomOfChoice HRUN.out
                have hr14 := fun q => (hw14 q).1
                have HW14 := Lib.hid (fun q => (hw14 q).2)
                clear hw14 HRUN
                rcases j with _ | k
                · go_quiet (fail)
                  go_wp2
                  exact ⟨⟨0 + 1, by go_num, by omega, Lib.hid (HW14.out _).1, Lib.hid (HW14.out _).2.1, Lib.hid (HW14.out _).2.2⟩, by simp [RowKit.intOf]; omega⟩
                · obtain ⟨z1, c1, _, hz1⟩ := HPREV.out k rfl
                  obtain ⟨jz, hjz⟩ : ∃ z : Int, ((k + 1 : Nat) : Int) = z := ⟨_, rfl⟩
                  have hno6 : no ≤ 6000000 := by have := L1.out; have := L2.out; omega
                  have s1 : IntKind.i64.wrap (jz - 1) = (k : Int) := by rw [← hjz, IntKind.wrap_i64]; omega
                  have s2 : IntKind.i64.wrap (jz + 1) = ((k + 1 + 1 : Nat) : Int) := by rw [← hjz, IntKind.wrap_i64]; omega
                  have s3 : 0 < jz := by omega
                  have s3d : decide (0 < jz) = true := decide_eq_true s3
                  have i3 : (k : Int) < (no : Int) := by omega
                  have s4 : ¬ y1 ≤ z1 := by omega
                  have s4d : decide (y1 ≤ z1) = false := decide_eq_false s4
                  rw [hjz]
                  have HJZ := Lib.hid hjz
                  clear hjz hz1
                  go_quiet (fail)
                  go_wp2
                  exact ⟨⟨k + 1 + 1, by go_num, by omega, Lib.hid (HW14.out _).1, Lib.hid (HW14.out _).2.1, Lib.hid (HW14.out _).2.2⟩, by simp [RowKit.intOf]; omega⟩
              · obtain rfl : j = no := by omega
                have i2 : ¬ (j : Int) < (j : Int) := by omega
                obtain ⟨wd, rfl⟩ : ∃ wd, wd = wr := ⟨wr, rfl⟩
                have hlc : LedAt wd mp (oeK Q (i + 1)) := by
                  rw [L3.out]
                  have := HLc.out
                  rwa [List.take_of_length_le (by rw [HNO.out]; exact Nat.le_refl _)] at this
                have HLD := Lib.hid hlc
                clear hlc HLc
                go_wp2
                go_loopw [136] (fun s136 wr => ∃ k : Nat, s136 = .int .i64 (k : Int) ∧ k ≤ i ∧ Hid (Below wd.heap.size wd wr)) (fun s136 _ => i - (RowKit.intOf s136).toNat)
                case atStart => exact ⟨0, rfl, Nat.zero_le _, Lib.hid (Below.refl _ _)⟩
                case round =>
                  obtain ⟨k, rfl, hki, HBD⟩ := hrel
                  by_cases hk : k < i
                  · obtain ⟨y, hy⟩ : ∃ y, Q[k]? = some y := ⟨_, List.getElem?_eq_getElem (by rw [HNQ.out]; omega)⟩
                    have i3 : (k : Int) < (i : Int) := by omega
                    have hd4 := HD4.out.below (HB.out.trans (HBD.out.mono HB.out.size))
                    have o1 := outs_in wr d Q X hd4 HKO.out k y hy
                    have o2 := fun w' (hb : Below wr.heap.size wr w') => ends_in w' d Q X (hd4.below hb) HKO.out k y hy
                    have f3 := fun he ho => F3.out k y hy he ho hk
                    have hgE := HG.out.below HBD.out
                    obtain ⟨E2, hE⟩ : ∃ z, outE Q y = z := ⟨_, rfl⟩
                    obtain ⟨en2, hen⟩ : ∃ z, decide ([] ∈ y) = z := ⟨_, rfl⟩
                    rw [hE] at o1
                    simp only [hen] at o2
                    rw [hE, hen] at f3
                    obtain ⟨no2, hno2⟩ : ∃ z, E2.length = z := ⟨_, rfl⟩
                    have O1 := Lib.hid o1; have O2 := Lib.hid o2; have F4 := Lib.hid f3; have HN2 := Lib.hid hno2; have HGE := Lib.hid hgE
                    clear o1 o2 f3 hE hen hno2 hy hgE hd4
                    go_wp2_with fail
                    refine O1.out.mono ?_
                    rintro e w15 ⟨v15, rfl, g15, b15⟩
                    obtain ⟨A15, c15, e15⟩ := g15.slice
                    rw [HN2.out] at e15
                    subst e15
                    have G15 := Lib.hid g15; have BB15 := Lib.hid b15; have GE15 := Lib.hid (HGE.out.below b15)
                    clear g15 b15 O1 HGE
                    go_wp2_with fail
                    refine (O2.out w15 BB15.out).mono ?_
                    rintro e w16 ⟨rfl, b16⟩
                    have G16 := Lib.hid (G15.out.below b16); have GE16 := Lib.hid (GE15.out.below b16); have hb16 := BB15.out.trans (b16.mono BB15.out.size)
                    have HB16 := Lib.hid (HBD.out.trans (hb16.mono HBD.out.size))
                    clear b16 O2 G15 GE15 BB15 hb16 HBD
                    by_cases he : en2 = false
                    rotate_left
                    · obtain rfl : en2 = true := by simpa using he
                      clear F4
                      go_wp2
                      go_loopw [26, 27] (fun s26 s27 wr => s26 = .bool false ∧ s27 = .int .i64 0 ∧ wr = w16) (fun _ _ _ => 0)
                      case atStart => exact ⟨rfl, rfl, rfl⟩
                      case round =>
                        obtain ⟨rfl, rfl, rfl⟩ := hrel
                        go_wp2
                        exact ⟨⟨k + 1, by go_num, by omega, HB16⟩, by simp [RowKit.intOf]; omega⟩
                    subst he
                    by_cases hl2 : no2 = j
                    rotate_left
                    · have hl3 : ((j : Int) == (no2 : Int)) = false := by simpa using (by omega : ¬ (j : Int) = (no2 : Int))
                      clear F4 hl2
                      go_wp2
                      go_loopw [26, 27] (fun s26 s27 wr => s26 = .bool false ∧ s27 = .int .i64 0 ∧ wr = w16) (fun _ _ _ => 0)
                      case atStart => exact ⟨rfl, rfl, rfl⟩
                      case round =>
                        obtain ⟨rfl, rfl, rfl⟩ := hrel
                        go_wp2
                        exact ⟨⟨k + 1, by go_num, by omega, HB16⟩, by simp [RowKit.intOf]; omega⟩
                    subst hl2
                    have hno6 : no2 ≤ 6000000 := by have := L1.out; have := L2.out; omega
                    have hz0 : ∀ m, m < 0 → E[m]? = E2[m]? := fun m hm => absurd hm (by omega)
                    have HZ0 := Lib.hid hz0
                    clear hz0
                    go_wp2
                    go_loopw [26, 27] (fun s26 s27 wr => ∃ (m : Nat) (sm : Bool), s27 = .int .i64 (m : Int) ∧ s26 = .bool sm ∧ m ≤ no2 ∧ Hid (sm = true → ∀ m', m' < m → E[m']? = E2[m']?) ∧ Hid (Below w16.heap.size w16 wr)) (fun _ s27 _ => no2 - (RowKit.intOf s27).toNat)
                    case atStart => exact ⟨0, true, rfl, rfl, Nat.zero_le _, Lib.hid (fun _ => HZ0.out), Lib.hid (Below.refl _ _)⟩
                    case round =>
                      obtain ⟨m, sm, rfl, rfl, hmn, HZ, HBE⟩ := hrel
                      have HBF := Lib.hid (HB16.out.trans (HBE.out.mono HB16.out.size))
                      cases sm
                      · clear F4 HZ HZ0
                        go_wp2
                        exact ⟨⟨k + 1, by go_num, by omega, HBF⟩, by simp [RowKit.intOf]; omega⟩
                      · by_cases hm : m < no2
                        · have i5 : (m : Int) < (no2 : Int) := by omega
                          have i5d : decide ((m : Int) < (no2 : Int)) = true := decide_eq_true i5
                          obtain ⟨⟨y1, y2⟩, hy1⟩ : ∃ z, E[m]? = some z := ⟨_, List.getElem?_eq_getElem (by rw [HNO.out]; exact hm)⟩
                          obtain ⟨⟨z1, z2⟩, hz1⟩ : ∃ z, E2[m]? = some z := ⟨_, List.getElem?_eq_getElem (by rw [HN2.out]; exact hm)⟩
                          obtain ⟨b, o, rfl, _, hc⟩ := (GE16.out.below HBE.out).cells HNO.out (by omega)
                          obtain ⟨b', o', rfl, _, hc'⟩ := (G16.out.below HBE.out).cells HN2.out (by omega)
                          obtain ⟨g0, g1⟩ := oe_cells hc hy1
                          obtain ⟨g0', g1'⟩ := oe_cells hc' hz1
                          simp only at g0 g1 g0' g1'
                          have hst : y1 = z1 → (y2 : Int) = (z2 : Int) → ∀ m', m' < m + 1 → E[m']? = E2[m']? := fun e1 e2 m' hm' => by
                            by_cases e3 : m' = m
                            · subst e3
                              rw [hy1, hz1, e1, show y2 = z2 by omega]
                            · exact HZ.out rfl m' (by omega)
                          obtain ⟨y3, hy3⟩ : ∃ z : Int, (y2 : Int) = z := ⟨_, rfl⟩
                          obtain ⟨z3, hz3⟩ : ∃ z : Int, (z2 : Int) = z := ⟨_, rfl⟩
                          rw [hy3] at g1
                          rw [hz3] at g1'
                          rw [hy3, hz3] at hst
                          have hfr : ∀ q, Below w16.heap.size w16 (wr.drewN q) := fun q => HBE.out.trans ((bel_drewN wr q).mono HBE.out.size)
                          have HST := Lib.hid hst; have HFR := Lib.hid hfr
                          clear hst hfr hc hc' hy1 hz1 hy3 hz3 HZ HZ0 F4 HBE HBF
                          have hcs : (y1 = z1 ∧ y3 = z3) ∨ (y1 == z1) = false ∨ ((y1 == z1) = true ∧ (y3 == z3) = false) := by
                            by_cases h1 : y1 = z1
                            · by_cases h2 : y3 = z3
                              · exact .inl ⟨h1, h2⟩
                              · exact .inr (.inr ⟨by simpa using h1, by simpa using h2⟩)
                            · exact .inr (.inl (by simpa using h1))
                          rcases hcs with ⟨rfl, rfl⟩ | h1 | ⟨h1, h2⟩
                          · go_wp2
                            go_quiet (fail)
                            go_wp2
                            exact ⟨⟨m + 1, true, by go_num, rfl, by omega, Lib.hid (fun _ => HST.out (by first | rfl | trivial) (by first | rfl | trivial)), Lib.hid (HFR.out _)⟩, by simp [RowKit.intOf]; omega⟩
                          all_goals
                            go_wp2
                            go_quiet (fail)
                            go_wp2
                            exact ⟨⟨m + 1, false, by go_num, by first | rfl | simp_all, by omega, Lib.hid (fun h => by cases h), Lib.hid (HFR.out _)⟩, by simp [RowKit.intOf]; omega⟩
                        · obtain rfl : m = no2 := by omega
                          exact absurd (F4.out (by first | rfl | trivial) (List.ext_getElem? (fun q => by
                            by_cases hq : q < m
                            · exact HZ.out rfl q hq
                            · rw [List.getElem?_eq_none (by rw [HNO.out]; omega), List.getElem?_eq_none (by rw [HN2.out]; omega)]))) (fun h => h)
                  · obtain rfl : k = i := by omega
                    have i3 : ¬ (k : Int) < (k : Int) := by omega
                    have hbb := HB.out.trans (HBD.out.mono HB.out.size)
                    have hbl := HLD.out.below HBD.out
                    have HBB := Lib.hid hbb; have HBL := Lib.hid hbl
                    clear hbb hbl HB HBD HLD
                    go_wp2
                    exact ⟨⟨k + 1, by go_num, by omega, rfl, HBL, HBB⟩, by simp [RowKit.intOf]; omega⟩
        · obtain rfl : i = nq := by omega
          have i1' : ¬ (i : Int) < (i : Int) := by omega
          have hlz := HL.out
          rw [← HNQ.out] at hlz
          obtain ⟨D, nD, hm1, hm2⟩ := HLS.out _ _ hlz
          rw [HNQ.out] at hm2
          have ce := edges_any wr d Q X (HD4.out.below HB.out)
          rw [HNQ.out, ELE.out] at ce
          have CE := Lib.hid ce; have HM1 := Lib.hid hm1; have HM2 := Lib.hid hm2
          have hbw := B4.out.trans (HB.out.mono B4.out.size)
          have HBW := Lib.hid hbw
          have hq1 : (i : Int) ≤ ((mst j : Nat) : Int) := by have := HQM2.out; omega
          have hq1d : decide ((i : Int) ≤ ((mst j : Nat) : Int)) = true := decide_eq_true hq1
          clear hlz ce hm1 hm2 hbw HL HB
          go_wp2_with (first
            | (at_len; refine wpList_len_own _ rfl _ 71 rfl 3 4 Tryd.underlying71 _ mp _ D rfl HM1.out ?_; rw [HM2.out])
            | fail)
          refine CE.out.mono ?_
          rintro e w' ⟨rfl, e1⟩
          obtain rfl := e1.symm
          go_wp2
          go_ret
          exact ⟨ret_bool (by simp), HBW.out⟩
end Go.Proofs.YtnjhbblhlgpgdaaDoor
