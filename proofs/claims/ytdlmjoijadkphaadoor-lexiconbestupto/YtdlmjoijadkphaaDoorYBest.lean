/- LexiconBest, walked over what lexicon's functions answer. -/
import Derived.Test.YtdlmjoijadkphaaDoorYMap
import Derived.Test.YtdlmjoijadkphaaDoorYBegP
import Derived.Test.YtdlmjoijadkphaaDoorXPlace
namespace Go.Proofs.YtdlmjoijadkphaaDoor
open Go.RowKit Go.Shelf
set_option linter.unusedSimpArgs false
set_option linter.unusedVariables false

set_option maxRecDepth 100000 in
set_option maxHeartbeats 64000000 in
theorem lexiconBest_walk (u : Value) (l : List Wrd) (kk : Int) (hk0 : 0 ≤ kk) (hk1 : kk < 256) (w : World) (h : Okw w) (hu : WRuns w u l) (hl : l.length ≤ 2000000) (hz : szW l) :
    Calls Tryd.prog 8 #[u, .int .u8 kk] w (RetTrue w) := by
  have g1 := fun w hu => great9_det u l w hu (fun b hb => by have := hz b hb; omega)
  have n1 := fun w hO hu => xnormal_any u l w hO hu hl hz
  have hgl := fun (hg : grW l = false) => (grW_no hg).1
  have fnd := fun v k w hO hv => xfind_any v (worS l) k w hO hv (by have := worS_len l; omega) (szW_nor hz)
  have bst1 := fun v w hO hv => xbest_any v (worS l) kk w hO hv (by have := worS_len l; omega) (szW_nor hz)
  have hszx := szW_nor hz
  have hfx : worE l = 0 → wisS (worS l) = 0 ∧ SrtW (worS l) ∧ frB (worS l) := fun h0 => ⟨wor_is h0, (wisS_facts (wor_is h0)).2.1, frB_of (wisS_facts (wor_is h0)).1⟩
  obtain ⟨gr, hgr⟩ : ∃ z, grW l = z := ⟨_, rfl⟩
  obtain ⟨ea, hea⟩ : ∃ z, worE l = z := ⟨_, rfl⟩
  have hxl := worS_len l
  obtain ⟨X, hX⟩ : ∃ z, worS l = z := ⟨_, rfl⟩
  simp only [hgr] at g1 hgl
  simp only [hea, hX] at n1 hfx
  simp only [hX] at fnd bst1 hxl hszx
  obtain ⟨nx, hnx⟩ : ∃ z, X.length = z := ⟨_, rfl⟩
  rw [hnx] at hxl
  obtain ⟨A, c, e⟩ := hu.slice
  obtain ⟨n, hn⟩ : ∃ n, l.length = n := ⟨_, rfl⟩
  rw [hn] at e hl hgl hxl
  subst e
  have HU := Lib.hid hu; have G1 := Lib.hid g1; have N1 := Lib.hid n1; have HGL := Lib.hid hgl; have FND := Lib.hid fnd; have BST := Lib.hid bst1; have HFX := Lib.hid hfx; have HNX := Lib.hid hnx; have HSX := Lib.hid hszx
  clear hu g1 n1 hgl fnd bst1 hfx hnx hn hz hgr hea hX hszx
  go_enter Tryd.func8, Tryd.ntmps8
  go_wp2_with fail
  refine (alive9_any _ h).mono ?_
  rintro e w1 ⟨rfl, b1⟩
  have U1 := Lib.hid (HU.out.below b1); have K1 : Hid (Okw w1) := Lib.hid (h.below b1)
  have B1 := Lib.hid b1; clear b1
  go_wp2_with fail
  refine (N1.out _ K1.out U1.out).mono ?_
  rintro e w2 ⟨va, rfl, ra, b2⟩
  obtain ⟨Aa, ka, ea2⟩ := ra.slice
  rw [HNX.out] at ea2
  subst ea2
  have U2 := Lib.hid (U1.out.below b2); have K2 : Hid (Okw w2) := Lib.hid (K1.out.below b2)
  have R2 := Lib.hid ra
  have B2 := Lib.hid (B1.out.trans (b2.mono B1.out.size)); clear b2 ra U1 K1 B1
  go_wp2_with fail
  refine (G1.out _ U2.out).mono ?_
  rintro e w3 ⟨rfl, b3⟩
  have K3 : Hid (Okw w3) := Lib.hid (K2.out.below b3)
  have R3 := Lib.hid (R2.out.below b3)
  have B3 := Lib.hid (B2.out.trans (b3.mono B2.out.size)); clear b3 U2 K2 B2 R2 G1 N1
  cases gr
  rotate_left
  · go_wp2
    go_ret
    exact ⟨rfl, B3.out⟩
  by_cases h0 : ea = 0
  rotate_left
  · have h0' : (ea == 0) = false := by simpa using h0
    have h0'' : (ea != 0) = true := by simpa using h0
    go_wp2
    go_ret
    exact ⟨rfl, B3.out⟩
  subst h0
  have hn5 := HGL.out (by first | rfl | trivial)
  obtain ⟨hwx, hsx, hfb⟩ := HFX.out (by first | rfl | trivial)
  have cb := BST.out (.slice Aa nx ka) w3 K3.out R3.out
  have hbe : wbE X kk = 0 := by unfold wbE; rw [if_pos hwx, if_neg (by omega)]
  have hbs : wbS X kk = (bst X).take kk.toNat := by unfold wbS; rw [if_pos hbe]
  rw [hbe, hbs] at cb
  have hin : ∀ x ∈ (bst X).take kk.toNat, x ∈ X := fun x hx => (bst_perm X).subset (List.mem_of_mem_take hx)
  have hkey := fun i x hx => bst_keys hsx kk.toNat i x hx
  have hnxt := fun i y x hy hx => bst_next hsx kk.toNat i y x hy hx
  have hout := fun last w hl hw hno => bst_out hsx kk.toNat last w hl hw hno
  have hyl : ((bst X).take kk.toNat).length = min kk.toNat nx := by rw [List.length_take, bst_len, HNX.out]
  have hfd : ∀ x ∈ X, wfS X x.1 = x.2 ∧ wfE X x.1 = 0 := fun x hx => by
    have h1 := frq_srt hsx hfb x hx
    have h2 := (hfb x hx).1
    unfold wfS wfE
    rw [if_pos hwx, if_pos hwx, h1, if_neg (by omega)]
    exact ⟨rfl, rfl⟩
  obtain ⟨Y, hY⟩ : ∃ z, (bst X).take kk.toNat = z := ⟨_, rfl⟩
  simp only [hY] at cb hin hkey hnxt hout hyl
  obtain ⟨ny, hny⟩ : ∃ z, Y.length = z := ⟨_, rfl⟩
  rw [hny] at hyl
  have hmin : min kk (nx : Int) = (ny : Int) := by omega
  have hny5 : ny ≤ 500 := by omega
  have hwk : IntKind.i64.wrap kk = kk := by rw [IntKind.wrap_i64]; omega
  have CB := Lib.hid cb; have HIN := Lib.hid hin; have HKEY := Lib.hid hkey; have HNXT := Lib.hid hnxt; have HOUT := Lib.hid hout; have HFD := Lib.hid hfd; have HNY := Lib.hid hny
  clear hyl cb hbe hbs hin hkey hnxt hout hfd hY hny hwx hsx hfb HGL HFX BST
  go_wp2_with fail
  refine CB.out.mono ?_
  rintro e w4 ⟨vb, rfl, rb, b4⟩
  obtain ⟨Ab, kb, eb⟩ := rb.slice
  rw [HNY.out] at eb
  subst eb
  have K4 : Hid (Okw w4) := Lib.hid (K3.out.below b4)
  have R4 := Lib.hid (R3.out.below b4)
  have Q4 := Lib.hid rb
  have B4 := Lib.hid (B3.out.trans (b4.mono B3.out.size)); clear b4 K3 R3 B3 CB rb
  have hmd := SetMap.made w4
  have bm : Below w4.heap.size w4 (w4.alloc (.map #[] 0)) := bel_one _ _
  obtain ⟨w5, hw5⟩ : ∃ z, w4.alloc (.map #[] 0) = z := ⟨_, rfl⟩
  rw [hw5] at hmd bm
  obtain ⟨mp, hmp⟩ : ∃ z, w4.heap.size = z := ⟨_, rfl⟩
  rw [hmp] at hmd
  have HMD := Lib.hid hmd; have HMP := Lib.hid hmp; have HW5 := Lib.hid hw5; have BM := Lib.hid bm
  clear hmd hmp hw5 bm
  have hmm := @run_makeMap Tryd.prog
  go_wp2
  rw [HW5.out, HMP.out]
  clear hmm hmin hwk
  go_loopw [52] (fun s52 wr => ∃ (j : Nat) (D : DataW Unit), j ≤ ny ∧ s52 = .int .i64 j ∧ Hid (SetMap wr mp j D) ∧ Hid (ViewS D (Y.take j)) ∧ Hid (Below w4.heap.size w4 wr)) (fun s52 _ => ny - (RowKit.intOf s52).toNat)
  case atStart => exact ⟨0, .map [], Nat.zero_le _, rfl, HMD, Lib.hid (by simpa using ViewS.none_), BM⟩
  case round =>
    obtain ⟨j, D, hjn, rfl, HD, HV, BW⟩ := hrel
    by_cases hj : j < ny
    · have j1 : (j : Int) < (ny : Int) := by omega
      obtain ⟨⟨p1, p2⟩, hp⟩ : ∃ p, Y[j]? = some p := ⟨_, List.getElem?_eq_getElem (by rw [HNY.out]; exact hj)⟩
      obtain ⟨b, o, rfl, hblt, hcc⟩ := (Q4.out.below BW.out).cells HNY.out (by omega)
      obtain ⟨e0, e1⟩ := wrd_cells hcc hp
      simp only at e0 e1
      have hal := bel_one wr (.cells #[.string p1, .int .i64 p2] 24)
      obtain ⟨i0, i1⟩ := cells2_new wr (.string p1) (.int .i64 p2) 24
      have hbxl : wr.heap.size < (wr.alloc (.cells #[.string p1, .int .i64 p2] 24)).heap.size := by simp
      obtain ⟨wa, hwa⟩ : ∃ z, wr.alloc (.cells #[.string p1, .int .i64 p2] 24) = z := ⟨_, rfl⟩
      rw [hwa] at hal i0 i1 hbxl
      obtain ⟨bx, hbx⟩ : ∃ z, wr.heap.size = z := ⟨_, rfl⟩
      rw [hbx] at i0 i1 hbxl
      have HWA := Lib.hid hwa; have HBX := Lib.hid hbx
      have BA := BW.out.trans (hal.mono BW.out.size)
      have cf := FND.out (.slice Aa nx ka) p1 wa (K4.out.below BA) (R4.out.below BA)
      obtain ⟨q1, q2⟩ := HFD.out _ (HIN.out _ (List.mem_of_getElem? hp))
      simp only at q1 q2
      rw [q1, q2] at cf
      have hsz1 := HSX.out _ (HIN.out _ (List.mem_of_getElem? hp))
      simp only at hsz1
      have hno : ¬ ∃ y ∈ Y.take j, y.1 = p1 := HKEY.out j _ hp
      have CF := Lib.hid cf; have HAL := Lib.hid hal; have HNO := Lib.hid hno; have HP := Lib.hid hp
      have HI : Hid (wa.cell? ⟨bx, 0, none⟩ = some (.string p1) ∧ wa.cell? ⟨bx, 1, none⟩ = some (.int .i64 p2)) := Lib.hid ⟨i0, i1⟩
      have HBA := Lib.hid BA
      have HC := Lib.hid hcc
      clear hcc hp hal hwa hbx cf q1 q2 hno BA i0 i1
      go_wp2_with fail
      rw [HWA.out, HBX.out]
      refine CF.out.mono ?_
      rintro e w6 ⟨rfl, b6⟩
      have y0 := (b6.cell (p := ⟨bx, 0, none⟩) hbxl).trans HI.out.1
      have y1 := (b6.cell (p := ⟨bx, 1, none⟩) hbxl).trans HI.out.2
      have HM6 := Lib.hid ((HD.out.kept (grown_none HAL.out) (by simp)).kept (grown_none b6) (by simp))
      have B6 : Hid (Below w4.heap.size w4 w6) := Lib.hid (HBA.out.trans (b6.mono HBA.out.size))
      have hlk : ∀ q, (Instr.lookup 49 (.map (some mp)) (.string p1) false).run Tryd.prog (w6.drewN q) = .ok (.bool false) (w6.drewN q) := fun q => by
        have hM : SetMap (w6.drewN q) mp j D := HM6.out
        have := SetMap.look hM HV.out (s := p1) (by unfold maxLen; omega)
        rw [decide_eq_false HNO.out] at this
        exact this
      have hlk1 : (Instr.lookup 49 (.map (some mp)) (.string p1) false).run Tryd.prog w6.drew = .ok (.bool false) w6.drew := hlk 1
      clear b6 CF HWA HBX HAL e0 e1 HI HBA
      have fin : ∀ q, ∃ w9 D9, (Instr.mapUpdate 49 (.map (some mp)) (.string p1) (.bool true)).run Tryd.prog (w6.drewN q) = .ok () w9 ∧ SetMap w9 mp (j + 1) D9 ∧ ViewS D9 (Y.take (j + 1)) ∧ Below w4.heap.size w4 w9 := fun q => by
        have hM : SetMap (w6.drewN q) mp j D := HM6.out
        obtain ⟨w9, D9, h1, h2, h3, h4⟩ := SetMap.set hM HV.out (by omega) (p1, p2) (by show p1.size ≤ maxLen; unfold maxLen; omega)
        refine ⟨w9, D9, h1, h2, by rw [List.take_add_one, HP.out]; exact h3, (below_draws B6.out q).grown h4 (below_draws B6.out q).size (fun k hk => by cases hk; rw [HMP.out]; exact Nat.le_refl _)⟩
      have FIN := Lib.hid fin; clear fin
      rcases Nat.eq_zero_or_pos j with hj0 | hj0
      · subst hj0
        go_wp2
        go_quiet (fail)
        obtain ⟨w9, D9, h1, h2, h3, h4⟩ := FIN.out nq
        have H2 := Lib.hid h2; have H3 := Lib.hid h3; have H4 := Lib.hid h4
        clear h2 h3 h4 FIN hlk hlk1
        go_wp2
        exact ⟨⟨1, D9, by omega, by go_num, H2, H3, H4⟩, by simp [RowKit.intOf]; omega⟩
      · obtain ⟨i, hi⟩ : ∃ i, j = i + 1 := ⟨j - 1, by omega⟩
        obtain ⟨⟨y1', y2'⟩, hy⟩ : ∃ p, Y[i]? = some p := ⟨_, List.getElem?_eq_getElem (by rw [HNY.out]; omega)⟩
        obtain ⟨b', o', eb', _, hcc⟩ := (Q4.out.below B6.out).cells HNY.out (by omega)
        have eb1 := Option.some.inj eb'
        simp only [Addr.mk.injEq] at eb1
        obtain ⟨rfl, rfl, _⟩ := eb1
        obtain ⟨f0, f1⟩ := wrd_cells hcc hy
        simp only at f0 f1
        have hlt := HNXT.out i _ _ hy (by rw [← hi]; exact HP.out)
        have hwr : IntKind.i64.wrap ((j : Int) - 1) = (i : Int) := by rw [IntKind.wrap_i64]; omega
        have a1 : (0 : Int) < (j : Int) := by omega
        have a2 : (i : Int) < (ny : Int) := by omega
        have a3 : (0 : Int) ≤ (i : Int) := by omega
        have EI := Lib.hid hi
        clear hcc hy eb' hi HC
        rcases hlt with hlt | ⟨he, hlt⟩
        · simp only at hlt
          have a4 : ¬ y2' < p2 := by omega
          have a5 : ¬ y2' = p2 := by omega
          clear hlt
          go_wp2
          go_quiet (fail)
          obtain ⟨w9, D9, h1, h2, h3, h4⟩ := FIN.out nq
          have H2 := Lib.hid h2; have H3 := Lib.hid h3; have H4 := Lib.hid h4
          clear h2 h3 h4 FIN hlk hlk1
          go_wp2
          exact ⟨⟨j + 1, D9, by omega, by go_num, H2, H3, H4⟩, by simp [RowKit.intOf]; omega⟩
        · simp only at he hlt
          unfold ltK at hlt
          have a4 : ¬ y2' < p2 := by omega
          have a5 : (y2' == p2) = true := by simpa using he
          clear he
          go_wp2
          go_quiet (fail)
          obtain ⟨w9, D9, h1, h2, h3, h4⟩ := FIN.out nq
          have H2 := Lib.hid h2; have H3 := Lib.hid h3; have H4 := Lib.hid h4
          clear h2 h3 h4 FIN hlk hlk1
          go_wp2
          exact ⟨⟨j + 1, D9, by omega, by go_num, H2, H3, H4⟩, by simp [RowKit.intOf]; omega⟩
    · obtain rfl : j = ny := by omega
      rw [show Y.take j = Y by rw [← HNY.out]; exact List.take_length] at HV
      obtain ⟨wo, rfl⟩ : ∃ wo, wo = wr := ⟨wr, rfl⟩
      have R5 := Lib.hid (R4.out.below BW.out)
      have Q5 := Lib.hid (Q4.out.below BW.out)
      have B5 := Lib.hid (B4.out.trans (BW.out.mono B4.out.size))
      clear R4 Q4 B4 BW HMD BM HW5 K4 FND HFD HKEY HNXT
      go_wp2
      go_loopw [121] (fun s121 wq => ∃ k : Nat, k ≤ nx ∧ s121 = .int .i64 k ∧ Hid (Below wo.heap.size wo wq)) (fun s121 _ => nx - (RowKit.intOf s121).toNat)
      case atStart => exact ⟨0, Nat.zero_le _, rfl, Lib.hid (Below.refl _ _)⟩
      case round =>
        obtain ⟨k, hkn, rfl, BQ⟩ := hrel
        by_cases hk : k < nx
        · have k1 : (k : Int) < (nx : Int) := by omega
          obtain ⟨⟨p1, p2⟩, hp⟩ : ∃ p, X[k]? = some p := ⟨_, List.getElem?_eq_getElem (by rw [HNX.out]; exact hk)⟩
          obtain ⟨b, o, rfl, _, hcc⟩ := (R5.out.below BQ.out).cells HNX.out (by omega)
          obtain ⟨e0, e1⟩ := wrd_cells hcc hp
          simp only at e0 e1
          have hsz1 := HSX.out _ (List.mem_of_getElem? hp)
          simp only at hsz1
          have hal := bel_one wr (.cells #[.string p1, .int .i64 p2] 24)
          have hM : SetMap (wr.alloc (.cells #[.string p1, .int .i64 p2] 24)) mp j D := (HD.out.kept (grown_none BQ.out) (by simp)).kept (grown_none hal) (by simp)
          have hlk := SetMap.look hM HV.out (s := p1) (by unfold maxLen; omega)
          have HAL := Lib.hid (BQ.out.trans (hal.mono BQ.out.size))
          have HXM := Lib.hid (List.mem_of_getElem? hp)
          clear hcc hp hal hM
          by_cases hin : ∃ x ∈ Y, x.1 = p1
          · rw [decide_eq_true hin] at hlk
            clear hin
            go_wp2
            exact ⟨⟨k + 1, by omega, by go_num, HAL⟩, by simp [RowKit.intOf]; omega⟩
          · rw [decide_eq_false hin] at hlk
            rcases Nat.eq_zero_or_pos j with hj0 | hj0
            · have a1 : ¬ (0 : Int) < (j : Int) := by omega
              clear hin
              go_wp2
              exact ⟨⟨k + 1, by omega, by go_num, HAL⟩, by simp [RowKit.intOf]; omega⟩
            · obtain ⟨i, hi⟩ : ∃ i, j = i + 1 := ⟨j - 1, by omega⟩
              obtain ⟨⟨y1, y2⟩, hy⟩ : ∃ p, Y[i]? = some p := ⟨_, List.getElem?_eq_getElem (by rw [HNY.out]; omega)⟩
              obtain ⟨b', o', rfl, _, hcc⟩ := ((Q5.out.below BQ.out).below (bel_one wr (.cells #[.string p1, .int .i64 p2] 24))).cells HNY.out (by omega)
              obtain ⟨f0, f1⟩ := wrd_cells hcc hy
              simp only at f0 f1
              have hnl := HOUT.out _ _ (List.mem_of_getElem? hy) HXM.out (fun x hx e => hin ⟨x, hx, e⟩)
              have hwr : IntKind.i64.wrap ((j : Int) - 1) = (i : Int) := by rw [IntKind.wrap_i64]; omega
              have a1 : (0 : Int) < (j : Int) := by omega
              have a2 : (i : Int) < (j : Int) := by omega
              have a3 : (0 : Int) ≤ (i : Int) := by omega
              have hal2 := Lib.hid (HAL.out.trans ((bel_one (wr.alloc (.cells #[.string p1, .int .i64 p2] 24)) (.cells #[.string y1, .int .i64 y2] 24)).mono HAL.out.size))
              have a4 : ¬ y2 < p2 := fun hh => hnl (.inl hh)
              clear hcc hy hi hin
              by_cases he : p2 = y2
              · have a5 : Op.bytesLess p1.toList y1.toList = false := by
                  cases hb : Op.bytesLess p1.toList y1.toList with
                  | false => rfl
                  | true => exact absurd (.inr ⟨he, hb⟩) hnl
                have a6 : (p2 == y2) = true := by simpa using he
                clear hnl he
                go_wp2
                exact ⟨⟨k + 1, by omega, by go_num, hal2⟩, by simp [RowKit.intOf]; omega⟩
              · have a5 : (p2 == y2) = false := by simpa using he
                clear hnl he
                go_wp2
                exact ⟨⟨k + 1, by omega, by go_num, hal2⟩, by simp [RowKit.intOf]; omega⟩
        · obtain rfl : k = nx := by omega
          have BE := Lib.hid (B5.out.trans (BQ.out.mono B5.out.size))
          go_wp2
          go_ret
          exact ⟨rfl, BE.out⟩
end Go.Proofs.YtdlmjoijadkphaaDoor
