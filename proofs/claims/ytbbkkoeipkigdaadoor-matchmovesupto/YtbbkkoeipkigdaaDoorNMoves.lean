/- MatchMoves, walked over what match's and runes' functions answer. -/
import Derived.Test.YtbbkkoeipkigdaaDoorNMap
import Derived.BigQuiet
namespace Go.Proofs.YtbbkkoeipkigdaaDoor
open Go.RowKit Go.Shelf
set_option linter.unusedSimpArgs false
set_option linter.unusedVariables false

theorem items_app {x y : List UInt8} (hx : Lib.validD x = true) : items (x ++ y) = items x ++ items y := by
  have h := (items_encL (items x) y (items_runes _ hx)).1
  rwa [enc_items _ hx] at h
theorem data_app (a b : ByteArray) : (a ++ b).data.toList = a.data.toList ++ b.data.toList := by
  simp [ByteArray.data_append]
theorem items_three {a s b : ByteArray} (ha : Lib.validD a.data.toList = true) (hs : Lib.validD s.data.toList = true) : items (a ++ s ++ b).data.toList = items a.data.toList ++ items s.data.toList ++ items b.data.toList := by
  rw [data_app, data_app, List.append_assoc, items_app ha, items_app hs, List.append_assoc]
theorem decErr_ok {l : List UInt8} (h : decErr l = 0) : Lib.validD l = true ∧ decRunes l = items l := by
  unfold decErr at h
  unfold decRunes
  by_cases hv : Lib.validD l = true
  · exact ⟨hv, if_pos hv⟩
  · rw [if_neg hv] at h; cases h
/-- What MatchMoves compares, where nothing is in error. -/
theorem moved_facts {L : List Blk} {a s b : ByteArray} (h1 : rdE s.data.toList = 0) (h2 : rdE (a ++ s ++ b).data.toList = 0) (h3 : decErr a.data.toList = 0) :
    (∀ x y, (x, y) ∈ htS L s.data.toList → (x + (decRunes a.data.toList).length, y) ∈ htS L (a ++ s ++ b).data.toList) ∧ (htS L s.data.toList).length ≤ (htS L (a ++ s ++ b).data.toList).length ∧ (decRunes a.data.toList).length ≤ 64 := by
  obtain ⟨hv, hd⟩ := decErr_ok h3
  have hs := (rdE_ok h1).1
  have hl := (rdE_ok h2).2.1
  rw [items_three hv hs, List.length_append, List.length_append] at hl
  unfold htS
  rw [if_pos h1, if_pos h2, items_three hv hs, hd]
  exact ⟨fun x y h => hits_moved _ _ h, hits_more _ _ _ _, by omega⟩
theorem htS_few {L : List Blk} (hL : MRules L) (s : List UInt8) : (htS L s).length ≤ 266240 := by
  unfold htS
  by_cases h : rdE s = 0
  · rw [if_pos h]; exact hits_bound8 hL.many (rdE_ok h).2.1
  · rw [if_neg h]; exact Nat.zero_le _
theorem htS_place {L : List Blk} {s : List UInt8} {x y : Nat} (h : (x, y) ∈ htS L s) : x ≤ 64 ∧ y < L.length := by
  unfold htS at h
  by_cases h1 : rdE s = 0
  · rw [if_pos h1] at h
    obtain ⟨h2, h3, _⟩ := mem_hitsP.1 h
    rw [frs_len] at h3
    exact ⟨Nat.le_trans h2 (rdE_ok h1).2.1, h3⟩
  · rw [if_neg h1] at h; cases h

set_option maxRecDepth 100000 in
set_option maxHeartbeats 8000000 in
theorem matchMoves_walk (u : Value) (L : List Blk) (a s b : ByteArray) (w : World) (h : Okw w) (hu : BRuns w u L) (hl : L.length ≤ 2000000) (hz : szL L) (ha : a.size ≤ 2000000) (hs : s.size ≤ 2000000) (hb : b.size ≤ 2000000) :
    Calls Tryd.prog 5 #[.agg #[u, .string a, .string s, .string b]] w (RetTrue w) := by
  have hts : (a ++ s ++ b).size ≤ 6000000 := by rw [ByteArray.size_append, ByteArray.size_append]; omega
  have has : a.size + s.size ≤ 9223372036854775807 := by omega
  have hasb : (a ++ s).size + b.size ≤ 9223372036854775807 := by rw [ByteArray.size_append]; omega
  have cn := fun W hO hu => new_any u L W hO hu hl hz
  have cg := fun W hu => great8_det u L (a ++ s ++ b) W hu (szM_of hz) (by omega)
  have ch := fun p W hO hr hM => hits_any p L s W hO (by omega) hr hM
  have ch2 := fun p W hO hr hM => hits_any p L (a ++ s ++ b) W hO (by omega) hr hM
  have cd := fun W (hO : Okw W) => decode_runs a W (by omega) hO.1 hO.2
  have cd2 := fun W (hO : Okw W) => decode_runs b W (by omega) hO.1 hO.2
  have hmr := fun h => @mrules_of L h
  have hmv := fun h1 h2 h3 => @moved_facts L a s b h1 h2 h3
  have hpl := fun x y h => @htS_place L s.data.toList x y h
  have hpl2 := fun x y h => @htS_place L (a ++ s ++ b).data.toList x y h
  have hq1 := fun hM => @htS_few L hM s.data.toList
  have hq2 := fun hM => @htS_few L hM (a ++ s ++ b).data.toList
  have hbox : Below w.heap.size w (w.alloc (.cells #[u, .string a, .string s, .string b] 57)) := (Below.refl _ _).alloc (Nat.le_refl _) _
  obtain ⟨wx, hwx⟩ : ∃ z, w.alloc (.cells #[u, .string a, .string s, .string b] 57) = z := ⟨_, rfl⟩
  have hxz : wx.heap.size = w.heap.size + 1 := by rw [← hwx]; simp
  have k0 : wx.cell? ⟨w.heap.size, 0, none⟩ = some u := by rw [← hwx, cell_of_row _ _ _ _ _ _ (heap_alloc_new w _)]; rfl
  have k1 : wx.cell? ⟨w.heap.size, 1, none⟩ = some (.string a) := by rw [← hwx, cell_of_row _ _ _ _ _ _ (heap_alloc_new w _)]; rfl
  have k2 : wx.cell? ⟨w.heap.size, 2, none⟩ = some (.string s) := by rw [← hwx, cell_of_row _ _ _ _ _ _ (heap_alloc_new w _)]; rfl
  have k3 : wx.cell? ⟨w.heap.size, 3, none⟩ = some (.string b) := by rw [← hwx, cell_of_row _ _ _ _ _ _ (heap_alloc_new w _)]; rfl
  rw [hwx] at hbox
  have HWX := Lib.hid hwx
  have C0 := Lib.hid (alive8_any _ (h.below hbox))
  obtain ⟨A, c, e⟩ := hu.slice
  obtain ⟨n, hn⟩ : ∃ n, L.length = n := ⟨_, rfl⟩
  rw [hn] at e hpl hpl2
  subst e
  obtain ⟨er, her⟩ : ∃ z, risS L = z := ⟨_, rfl⟩
  simp only [her] at cn hmr
  obtain ⟨gr, hgr⟩ : ∃ z, grB8 L (a ++ s ++ b).size = z := ⟨_, rfl⟩
  simp only [hgr] at cg
  obtain ⟨e1, he1⟩ : ∃ z, rdE s.data.toList = z := ⟨_, rfl⟩
  obtain ⟨e2, he2⟩ : ∃ z, rdE (a ++ s ++ b).data.toList = z := ⟨_, rfl⟩
  obtain ⟨e3, he3⟩ : ∃ z, decErr a.data.toList = z := ⟨_, rfl⟩
  obtain ⟨e4, he4⟩ : ∃ z, decErr b.data.toList = z := ⟨_, rfl⟩
  obtain ⟨H, hH⟩ : ∃ z, htS L s.data.toList = z := ⟨_, rfl⟩
  obtain ⟨G, hG⟩ : ∃ z, htS L (a ++ s ++ b).data.toList = z := ⟨_, rfl⟩
  obtain ⟨X, hX⟩ : ∃ z, decRunes a.data.toList = z := ⟨_, rfl⟩
  obtain ⟨Y, hY⟩ : ∃ z, decRunes b.data.toList = z := ⟨_, rfl⟩
  rw [hH] at hpl hq1 hmv
  rw [hG] at hpl2 hq2 hmv
  simp only [he1, he2, he3, hX] at hmv
  simp only [he1, hH] at ch
  simp only [he2, hG] at ch2
  simp only [he3, hX] at cd
  simp only [he4, hY] at cd2
  have CN := Lib.hid cn; have CG := Lib.hid cg; have CH := Lib.hid ch; have CH2 := Lib.hid ch2; have CD := Lib.hid cd; have CD2 := Lib.hid cd2
  have HMR := Lib.hid hmr; have HMV := Lib.hid hmv; have HPL := Lib.hid hpl; have HPL2 := Lib.hid hpl2; have HQ1 := Lib.hid hq1; have HQ2 := Lib.hid hq2
  have HU := Lib.hid hu; have HOK := Lib.hid h; have HN := Lib.hid hn
  clear cn cg ch ch2 cd cd2 hmr hmv hpl hpl2 hq1 hq2 hu h hn her hgr hz hwx he1 he2 he3 he4 hH hG hX hY
  go_enter Tryd.func5, Tryd.ntmps5
  go_wp2_with fail
  rw [HWX.out]
  refine C0.out.mono ?_
  rintro e w0 ⟨rfl, hb0⟩
  have m0 := (hb0.cell (p := ⟨w.heap.size, 0, none⟩) (by simp [hxz])).trans k0
  have m1 := (hb0.cell (p := ⟨w.heap.size, 1, none⟩) (by simp [hxz])).trans k1
  have m2 := (hb0.cell (p := ⟨w.heap.size, 2, none⟩) (by simp [hxz])).trans k2
  have m3 := (hb0.cell (p := ⟨w.heap.size, 3, none⟩) (by simp [hxz])).trans k3
  have hB0 : Below w.heap.size w w0 := hbox.trans (hb0.mono hbox.size)
  clear k0 k1 k2 k3 hxz hbox hb0 C0 HWX
  go_wp2
  go_quiet (fail)
  have hB1 : Below w.heap.size w (w0.drewN nq) := below_draws hB0 nq
  obtain ⟨w1, hw1⟩ : ∃ w1, w0.drewN nq = w1 := ⟨_, rfl⟩
  rw [hw1] at hB1 ⊢
  have B1 := Lib.hid hB1
  clear hw1 m0 m1 m2 m3 hB0 hB1
  go_wp2_with fail
  refine (CN.out w1 (HOK.out.below B1.out) (HU.out.below B1.out)).mono ?_
  rintro e w2 ⟨mv, rfl, hN, b2⟩
  have B2 := Lib.hid (B1.out.trans (b2.mono B1.out.size))
  have HNP := Lib.hid hN
  clear b2 hN B1
  have HA := has; have HB := hasb
  go_wp2_with fail
  refine (CG.out w2 (HU.out.below B2.out)).mono ?_
  rintro e w3 ⟨rfl, b3⟩
  have B23 := Lib.hid b3
  have B3 := Lib.hid (B2.out.trans (b3.mono B2.out.size))
  clear b3
  cases gr with
  | true =>
    go_wp2
    go_ret
    exact ⟨rfl, B3.out⟩
  | false =>
  by_cases h0 : er = 0
  rotate_left
  · have hne : (er != 0) = true := by simpa using h0
    go_wp2
    go_ret
    exact ⟨rfl, B3.out⟩
  subst h0
  obtain ⟨p, rfl, hM⟩ : ∃ p, mv = .pointer (some ⟨p, 0, none⟩) ∧ MachOk w3 p L := by
    rcases HNP.out with ⟨h, _⟩ | ⟨_, p, e, _, hM⟩
    · exact absurd rfl h
    · exact ⟨p, e, hM.below B23.out⟩
  have hR := HMR.out (by first | rfl | trivial)
  have hq1 := HQ1.out hR
  have hq2 := HQ2.out hR
  have K3 := Lib.hid (HOK.out.below B3.out)
  have HM := Lib.hid hM; have HR := Lib.hid hR
  clear hM hR HNP B23 HMR CN CG HQ1 HQ2
  go_wp2_with fail
  refine (CH.out p w3 K3.out HR.out HM.out).mono ?_
  rintro e w4 ⟨v4, rfl, hr4, b4⟩
  have K4 := Lib.hid (K3.out.below b4)
  have B4 := Lib.hid (B3.out.trans (b4.mono B3.out.size))
  have H4 := Lib.hid hr4
  have HM4 := Lib.hid (HM.out.below b4)
  clear b4 hr4 HM K3 CH
  go_wp2_with fail
  refine (CH2.out p w4 K4.out HR.out HM4.out).mono ?_
  rintro e w5 ⟨v5, rfl, hr5, b5⟩
  have K5 := Lib.hid (K4.out.below b5)
  have B5 := Lib.hid (B4.out.trans (b5.mono B4.out.size))
  have H5 := Lib.hid hr5
  have H45 := Lib.hid (H4.out.below b5)
  clear b5 hr5 HM4 K4 CH2 H4
  go_wp2_with fail
  refine (CD.out w5 K5.out).mono ?_
  rintro e w6 ⟨A6, c6, rfl, hr6, b6⟩
  have K6 := Lib.hid (K5.out.below b6)
  have B6 := Lib.hid (B5.out.trans (b6.mono B5.out.size))
  have H6 := Lib.hid (H5.out.below b6)
  have H46 := Lib.hid (H45.out.below b6)
  clear b6 hr6 K5 CD H5 H45
  go_wp2_with fail
  refine (CD2.out w6 K6.out).mono ?_
  rintro e w7 ⟨A7, c7, rfl, hr7, b7⟩
  have B7 := Lib.hid (B6.out.trans (b7.mono B6.out.size))
  have H7 := Lib.hid (H6.out.below b7)
  have H47 := Lib.hid (H46.out.below b7)
  clear b7 hr7 K6 CD2 H6 H46 has hasb HA HB hts
  by_cases hz1 : e1 = 0
  rotate_left
  · have hne : (e1 != 0) = true := by simpa using hz1
    go_wp2
    go_ret
    exact ⟨rfl, B7.out⟩
  subst hz1
  by_cases hz2 : e2 = 0
  rotate_left
  · have hne : (e2 != 0) = true := by simpa using hz2
    go_wp2
    go_ret
    exact ⟨rfl, B7.out⟩
  subst hz2
  by_cases hz3 : e3 = 0
  rotate_left
  · have hne : (e3 != 0) = true := by simpa using hz3
    go_wp2
    go_ret
    exact ⟨rfl, B7.out⟩
  subst hz3
  by_cases hz4 : e4 = 0
  rotate_left
  · have hne : (e4 != 0) = true := by simpa using hz4
    go_wp2
    go_ret
    exact ⟨rfl, B7.out⟩
  subst hz4
  obtain ⟨hmv, hle, hX64⟩ := HMV.out (by first | rfl | trivial) (by first | rfl | trivial) (by first | rfl | trivial)
  clear HMV
  obtain ⟨Ah, ch, rfl⟩ := GRuns.slice H47.out
  obtain ⟨Ag, cg, rfl⟩ := GRuns.slice H7.out
  obtain ⟨q, hq⟩ : ∃ z, H.length = z := ⟨_, rfl⟩
  obtain ⟨g, hg⟩ : ∃ z, G.length = z := ⟨_, rfl⟩
  obtain ⟨lx, hlx⟩ : ∃ z, X.length = z := ⟨_, rfl⟩
  rw [hq] at hq1 hle
  rw [hg] at hq2 hle
  rw [hlx] at hX64 hmv
  rw [hq] at H47
  rw [hg] at H7
  simp only [hq, hg, hlx]
  have HMM := Lib.hid hmv
  have HQ := Lib.hid hq; have HG := Lib.hid hg; have HLX := Lib.hid hlx
  have hmm := @run_makeMap Tryd.prog
  have hmd := HitMap.made w7
  have bm : Below w7.heap.size w7 (w7.alloc (.map #[] 0)) := (Below.refl _ _).alloc (Nat.le_refl _) _
  have hsz8 : (w7.alloc (.map #[] 0)).heap.size = w7.heap.size + 1 := by simp
  obtain ⟨w8, hw8⟩ : ∃ z, w7.alloc (.map #[] 0) = z := ⟨_, rfl⟩
  rw [hw8] at hmd bm hsz8
  obtain ⟨mp, hmp⟩ : ∃ z, w7.heap.size = z := ⟨_, rfl⟩
  have HMD := Lib.hid hmd
  have HSZ := Lib.hid hsz8
  have HMP := Lib.hid hmp
  have HW8 := Lib.hid hw8
  have BM := Lib.hid bm
  clear hmv hq hg hlx hmd bm hsz8 hw8 hmp
  go_wp2
  rw [HW8.out, HMP.out]
  clear hmm
  go_loopw [91] (fun s91 wr => ∃ j : Nat, ∃ D, j ≤ g ∧ s91 = .int .i64 (j : Int) ∧ Hid (HitMap wr mp j D) ∧ Hid (ViewH D (G.take j)) ∧ Hid (Below w7.heap.size w7 wr)) (fun s91 _ => g - (RowKit.intOf s91).toNat)
  case atStart => exact ⟨0, .map [], Nat.zero_le _, rfl, Lib.hid (HMP.out ▸ HMD.out), Lib.hid ViewH.none_, BM⟩
  case round =>
    obtain ⟨j, D, hj, rfl, HD, HV, BW⟩ := hrel
    by_cases hj1 : j < g
    · have j1 : (j : Int) < (g : Int) := by omega
      obtain ⟨⟨y1, y2⟩, hy⟩ : ∃ y, G[j]? = some y := ⟨_, List.getElem?_eq_getElem (by rw [HG.out]; exact hj1)⟩
      obtain ⟨bb, oo, rfl, _, hcc⟩ := (H7.out.below BW.out).cells HG.out (by omega)
      have f0 := hcc j _ hy 0 _ rfl
      have f1 := hcc j _ hy 1 _ rfl
      rw [Nat.add_zero] at f0
      simp only at f0 f1
      obtain ⟨p1, p2⟩ := HPL2.out _ _ (List.mem_of_getElem? hy)
      have hal : Below wr.heap.size wr (wr.alloc (.cells #[.int .i64 (y1 : Int), .int .i64 (y2 : Int)] 50)) := (Below.refl _ _).alloc (Nat.le_refl _) _
      obtain ⟨w9, D9, hrun, hD9, hV9, hg9⟩ := HitMap.set (w := wr.alloc (.cells #[.int .i64 (y1 : Int), .int .i64 (y2 : Int)] 50)) (World.ownsMap.alloc HD.out _) HV.out (by omega) (a := y1) (i := y2) (by omega) (by have := HN.out; omega)
      have htk : G.take (j + 1) = G.take j ++ [(y1, y2)] := by rw [List.take_add_one, hy]; rfl
      have B9 : Below w7.heap.size w7 w9 := (BW.out.trans (hal.mono BW.out.size)).grown hg9 (Nat.le_trans BW.out.size hal.size) (fun k hk => by cases hk; rw [HMP.out]; exact Nat.le_refl _)
      rw [← htk] at hV9
      have HD9 := Lib.hid hD9; have HV9 := Lib.hid hV9; have BB9 := Lib.hid B9
      clear hcc hy p1 p2 hal hD9 hV9 hg9 htk B9 HD HV
      go_wp2
      exact ⟨⟨j + 1, D9, by omega, by go_num, HD9, HV9, BB9⟩, by simp [RowKit.intOf]; omega⟩
    · obtain rfl : j = g := by omega
      rw [show G.take j = G by rw [← HG.out]; exact List.take_length] at HV
      have H48 := Lib.hid (H47.out.below BW.out)
      have B8 := Lib.hid (B7.out.trans (BW.out.mono B7.out.size))
      clear BW H47 H7 HMD BM B7
      go_wp2
      go_loopw [100] (fun s100 wq => ∃ i : Nat, i ≤ q ∧ s100 = .int .i64 (i : Int) ∧ Hid (HitMap wq mp j D) ∧ Hid (Below wr.heap.size wr wq)) (fun s100 _ => q - (RowKit.intOf s100).toNat)
      case atStart => exact ⟨0, Nat.zero_le _, rfl, HD, Lib.hid (Below.refl _ _)⟩
      case round =>
        obtain ⟨i, hi, rfl, HE, BQ⟩ := hrel
        by_cases hi1 : i < q
        · have i1 : (i : Int) < (q : Int) := by omega
          obtain ⟨⟨y1, y2⟩, hy⟩ : ∃ y, H[i]? = some y := ⟨_, List.getElem?_eq_getElem (by rw [HQ.out]; exact hi1)⟩
          obtain ⟨bb, oo, rfl, _, hcc⟩ := (H48.out.below BQ.out).cells HQ.out (by omega)
          have f0 := hcc i _ hy 0 _ rfl
          have f1 := hcc i _ hy 1 _ rfl
          rw [Nat.add_zero] at f0
          simp only at f0 f1
          obtain ⟨p1, p2⟩ := HPL.out _ _ (List.mem_of_getElem? hy)
          have hal : Below wr.heap.size wr (wr.alloc (.cells #[.int .i64 (y1 : Int), .int .i64 (y2 : Int)] 50)) := (Below.refl _ _).alloc (Nat.le_refl _) _
          have hE2 : HitMap (wr.alloc (.cells #[.int .i64 (y1 : Int), .int .i64 (y2 : Int)] 50)) mp j D := World.ownsMap.alloc HE.out _
          have hlk := HitMap.look hE2 HV.out (a := y1 + lx) (i := y2) (by omega) (by have := HN.out; omega)
          rw [decide_eq_true (HMM.out _ _ (List.mem_of_getElem? hy)), show ((y1 + lx : Nat) : Int) = (y1 : Int) + (lx : Int) by omega] at hlk
          have HE2 := Lib.hid hE2
          have BQ2 := Lib.hid (BQ.out.trans (hal.mono BQ.out.size))
          clear hcc hy p2 hal hE2
          go_wp2
          exact ⟨⟨i + 1, by omega, by go_num, HE2, BQ2⟩, by simp [RowKit.intOf]; omega⟩
        · obtain rfl : i = q := by omega
          have z1 : decide ((i : Int) ≤ (j : Int)) = true := by simp; omega
          have z2 : (i : Int) ≤ (j : Int) := by omega
          go_wp2
          go_ret
          exact ⟨by simp [hle], B8.out.trans (BQ.out.mono B8.out.size)⟩
end Go.Proofs.YtbbkkoeipkigdaaDoor
