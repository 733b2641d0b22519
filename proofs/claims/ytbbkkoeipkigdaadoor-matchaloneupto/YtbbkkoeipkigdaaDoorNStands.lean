/- MatchStands, walked over what match's and runes' functions answer. -/
import Derived.Test.YtbbkkoeipkigdaaDoorPk14
import Derived.Test.YtbbkkoeipkigdaaDoorPk3
import Derived.BigQuiet
namespace Go.Proofs.YtbbkkoeipkigdaaDoor
open Go.RowKit Go.Shelf
set_option linter.unusedSimpArgs false
set_option linter.unusedVariables false

theorem encL_prefix {a b : List Int} (ha : ∀ r ∈ a, Lib.validRune r = true) (hb : ∀ r ∈ b, Lib.validRune r = true) : encL a <+: encL b ↔ a <+: b := by
  constructor
  · rintro ⟨t, ht⟩
    have h1 := (items_encL a t ha).1
    have h2 := (items_encL b [] hb).1
    rw [ht, show encL b = encL b ++ [] from (List.append_nil _).symm, h2] at h1
    rw [show items [] = [] from rfl, List.append_nil] at h1
    exact ⟨_, h1.symm⟩
  · rintro ⟨t, ht⟩
    rw [← ht, encL_append]
    exact List.prefix_append _ _
theorem textOf_data {z : List Int} (hz : ∀ r ∈ z, Lib.validRune r = true) : (textOf z).data.toList = encL z := by
  unfold textOf encS
  rw [if_pos (show allRunes z = true from List.all_eq_true.2 hz)]
theorem has_prefix {z : List Int} {p : ByteArray} (hz : ∀ r ∈ z, Lib.validRune r = true) (hp : Lib.validD p.data.toList = true) : Lib.hasPrefix (textOf z).data.toList p.data.toList = (items p.data.toList).isPrefixOf z := by
  rw [textOf_data hz, Bool.eq_iff_iff, List.isPrefixOf_iff_prefix]
  have h1 : Lib.hasPrefix (encL z) p.data.toList = true ↔ p.data.toList <+: encL z := by
    unfold Lib.hasPrefix
    exact List.isPrefixOf_iff_prefix
  rw [h1]
  have h2 := encL_prefix (items_runes _ hp) hz
  rw [enc_items _ hp] at h2
  exact h2
/-- At how many places a rule stands, of the first ones. -/
def cntP (f : List Int) (x : List Int) (k : Nat) : Nat := ((List.range k).filter (fun a => f.isPrefixOf (x.drop a))).length
theorem cntP_succ (f x : List Int) (k : Nat) : cntP f x (k + 1) = cntP f x k + if f.isPrefixOf (x.drop k) then 1 else 0 := by
  unfold cntP
  rw [List.range_succ, List.filter_append, List.length_append]
  by_cases h : f.isPrefixOf (x.drop k) <;> simp [h]
theorem cntP_nil (x : List Int) (k : Nat) : cntP [] x k = k := by
  unfold cntP
  rw [show (fun a => ([] : List Int).isPrefixOf (x.drop a)) = fun _ => true from rfl, List.filter_eq_self.2 (fun a _ => rfl), List.length_range]
theorem cntP_last {f x : List Int} (hf : f ≠ []) : cntP f x (x.length + 1) = cntP f x x.length := by
  rw [cntP_succ, List.drop_of_length_le (Nat.le_refl _), if_neg, Nat.add_zero]
  cases f with
  | nil => exact absurd rfl hf
  | cons a f => simp
theorem cntP_le (f x : List Int) (k : Nat) : cntP f x k ≤ k := by
  unfold cntP
  have := List.length_filter_le (fun a => f.isPrefixOf (x.drop a)) (List.range k)
  rwa [List.length_range] at this
/-- The places of the first rules, all together. -/
def sumP (F : List (List Int)) (x : List Int) (k : Nat) : Nat := ((List.range k).map (fun i => cntP (F.getD i []) x (x.length + 1))).sum
theorem sumP_succ (F : List (List Int)) (x : List Int) (k : Nat) : sumP F x (k + 1) = sumP F x k + cntP (F.getD k []) x (x.length + 1) := by
  unfold sumP
  rw [List.range_succ, List.map_append, List.sum_append]
  simp
theorem sumP_le (F : List (List Int)) (x : List Int) (k : Nat) : sumP F x k ≤ k * (x.length + 1) := by
  induction k with
  | zero => simp [sumP]
  | succ k ih =>
    rw [sumP_succ, Nat.succ_mul]
    have := cntP_le (F.getD k []) x (x.length + 1)
    omega
theorem sumP_all (F : List (List Int)) (x : List Int) : sumP F x F.length = (hitsP F x).length := by
  rw [hits_len]
  rfl
theorem pair_step {H : List (Nat × Nat)} (h : H.Pairwise hitLt) {j : Nat} {x y : Nat × Nat} (hx : H[j]? = some x) (hy : H[j + 1]? = some y) : hitLt x y := by
  obtain ⟨h1, e1⟩ := List.getElem?_eq_some_iff.1 hx
  obtain ⟨h2, e2⟩ := List.getElem?_eq_some_iff.1 hy
  have := List.pairwise_iff_getElem.1 h j (j + 1) h1 h2 (by omega)
  rwa [e1, e2] at this

set_option maxRecDepth 100000 in
set_option maxHeartbeats 8000000 in
theorem matchStands_walk (u : Value) (L : List Blk) (s : ByteArray) (w : World) (h : Okw w) (hu : BRuns w u L) (hl : L.length ≤ 2000000) (hz : szL L) (hs : s.size ≤ 2000000) :
    Calls Tryd.prog 4 #[u, .string s] w (RetTrue w) := by
  have cn := fun W hO hu => new_any u L W hO hu hl hz
  have cg := fun W hu => great8_det u L s W hu (szM_of hz) (by omega)
  have ch := fun p W hO hr hM => hits_any p L s W hO (by omega) hr hM
  have cd := fun W (hO : Okw W) => decode_runs s W (by omega) hO.1 hO.2
  have hmr := fun h => @mrules_of L h
  have hfrm : risS L = 0 → ∀ b ∈ L, Lib.validD b.1.data.toList = true := fun h b hb => by
    obtain ⟨h1, _, _⟩ := risS_facts h
    exact (rchk_from (rall_zero.1 h1 b hb)).1
  have hgl : grB8 L s.size = false → L.length ≤ 200 := fun h => (grB8_no h).1
  obtain ⟨A, c, e⟩ := hu.slice
  obtain ⟨n, hn⟩ : ∃ n, L.length = n := ⟨_, rfl⟩
  rw [hn] at e hgl
  subst e
  obtain ⟨er, her⟩ : ∃ z, risS L = z := ⟨_, rfl⟩
  simp only [her] at cn hmr hfrm
  obtain ⟨gr, hgr⟩ : ∃ z, grB8 L s.size = z := ⟨_, rfl⟩
  simp only [hgr] at cg hgl
  have CN := Lib.hid cn; have CG := Lib.hid cg; have CH := Lib.hid ch; have CD := Lib.hid cd; have HMR := Lib.hid hmr; have HFRM := Lib.hid hfrm; have HGL := Lib.hid hgl
  have HU := Lib.hid hu; have HOK := Lib.hid h; have HN := Lib.hid hn
  have AL := Lib.hid alive8_any
  have EN := Lib.hid encode_any; have HPX := Lib.hid Tryd.strings_HasPrefix
  clear cn cg ch cd hmr hfrm hgl hu h hn her hgr hz
  go_enter Tryd.func4, Tryd.ntmps4
  go_wp2_with fail
  refine (AL.out _ HOK.out).mono ?_
  rintro e w1 ⟨rfl, b1⟩
  have B1 := Lib.hid b1
  clear b1
  go_wp2_with fail
  refine (CN.out w1 (HOK.out.below B1.out) (HU.out.below B1.out)).mono ?_
  rintro e w2 ⟨mv, rfl, hN, b2⟩
  have B2 := Lib.hid (B1.out.trans (b2.mono B1.out.size))
  have HNP := Lib.hid hN
  clear b2 hN B1
  go_wp2_with fail
  refine (CG.out w2 (HU.out.below B2.out)).mono ?_
  rintro e w3 ⟨rfl, b3⟩
  have B23 := Lib.hid b3
  have B3 := Lib.hid (B2.out.trans (b3.mono B2.out.size))
  clear b3
  cases gr with
  | true =>
    go_wp2
    go_ret
    exact ⟨rfl, B3.out⟩
  | false =>
  by_cases h0 : er = 0
  rotate_left
  · have hne : (er != 0) = true := by simpa using h0
    go_wp2
    go_ret
    exact ⟨rfl, B3.out⟩
  subst h0
  obtain ⟨p, rfl, hM⟩ : ∃ p, mv = .pointer (some ⟨p, 0, none⟩) ∧ MachOk w3 p L := by
    rcases HNP.out with ⟨h, _⟩ | ⟨_, p, e, _, hM⟩
    · exact absurd rfl h
    · exact ⟨p, e, hM.below B23.out⟩
  have hR := HMR.out (by first | rfl | trivial)
  have hfrm := HFRM.out (by first | rfl | trivial)
  have hn200 := HGL.out (by first | rfl | trivial)
  have K3 := Lib.hid (HOK.out.below B3.out)
  have HM := Lib.hid hM; have HR := Lib.hid hR; have HFM := Lib.hid hfrm
  clear hM hR hfrm HNP B23 HMR HFRM HGL CN CG AL
  go_wp2_with fail
  refine (CH.out p w3 K3.out HR.out HM.out).mono ?_
  rintro e w4 ⟨v4, rfl, hr4, b4⟩
  have K4 := Lib.hid (K3.out.below b4)
  have B4 := Lib.hid (B3.out.trans (b4.mono B3.out.size))
  have H4 := Lib.hid hr4
  clear b4 hr4 HM K3 CH
  go_wp2_with fail
  refine (CD.out w4 K4.out).mono ?_
  rintro e w5 ⟨A5, c5, rfl, hr5, b5⟩
  have B5 := Lib.hid (B4.out.trans (b5.mono B4.out.size))
  have H5 := Lib.hid (H4.out.below b5)
  have R5 := Lib.hid hr5
  clear b5 hr5 K4 H4 CD
  have hht : htS L s.data.toList = if rdE s.data.toList = 0 then hitsP (frs L) (items s.data.toList) else [] := rfl
  have hok := fun h => @rdE_ok s.data.toList h
  have hbad : rdE s.data.toList ≠ 0 → (decErr s.data.toList ≠ 0 ∨ (decErr s.data.toList = 0 ∧ 64 < (decRunes s.data.toList).length)) := fun h => by
    unfold rdE at h
    unfold decErr decRunes
    cases hv : Lib.validD s.data.toList with
    | false => left; simp
    | true =>
      rw [hv] at h
      right
      by_cases hl : 64 < (items s.data.toList).length
      · exact ⟨by simp, by simpa using hl⟩
      · simp [hl] at h
  obtain ⟨e2, he2⟩ : ∃ z, rdE s.data.toList = z := ⟨_, rfl⟩
  obtain ⟨H, hH⟩ : ∃ z, htS L s.data.toList = z := ⟨_, rfl⟩
  rw [he2, hH] at hht
  rw [he2] at hok hbad ⊢
  rw [hH] at H5
  have HHT := Lib.hid hht; have HOK2 := Lib.hid hok; have HBAD := Lib.hid hbad
  clear hht hok hbad he2 hH
  by_cases hz0 : e2 = 0
  rotate_left
  · have hne : (e2 != 0) = true := by simpa using hz0
    obtain ⟨de, hde⟩ : ∃ z, decErr s.data.toList = z := ⟨_, rfl⟩
    obtain ⟨dl, hdl⟩ : ∃ z, (decRunes s.data.toList).length = z := ⟨_, rfl⟩
    have hb := HBAD.out hz0
    rw [hde, hdl] at hb ⊢
    clear hde hdl
    rcases hb with hb | ⟨rfl, hb⟩
    · have hb1 : (de != 0) = true := by simpa using hb
      go_wp2
      go_ret
      exact ⟨rfl, B5.out⟩
    · have hb1 : (64 : Int) < (dl : Int) := by omega
      go_wp2
      go_ret
      exact ⟨by simp, B5.out⟩
  subst hz0
  obtain ⟨hvs, hl64, hdx, hde⟩ := HOK2.out (by first | rfl | trivial)
  have hHe : H = hitsP (frs L) (items s.data.toList) := by rw [HHT.out, if_pos (by first | rfl | trivial)]
  have hxv := items_runes _ hvs
  rw [hdx] at R5 ⊢
  obtain ⟨x, hx⟩ : ∃ z, items s.data.toList = z := ⟨_, rfl⟩
  rw [hx] at hl64 hHe R5 hxv ⊢
  obtain ⟨m, hm⟩ : ∃ z, x.length = z := ⟨_, rfl⟩
  rw [hm] at hl64 R5 ⊢
  obtain ⟨Ah, ch, rfl⟩ := GRuns.slice H5.out
  have hqb : H.length ≤ 266240 := by rw [hHe]; exact hits_bound8 HR.out.many (by rw [hm]; exact hl64)
  have hmem : ∀ j a r, H[j]? = some (a, r) → a ≤ m ∧ r < n ∧ (frs L).getD r [] <+: x.drop a := fun j a r hj => by
    have h1 := List.mem_of_getElem? hj
    rw [hHe] at h1
    obtain ⟨h2, h3, h4⟩ := mem_hitsP.1 h1
    rw [frs_len, HN.out] at h3
    rw [hm] at h2
    exact ⟨h2, h3, h4⟩
  have hord : H.Pairwise hitLt := by rw [hHe]; exact hitsP_up _ _
  have hall : sumP (frs L) x n = H.length := by rw [hHe, ← sumP_all, frs_len, HN.out]
  obtain ⟨q, hq⟩ : ∃ z, H.length = z := ⟨_, rfl⟩
  rw [hq] at H5 hqb hall ⊢
  have HQ := Lib.hid hq; have HMEM := Lib.hid hmem; have HORD := Lib.hid hord; have HALL := Lib.hid hall; have HXV := Lib.hid hxv; have HMX := Lib.hid hm
  have U5 := Lib.hid (HU.out.below B5.out)
  clear hHe hdx hde hx hm hq hvs hmem hord hall hxv HHT HOK2 HBAD HU
  go_wp2
  go_loopw [57] (fun s57 wr => ∃ j : Nat, j ≤ q ∧ s57 = .int .i64 (j : Int) ∧ Hid (Below w5.heap.size w5 wr)) (fun s57 _ => q - (RowKit.intOf s57).toNat)
  case atStart => exact ⟨0, Nat.zero_le _, rfl, Lib.hid (Below.refl _ _)⟩
  case round =>
    obtain ⟨j, hj, rfl, BW⟩ := hrel
    by_cases hj1 : j < q
    · have j1 : (j : Int) < (q : Int) := by omega
      obtain ⟨⟨a, r⟩, hy⟩ : ∃ y, H[j]? = some y := ⟨_, List.getElem?_eq_getElem (by rw [HQ.out]; exact hj1)⟩
      obtain ⟨ham, hrn, hpre⟩ := HMEM.out j a r hy
      obtain ⟨bb, oo, rfl, hbb, hcc⟩ := (H5.out.below BW.out).cells HQ.out (by omega)
      have f0 := hcc j _ hy 0 _ rfl
      have f1 := hcc j _ hy 1 _ rfl
      rw [Nat.add_zero] at f0
      simp only at f0 f1
      have hal : Below wr.heap.size wr (wr.alloc (.cells #[.int .i64 (a : Int), .int .i64 (r : Int)] 50)) := (Below.refl _ _).alloc (Nat.le_refl _) _
      have BA := Lib.hid (BW.out.trans (hal.mono BW.out.size))
      have hbl := (U5.out.below BA.out).cells HN.out (by omega)
      obtain ⟨bL, oL, rfl, hbLlt, hcL⟩ := hbl
      obtain ⟨⟨p1, p2, p3⟩, hp⟩ : ∃ p, L[r]? = some p := ⟨_, List.getElem?_eq_getElem (by rw [HN.out]; exact hrn)⟩
      have hv1 := HFM.out _ (List.mem_of_getElem? hp)
      have hdv : ∀ z ∈ x.drop a, Lib.validRune z = true := fun z hz => HXV.out z (List.mem_of_mem_drop hz)
      have hpx := has_prefix (p := p1) hdv hv1
      rw [← frs_getD hp, List.isPrefixOf_iff_prefix.2 hpre] at hpx
      obtain ⟨wa, hwa⟩ : ∃ z, wr.alloc (.cells #[.int .i64 (a : Int), .int .i64 (r : Int)] 50) = z := ⟨_, rfl⟩
      have x0 : wa.cell? ⟨wr.heap.size, 0, none⟩ = some (.int .i64 (a : Int)) := by rw [← hwa, cell_of_row _ _ _ _ _ _ (heap_alloc_new wr _)]; rfl
      have x1 : wa.cell? ⟨wr.heap.size, 1, none⟩ = some (.int .i64 (r : Int)) := by rw [← hwa, cell_of_row _ _ _ _ _ _ (heap_alloc_new wr _)]; rfl
      have hsa : wr.heap.size < wa.heap.size := by rw [← hwa]; simp
      rw [hwa] at hal BA hcL hbLlt
      obtain ⟨bx, hbx⟩ : ∃ z, wr.heap.size = z := ⟨_, rfl⟩
      have HWA := Lib.hid hwa; have HBX := Lib.hid hbx
      rw [hbx] at x0 x1 hsa
      have hsl := slice_l32 (R5.out.below BA.out) HMX.out a ham
      obtain ⟨As, hAs⟩ : ∃ z, cutA A5 c5 a = z := ⟨_, rfl⟩
      obtain ⟨cs, hcs⟩ : ∃ z, c5 - a = z := ⟨_, rfl⟩
      obtain ⟨ms, hms⟩ : ∃ z, m - a = z := ⟨_, rfl⟩
      rw [hAs, hcs, hms] at hsl
      have en := EN.out _ (x.drop a) wa hsl.2 (by rw [List.length_drop, HMX.out]; omega) (fun z hz => by have := rune_i32 (hdv z hz); omega)
      change Calls Tryd.prog 23 #[_] wa (fun e w' => e = .returned (.tuple #[.string (textOf (x.drop a)), .int .i64 (encErr (x.drop a))]) ∧ Below wa.heap.size wa w') at en
      have hs1 := hsl.1
      rw [← HWA.out] at hs1
      have hpx2 := HPX.out (textOf (x.drop a)) p1
      rw [hpx] at hpx2
      obtain ⟨tx, htx⟩ : ∃ z, textOf (x.drop a) = z := ⟨_, rfl⟩
      obtain ⟨ee, hee⟩ : ∃ z, encErr (x.drop a) = z := ⟨_, rfl⟩
      rw [htx, hee] at en
      rw [htx] at hpx2
      have HEN := Lib.hid en; have HP2 := Lib.hid hpx2; have HLC := Lib.hid hcL; have HLP := Lib.hid hp; have HAL := Lib.hid hal
      have c0 : ¬ (a : Int) < 0 := by omega
      have c1 : ¬ (m : Int) < (a : Int) := by omega
      have c2 : ¬ (r : Int) < 0 := by omega
      have c3 : ¬ (n : Int) ≤ (r : Int) := by omega
      have c4 : (r : Int) < (n : Int) := by omega
      have HY := Lib.hid hy; have HCC := Lib.hid hcc
      clear hcc hy hpre hal hcL hp hv1 hdv hpx hwa hbx hsl hAs hcs hms en hpx2 htx hee
      go_wp2_with fail
      rw [HWA.out, HBX.out]
      refine HEN.out.mono ?_
      rintro e w6 ⟨rfl, b6⟩
      have y0 := (b6.cell (p := ⟨bx, 0, none⟩) hsa).trans x0
      have y1 := (b6.cell (p := ⟨bx, 1, none⟩) hsa).trans x1
      obtain ⟨g0', _, _⟩ := blk_cells (HLC.out) HLP.out
      simp only at g0'
      have g0 := (b6.cell (p := ⟨bL, _, none⟩) hbLlt).trans g0'
      have HB6 := Lib.hid (BA.out.trans (b6.mono BA.out.size))
      have hb66 := HAL.out.trans (b6.mono HAL.out.size)
      have hprev : ∀ j' a0 r0, H[j']? = some (a0, r0) → w6.cell? ⟨bb, oo + j' * 2, none⟩ = some (.int .i64 (a0 : Nat)) ∧ w6.cell? ⟨bb, oo + j' * 2 + 1, none⟩ = some (.int .i64 (r0 : Nat)) := fun j' a0 r0 h =>
        ⟨(hb66.cell (p := ⟨bb, _, none⟩) hbb).trans (HCC.out j' _ h 0 _ rfl), (hb66.cell (p := ⟨bb, _, none⟩) hbb).trans (HCC.out j' _ h 1 _ rfl)⟩
      have HPREV := Lib.hid hprev
      clear g0' b6 hb66 hprev HEN x0 x1 f0 f1
      go_wp2_with fail
      refine (HP2.out _).mono ?_
      rintro e w7 ⟨rfl, rfl⟩
      rcases Nat.eq_zero_or_pos j with hj0 | hj0
      · subst hj0
        go_wp2
        go_quiet (fail)
        go_wp2
        exact ⟨⟨0 + 1, by omega, by go_num, Lib.hid (below_draws HB6.out _)⟩, by simp [RowKit.intOf]; omega⟩
      · obtain ⟨j', hj'⟩ : ∃ j' : Nat, (j : Int) - 1 = (j' : Int) := ⟨j - 1, by omega⟩
        obtain ⟨⟨a0, r0⟩, hy0⟩ : ∃ y, H[j']? = some y := ⟨_, List.getElem?_eq_getElem (by rw [HQ.out]; omega)⟩
        have hlt := pair_step HORD.out hy0 (by rw [show j' + 1 = j by omega]; exact HY.out)
        obtain ⟨k0, k1⟩ := HPREV.out j' a0 r0 hy0
        have jpos : (0 : Int) < (j : Int) := by omega
        have jd : decide (0 < j) = true := by simp; omega
        have jd2 : decide ((0 : Int) < (j : Int)) = true := by simp; omega
        have jq : (j' : Int) < (q : Int) := by omega
        rcases hlt with hlt | ⟨he, hlt⟩
        · simp only at hlt
          have d1 : decide ((a : Int) < (a0 : Int)) = false := by simp; omega
          have d2 : ((a0 : Int) == (a : Int)) = false := by simp; omega
          have d1' : decide (a < a0) = false := by simp; omega
          have d2' : (a0 == a) = false := by simp; omega
          clear hy0 hlt
          go_wp2
          go_quiet (fail)
          go_wp2
          exact ⟨⟨j + 1, by omega, by go_num, Lib.hid (below_draws HB6.out _)⟩, by simp [RowKit.intOf]; omega⟩
        · simp only at he hlt
          subst he
          have d1 : decide ((a0 : Int) < (a0 : Int)) = false := by simp
          have d2 : ((a0 : Int) == (a0 : Int)) = true := beq_self_eq_true _
          have d3 : decide ((r : Int) ≤ (r0 : Int)) = false := by simp; omega
          have d3' : decide (r ≤ r0) = false := by simp; omega
          clear hy0 hlt
          go_wp2
          go_quiet (fail)
          go_wp2
          exact ⟨⟨j + 1, by omega, by go_num, Lib.hid (below_draws HB6.out _)⟩, by simp [RowKit.intOf]; omega⟩
    · obtain rfl : j = q := by omega
      clear HMEM HORD
      have BW0 := BW
      go_wp2
      go_loopw [15, 139] (fun s15 s139 wq => ∃ k : Nat, k ≤ n ∧ s139 = .int .i64 (k : Int) ∧ s15 = .int .i64 (sumP (frs L) x k : Nat) ∧ Hid (Below w5.heap.size w5 wq)) (fun _ s139 _ => n - (RowKit.intOf s139).toNat)
      case atStart => exact ⟨0, Nat.zero_le _, rfl, rfl, BW0⟩
      case round =>
        clear BW BW0
        obtain ⟨k, hk, rfl, rfl, BW⟩ := hrel
        by_cases hk1 : k < n
        · have k1 : (k : Int) < (n : Int) := by omega
          obtain ⟨⟨p1, p2, p3⟩, hp⟩ : ∃ p, L[k]? = some p := ⟨_, List.getElem?_eq_getElem (by rw [HN.out]; exact hk1)⟩
          obtain ⟨bL, oL, rfl, hbLlt, hcL⟩ := (U5.out.below BW.out).cells HN.out (by omega)
          obtain ⟨g0, g1, g2⟩ := blk_cells hcL hp
          simp only at g0 g1 g2
          have hv1 := HFM.out _ (List.mem_of_getElem? hp)
          simp only at hv1
          have hsum := sumP_succ (frs L) x k
          rw [frs_getD hp, HMX.out] at hsum
          simp only at hsum
          have hsl := sumP_le (frs L) x k
          rw [HMX.out] at hsl
          have hsl2 : k * (m + 1) ≤ 200 * 65 := Nat.mul_le_mul (by omega) (by omega)
          have hal : Below wr.heap.size wr (wr.alloc (.cells #[.string p1, .string p2, .int .i64 p3] 55)) := (Below.refl _ _).alloc (Nat.le_refl _) _
          have BA := Lib.hid (BW.out.trans (hal.mono BW.out.size))
          obtain ⟨S, hS⟩ : ∃ z, sumP (frs L) x k = z := ⟨_, rfl⟩
          rw [hS] at hsum hsl ⊢
          have hSb : S ≤ 13000 := Nat.le_trans hsl hsl2
          clear hsl hsl2
          by_cases hemp : p1 = ⟨#[]⟩
          · subst hemp
            rw [show items (⟨#[]⟩ : ByteArray).data.toList = [] from rfl, cntP_nil] at hsum
            have HSUM := Lib.hid hsum
            clear hcL hp hv1 hsum hS hal
            go_wp2
            exact ⟨⟨k + 1, by omega, by go_num, by rw [HSUM.out]; go_num, BA⟩, by simp [RowKit.intOf]; omega⟩
          · have hne1 : p1.toList.isEmpty = false := by
              rw [List.isEmpty_eq_false_iff]
              exact fun e => hemp (toList_ext (by rw [e, ba_toList]))
            have hne2 : items p1.data.toList ≠ [] := fun e => hemp (by
              have h1 := enc_items _ hv1
              rw [e] at h1
              have h2 : p1.data.toList = [] := h1.symm
              apply toList_ext
              rw [ba_toList, ba_toList, h2])
            have hlast := cntP_last (x := x) hne2
            rw [HMX.out] at hlast
            rw [hlast] at hsum
            have hpx : ∀ a, Lib.hasPrefix (textOf (x.drop a)).data.toList p1.data.toList = (items p1.data.toList).isPrefixOf (x.drop a) := fun a => has_prefix (fun z hz => HXV.out z (List.mem_of_mem_drop hz)) hv1
            obtain ⟨f, hff⟩ : ∃ z, items p1.data.toList = z := ⟨_, rfl⟩
            rw [hff] at hsum
            simp only [hff] at hpx
            have HSUM := Lib.hid hsum; have HPXX := Lib.hid hpx
            obtain ⟨wa, hwa⟩ : ∃ z, wr.alloc (.cells #[.string p1, .string p2, .int .i64 p3] 55) = z := ⟨_, rfl⟩
            have x0 : wa.cell? ⟨wr.heap.size, 0, none⟩ = some (.string p1) := by rw [← hwa, cell_of_row _ _ _ _ _ _ (heap_alloc_new wr _)]; rfl
            have hsa : wr.heap.size < wa.heap.size := by rw [← hwa]; simp
            rw [hwa] at BA
            obtain ⟨bx, hbx⟩ : ∃ z, wr.heap.size = z := ⟨_, rfl⟩
            have HWA := Lib.hid hwa; have HBX := Lib.hid hbx
            rw [hbx] at x0 hsa
            have HX0 := Lib.hid x0
            clear hcL hp hv1 hsum hS hal hne2 hlast hpx hff hwa hbx hemp x0
            go_wp2
            rw [HWA.out, HBX.out]
            clear hne1
            go_loopw [15, 153] (fun s15 s153 wq => ∃ a : Nat, a ≤ m ∧ s153 = .int .i64 (a : Int) ∧ s15 = .int .i64 ((S + cntP f x a : Nat) : Int) ∧ Hid (Below wa.heap.size wa wq)) (fun _ s153 _ => m - (RowKit.intOf s153).toNat)
            case atStart => exact ⟨0, Nat.zero_le _, rfl, by simp [cntP], Lib.hid (Below.refl _ _)⟩
            case round =>
              obtain ⟨a, ha, rfl, rfl, BQ⟩ := hrel
              have hcl := cntP_le f x a
              have hcs := cntP_succ f x a
              obtain ⟨ct, hct⟩ : ∃ z, cntP f x a = z := ⟨_, rfl⟩
              rw [hct] at hcl hcs ⊢
              by_cases ha1 : a < m
              · have a1 : (a : Int) < (m : Int) := by omega
                have hdv : ∀ z ∈ x.drop a, Lib.validRune z = true := fun z hz => HXV.out z (List.mem_of_mem_drop hz)
                have hsl := slice_l32 ((R5.out.below BA.out).below BQ.out) HMX.out a ha
                obtain ⟨As, hAs⟩ : ∃ z, cutA A5 c5 a = z := ⟨_, rfl⟩
                obtain ⟨cs, hcs2⟩ : ∃ z, c5 - a = z := ⟨_, rfl⟩
                obtain ⟨ms, hms⟩ : ∃ z, m - a = z := ⟨_, rfl⟩
                rw [hAs, hcs2, hms] at hsl
                have en := EN.out _ (x.drop a) wr hsl.2 (by rw [List.length_drop, HMX.out]; omega) (fun z hz => by have := rune_i32 (hdv z hz); omega)
                change Calls Tryd.prog 23 #[_] wr (fun e w' => e = .returned (.tuple #[.string (textOf (x.drop a)), .int .i64 (encErr (x.drop a))]) ∧ Below wr.heap.size wr w') at en
                have hs1 := hsl.1
                have hpx2 := HPX.out (textOf (x.drop a)) p1
                rw [HPXX.out a] at hpx2
                obtain ⟨tb, htb⟩ : ∃ z, f.isPrefixOf (x.drop a) = z := ⟨_, rfl⟩
                rw [htb] at hpx2 hcs
                obtain ⟨tx, htx⟩ : ∃ z, textOf (x.drop a) = z := ⟨_, rfl⟩
                obtain ⟨ee, hee⟩ : ∃ z, encErr (x.drop a) = z := ⟨_, rfl⟩
                rw [htx, hee] at en
                rw [htx] at hpx2
                have HEN := Lib.hid en; have HP2 := Lib.hid hpx2; have HCS := Lib.hid hcs
                clear hdv hsl hAs hcs2 hms en hpx2 htx hee htb hcs hct
                go_wp2_with fail
                refine HEN.out.mono ?_
                rintro e w6 ⟨rfl, b6⟩
                have B6 := Lib.hid (BQ.out.trans (b6.mono BQ.out.size))
                have y0 := (B6.out.cell (p := ⟨bx, 0, none⟩) hsa).trans HX0.out
                clear b6 HEN
                go_wp2_with fail
                refine (HP2.out _).mono ?_
                rintro e w7 ⟨rfl, rfl⟩
                cases tb with
                | true =>
                  have hw : cntP f x (a + 1) = ct + 1 := by rw [HCS.out]; simp
                  have HW := Lib.hid hw
                  clear hw y0
                  go_wp2
                  exact ⟨⟨a + 1, by omega, by go_num, by rw [HW.out]; go_num, B6⟩, by simp [RowKit.intOf]; omega⟩
                | false =>
                  have hw : cntP f x (a + 1) = ct := by rw [HCS.out]; simp
                  have HW := Lib.hid hw
                  clear hw y0
                  go_wp2
                  exact ⟨⟨a + 1, by omega, by go_num, by rw [HW.out]; go_num, B6⟩, by simp [RowKit.intOf]; omega⟩
              · obtain rfl : a = m := by omega
                have hw : S + ct = sumP (frs L) x (k + 1) := by rw [HSUM.out, hct]
                rw [hw]
                have BE := Lib.hid (BA.out.trans (BQ.out.mono BA.out.size))
                clear hw hcs hcl hct
                go_wp2
                exact ⟨⟨k + 1, by omega, by go_num, rfl, BE⟩, by simp [RowKit.intOf]; omega⟩
        · obtain rfl : k = n := by omega
          have hfin := HALL.out
          rw [hfin]
          go_wp2
          go_ret
          exact ⟨by simp, B5.out.trans (BW.out.mono B5.out.size)⟩
end Go.Proofs.YtbbkkoeipkigdaaDoor
