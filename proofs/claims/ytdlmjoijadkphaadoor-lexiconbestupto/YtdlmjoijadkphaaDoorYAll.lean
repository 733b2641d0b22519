/- LexiconAll, walked over what lexicon's functions answer. -/
import Derived.Test.YtdlmjoijadkphaaDoorYMap
import Derived.Test.YtdlmjoijadkphaaDoorXPlace
namespace Go.Proofs.YtdlmjoijadkphaaDoor
open Go.RowKit Go.Shelf
set_option linter.unusedSimpArgs false
set_option linter.unusedVariables false

set_option maxRecDepth 100000 in
set_option maxHeartbeats 32000000 in
theorem lexiconAll_walk (u : Value) (l : List Wrd) (s : ByteArray) (w : World) (h : Okw w) (hu : WRuns w u l) (hl : l.length ≤ 2000000) (hz : szW l) (hs : s.size ≤ 2000000) :
    Calls Tryd.prog 6 #[u, .string s] w (RetTrue w) := by
  have g1 := fun w hu => great9_det u l w hu (fun b hb => by have := hz b hb; omega)
  have n1 := fun w hO hu => xnormal_any u l w hO hu hl hz
  have hgl := fun (hg : grW l = false) => (grW_no hg).1
  have fnd := fun v k w hO hv => xfind_any v (worS l) k w hO hv (by have := worS_len l; omega) (szW_nor hz)
  have hfx : worE l = 0 → (∀ k, wfS (worS l) k = frq l k ∧ wfE (worS l) k = if frq l k = 0 then 10 else 0) ∧ frB l ∧ (worS l).length = (nrmW l).length := fun h0 => by
    have hb := frB_of (worE_facts h0).1
    refine ⟨fun k => ?_, hb, by rw [worS_eq h0]⟩
    unfold wfS wfE
    rw [if_pos (wor_is h0), if_pos (wor_is h0), worS_eq h0, nrmW_frq hb]
    exact ⟨rfl, rfl⟩
  obtain ⟨gr, hgr⟩ : ∃ z, grW l = z := ⟨_, rfl⟩
  obtain ⟨ea, hea⟩ : ∃ z, worE l = z := ⟨_, rfl⟩
  obtain ⟨X, hX⟩ : ∃ z, worS l = z := ⟨_, rfl⟩
  simp only [hgr] at g1 hgl
  simp only [hea, hX] at n1 hfx
  simp only [hX] at fnd
  obtain ⟨nx, hnx⟩ : ∃ z, X.length = z := ⟨_, rfl⟩
  rw [hnx] at hfx
  obtain ⟨A, c, e⟩ := hu.slice
  obtain ⟨n, hn⟩ : ∃ n, l.length = n := ⟨_, rfl⟩
  rw [hn] at e hl hgl
  subst e
  have HU := Lib.hid hu; have G1 := Lib.hid g1; have N1 := Lib.hid n1; have HGL := Lib.hid hgl; have FND := Lib.hid fnd; have HFX := Lib.hid hfx; have HNX := Lib.hid hnx; have HN := Lib.hid hn; have HZ := Lib.hid hz
  clear hu g1 n1 hgl fnd hfx hnx hn hz hgr hea hX
  go_enter Tryd.func6, Tryd.ntmps6
  go_wp2_with fail
  refine (alive9_any _ h).mono ?_
  rintro e w1 ⟨rfl, b1⟩
  have U1 := Lib.hid (HU.out.below b1); have K1 : Hid (Okw w1) := Lib.hid (h.below b1)
  have B1 := Lib.hid b1; clear b1
  go_wp2_with fail
  refine (N1.out _ K1.out U1.out).mono ?_
  rintro e w2 ⟨va, rfl, ra, b2⟩
  obtain ⟨Aa, ka, ea2⟩ := ra.slice
  rw [HNX.out] at ea2
  subst ea2
  have U2 := Lib.hid (U1.out.below b2); have K2 : Hid (Okw w2) := Lib.hid (K1.out.below b2)
  have R2 := Lib.hid ra
  have B2 := Lib.hid (B1.out.trans (b2.mono B1.out.size)); clear b2 ra U1 K1 B1
  go_wp2_with fail
  refine (G1.out _ U2.out).mono ?_
  rintro e w3 ⟨rfl, b3⟩
  have U3 := Lib.hid (U2.out.below b3); have K3 : Hid (Okw w3) := Lib.hid (K2.out.below b3)
  have R3 := Lib.hid (R2.out.below b3)
  have B3 := Lib.hid (B2.out.trans (b3.mono B2.out.size)); clear b3 U2 K2 B2 R2 G1 N1
  cases gr
  rotate_left
  · go_wp2
    go_ret
    exact ⟨rfl, B3.out⟩
  by_cases h0 : ea = 0
  rotate_left
  · have h0' : (ea == 0) = false := by simpa using h0
    have h0'' : (ea != 0) = true := by simpa using h0
    go_wp2
    go_ret
    exact ⟨rfl, B3.out⟩
  subst h0
  have hn5 := HGL.out (by first | rfl | trivial)
  obtain ⟨hfx, hfb, hxl⟩ := HFX.out (by first | rfl | trivial)
  have FX := Lib.hid hfx; have FB := Lib.hid hfb; have XL := Lib.hid hxl
  clear HGL HFX hfx hfb hxl
  have hmd := FrqMap.made w3
  have bm : Below w3.heap.size w3 (w3.alloc (.map #[] 0)) := bel_one _ _
  obtain ⟨w4, hw4⟩ : ∃ z, w3.alloc (.map #[] 0) = z := ⟨_, rfl⟩
  have hsz4 : w4.heap.size = w3.heap.size + 1 := by rw [← hw4]; simp
  rw [hw4] at hmd bm
  obtain ⟨mp, hmp⟩ : ∃ z, w3.heap.size = z := ⟨_, rfl⟩
  rw [hmp] at hmd
  have HMD := Lib.hid hmd; have HMP := Lib.hid hmp; have HW4 := Lib.hid hw4; have BM := Lib.hid bm
  clear hmd hmp hw4 bm hsz4
  have hmm := @run_makeMap Tryd.prog
  go_wp2
  rw [HW4.out, HMP.out]
  clear hmm
  go_loopw [32] (fun s32 wr => ∃ (k : Nat) (D : DataW Unit), k ≤ n ∧ s32 = .int .i64 k ∧ Hid (FrqMap wr mp k D) ∧ Hid (ViewI D (l.take k)) ∧ Hid (Below w3.heap.size w3 wr)) (fun s32 _ => n - (RowKit.intOf s32).toNat)
  case atStart => exact ⟨0, .map [], Nat.zero_le _, rfl, HMD, Lib.hid (by simpa using ViewI.none_), BM⟩
  case round =>
    obtain ⟨k, D, hkn, rfl, HD, HV, BW⟩ := hrel
    by_cases hk : k < n
    · have k1 : (k : Int) < (n : Int) := by omega
      obtain ⟨⟨p1, p2⟩, hp⟩ : ∃ p, l[k]? = some p := ⟨_, List.getElem?_eq_getElem (by rw [HN.out]; exact hk)⟩
      obtain ⟨b, o, rfl, _, hcc⟩ := (U3.out.below BW.out).cells HN.out (by omega)
      obtain ⟨e0, e1⟩ := wrd_cells hcc hp
      simp only at e0 e1
      have hz1 := HZ.out _ (List.mem_of_getElem? hp)
      have hf1 := FB.out _ (List.mem_of_getElem? hp)
      have hft : frB (l.take k) := fun z hz => FB.out z (List.mem_of_mem_take hz)
      simp only at hz1 hf1
      have hal : Below wr.heap.size wr (wr.alloc (.cells #[.string p1, .int .i64 p2] 24)) := bel_one _ _
      have hD2 : FrqMap (wr.alloc (.cells #[.string p1, .int .i64 p2] 24)) mp k D := World.ownsMap.alloc HD.out _
      have hlk := FrqMap.look hD2 HV.out (s := p1) (by unfold maxLen; omega)
      obtain ⟨w9, D9, hrun, hD9, hV9, hg9⟩ := FrqMap.set hD2 HV.out (by omega) hft (p1, p2) hf1 (by show p1.size ≤ maxLen; unfold maxLen; omega)
      have htk : l.take (k + 1) = l.take k ++ [(p1, p2)] := by rw [List.take_add_one, hp]; rfl
      rw [← htk] at hV9
      have B9 : Below w3.heap.size w3 w9 := (BW.out.trans (hal.mono BW.out.size)).grown hg9 (Nat.le_trans BW.out.size hal.size) (fun k hk => by cases hk; rw [HMP.out]; exact Nat.le_refl _)
      obtain ⟨fq, hfq⟩ : ∃ z, frq (l.take k) p1 = z := ⟨_, rfl⟩
      have hfl := frq_le (l.take k) p1
      have hfn := frq_nonneg hft p1
      simp only [hfq] at hlk hrun hfl hfn
      have hwp : IntKind.i64.wrap (fq + p2) = fq + p2 := by rw [IntKind.wrap_i64]; omega
      have HD9 := Lib.hid hD9; have HV9 := Lib.hid hV9; have BB9 := Lib.hid B9
      clear hcc hp hal hD9 hV9 hg9 htk B9 HD HV hD2 hft hfq hfl hfn hf1 hz1
      go_wp2
      exact ⟨⟨k + 1, D9, by omega, by go_num, HD9, HV9, BB9⟩, by simp [RowKit.intOf]; omega⟩
    · obtain rfl : k = n := by omega
      obtain ⟨wo, rfl⟩ : ∃ wo, wo = wr := ⟨wr, rfl⟩
      rw [show l.take k = l by rw [← HN.out]; exact List.take_length] at HV
      obtain ⟨sz, hsz⟩ : ∃ z, Maps.size D = z := ⟨_, rfl⟩
      have HSZ : Hid (Maps.size D = nx) := Lib.hid (by rw [HV.out.size, XL.out])
      clear hsz
      have R4 := Lib.hid (R3.out.below BW.out)
      have B4 := Lib.hid (B3.out.trans (BW.out.mono B3.out.size)); have K4 : Hid (Okw wo) := Lib.hid (K3.out.below BW.out)
      have hmpl : mp < wo.heap.size := HD.out.lt
      clear U3 R3 K3 BW HMD BM HW4 B3
      go_wp2_with (first
        | (at_range; refine wpList_range_own _ rfl _ 44 rfl 9 3 str_keyed Tryd.underlying44 _ mp _ D rfl HD.out ?_; intro w0 hrg0 hg0 hs0)
        | go_in)
      go_frame
      obtain ⟨r, hr⟩ : ∃ z, wo.heap.size = z := ⟨_, rfl⟩
      rw [hr] at hrg0 ⊢
      have hb0 : Below wo.heap.size wo w0 := (Below.refl _ _).grown hg0 (Nat.le_refl _) (fun k hk => by cases hk)
      have HRG0 := Lib.hid hrg0; have HB0 := Lib.hid hb0
      have HRL := Lib.hid hr
      have FNDK := Lib.hid (fun k w hO (hv : WRuns w (.slice Aa nx ka) X) => FND.out _ k w hO hv)
      clear hrg0 hg0 hs0 hb0 hr FND
      go_loopw [4] (fun s4 wq => ∃ (left : Lit → Bool) (cn : Nat), s4 = .bool false ∧ Hid (wq.ranges Tryd.prog 9 (plainElem Tryd.prog 3) mp r k D left cn) ∧ Hid (Below wo.heap.size wo wq)) (fun _ wq => wq.rangeLeft mp r)
      case atStart => exact ⟨_, _, rfl, HRG0, HB0⟩
      case round =>
        obtain ⟨left, cn, rfl, HRG, BQ⟩ := hrel
        clear HRG0 HB0
        go_wp2_with (first
          | (at_next; refine wpList_next_ranges _ rfl _ rfl 9 str_keyed (plainElem Tryd.prog 3) (fun x : ByteArray => .string x) (Value.int .i64) keyOf_str_inv int_elem_inv mp r _ D left cn rfl HRG.out ?_ ?_)
          | go_in)
        · intro _ _
          have HDQ := HRG.out.owns
          have RQ := Lib.hid (R4.out.below BQ.out); have KQ : Hid (Okw wr) := Lib.hid (K4.out.below BQ.out)
          have cf := FNDK.out s wr KQ.out RQ.out
          rw [(FX.out s).1, (FX.out s).2] at cf
          obtain ⟨fs, hfs⟩ : ∃ z, frq l s = z := ⟨_, rfl⟩
          have hnn := frq_nonneg FB.out s
          have hlk : ∀ w', Below wr.heap.size wr w' → (Instr.lookup 44 (.map (some mp)) (.string s) false).run Tryd.prog w' = .ok (.int .i64 fs) w' := fun w' hb => by
            have := FrqMap.look (HDQ.kept (grown_none hb) (by simp)) HV.out (s := s) (by unfold maxLen; omega)
            rw [hfs] at this; exact this
          rw [hfs] at cf hnn
          obtain ⟨er, her, herc⟩ : ∃ er : Int, (if fs = 0 then (10 : Int) else 0) = er ∧ ((fs = 0 ∧ er = 10) ∨ (0 < fs ∧ er = 0)) := by
            by_cases hf0 : fs = 0
            · exact ⟨10, by rw [if_pos hf0], .inl ⟨hf0, rfl⟩⟩
            · exact ⟨0, by rw [if_neg hf0], .inr ⟨by omega, rfl⟩⟩
          rw [her] at cf
          have HLK := Lib.hid hlk; have CF := Lib.hid cf
          have HLE : Hid (∀ w', Below wr.heap.size wr w' → FrqMap w' mp k D) := Lib.hid (fun w' hb => HDQ.kept (grown_none hb) (by simp))
          have BE : Hid (Below w.heap.size w wr) := Lib.hid (B4.out.trans (BQ.out.mono B4.out.size))
          clear cf hlk HDQ hfs her HRG FNDK FX FB HV RQ KQ R4 K4
          go_wp2_with fail
          refine CF.out.mono ?_
          rintro e w6 ⟨rfl, b6⟩
          have hlk := HLK.out _ b6
          have HM6 := Lib.hid (HLE.out _ b6)
          have B6 := Lib.hid (BE.out.trans (b6.mono BE.out.size))
          clear b6 HLK HLE CF
          rcases herc with ⟨rfl, rfl⟩ | ⟨hfp, rfl⟩
          · go_wp2_with (first
              | (at_len; refine wpList_len_own _ rfl _ 44 rfl 9 3 Tryd.underlying44 _ mp _ D rfl HM6.out ?_; rw [HSZ.out])
              | go_in)
            go_ret
            exact ⟨rfl, B6.out⟩
          · go_wp2_with (first
              | (at_len; refine wpList_len_own _ rfl _ 44 rfl 9 3 Tryd.underlying44 _ mp _ D rfl HM6.out ?_; rw [HSZ.out])
              | go_in)
            go_ret
            exact ⟨ret_bool (by simp), B6.out⟩
        · intro a c kl yd yp w2 cn2 hkey hlk hv hat hrg2 hlt hg2 hs2 hen
          obtain rfl := keyOf_str_is hkey
          obtain ⟨c', e1, e2, _⟩ := plainElem_int_inv Tryd.underlying3 hv
          obtain rfl : c = c' := by simpa using e1
          obtain ⟨rfl, rfl⟩ : yd = .lit (.int .i64 c) ∧ yp = [] := by simpa using e2
          have hcc : c = frq l a := by
            have h1 := hat (.lit (.int .i64 0))
            rw [HV.out.at_ a] at h1
            simpa using h1.symm
          have hc1 : frq l a ≠ 0 := by
            obtain ⟨a2, e3, h3⟩ := HV.out.has _ (Maps.has_true_of_atKey hat)
            rw [keyS_inj e3]; omega
          have b2 : Below wo.heap.size wo w2 := BQ.out.grown hg2 BQ.out.size (fun k hk => by cases hk; rw [HRL.out]; exact Nat.le_refl _)
          have cf := FNDK.out a w2 (K4.out.below b2) (R4.out.below b2)
          rw [(FX.out a).1, (FX.out a).2, if_neg hc1, ← hcc] at cf
          have CF := Lib.hid cf
          have hdn : Hid (∀ w6, Below w2.heap.size w2 w6 → (∃ (left : Lit → Bool) (cn : Nat), Hid (w6.ranges Tryd.prog 9 (plainElem Tryd.prog 3) mp r k D left cn) ∧ Hid (Below wo.heap.size wo w6)) ∧ w6.rangeLeft mp r < wr.rangeLeft mp r) := Lib.hid (fun w6 b6 => by
            have r6 := hrg2.kept (grown_none b6) (by simp) (by simp)
            exact ⟨⟨_, _, Lib.hid r6, Lib.hid (b2.trans (b6.mono b2.size))⟩, by rw [r6.left_eq, HRG.out.left_eq]; exact hlt⟩)
          clear cf hkey hlk hv hat hrg2 hlt hg2 hs2 e1 e2 hcc hc1 b2 HRG BQ FNDK
          go_wp2_with fail
          refine CF.out.mono ?_
          rintro e w6 ⟨rfl, b6⟩
          obtain ⟨⟨lf, cn6, h61, h62⟩, h63⟩ := hdn.out w6 b6
          have H63 := Lib.hid h63
          clear b6 hdn CF h63
          go_wp2
          exact ⟨⟨lf, cn6, by first | rfl | trivial, h61, h62⟩, H63.out⟩
end Go.Proofs.YtdlmjoijadkphaaDoor
