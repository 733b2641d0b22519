/- WalkMore, walked over what walk's functions answer. -/
import Derived.Test.YtljaibhhkjapmaaDoorPk20
namespace Go.Proofs.YtljaibhhkjapmaaDoor
open Go.RowKit Go.Shelf
attribute [local go_sem] Oper.semAt_some
set_option linter.unusedSimpArgs false
set_option linter.unusedVariables false

theorem begL_more (X : List Wrd) (s t : ByteArray) : (begL X (s ++ t)).length ≤ (begL X s).length := by
  unfold begL
  rw [← List.countP_eq_length_filter, ← List.countP_eq_length_filter]
  refine List.countP_mono_left (fun x hx hp => ?_)
  rw [preK_iff] at hp ⊢
  refine List.IsPrefix.trans ?_ hp
  rw [ByteArray.data_append, Array.toList_append]
  exact List.prefix_append _ _
theorem strAdd (a b : ByteArray) (h : a.size + b.size ≤ 281474976710656) (w : World) : (Op.stringOp .add a b).run Tryd.prog w = .ok (.string (a ++ b)) w := by
  unfold Op.stringOp
  simp only
  rw [if_neg (by show ¬ (((a.size + b.size : Nat) : Int) > IntKind.i64.max); have : IntKind.i64.max = 9223372036854775807 := by decide
                 rw [this]; omega)]
  rfl
set_option maxRecDepth 100000 in
set_option maxHeartbeats 64000000 in
theorem walkMore_walk (u : Value) (l : List Wrd) (s t : ByteArray) (kk : Int) (hk0 : 0 ≤ kk) (hk1 : kk ≤ 255) (w : World) (h : Okw w) (hu : WRuns w u l) (hz : szMW l) (hs : s.size ≤ 140737488355328) (ht : t.size ≤ 140737488355328) :
    Calls Tryd.prog 9 #[.agg #[u, .string s, .string t, .int .u8 kk]] w (RetTrue w) := by
  have hst : (s ++ t).size = s.size + t.size := ByteArray.size_append
  have m1 := fun w hO hu => made_any u l (s ++ t) w hO hu hz (by omega)
  obtain ⟨k, rfl⟩ : ∃ k : Nat, kk = (k : Int) := ⟨kk.toNat, by omega⟩
  obtain ⟨X, hX⟩ : ∃ z, worS l = z := ⟨_, rfl⟩
  have hbm := begL_more X s t
  have sadd := fun w => strAdd s t (by omega) w
  have hss : s.size ≤ (s ++ t).size := by omega
  obtain ⟨A0, c0, ev0⟩ := hu.slice
  obtain ⟨nl, hnl⟩ : ∃ z, l.length = z := ⟨_, rfl⟩
  rw [hnl] at ev0
  subst ev0
  obtain ⟨st, hst2⟩ : ∃ z, s ++ t = z := ⟨_, rfl⟩
  simp only [hst2] at m1 hbm sadd hss
  have bx := bx_new w 76 #[.slice A0 nl c0, .string s, .string t, .int .u8 (k : Int)]
  have b0 := bel_one w (.cells #[.slice A0 nl c0, .string s, .string t, .int .u8 (k : Int)] 76)
  obtain ⟨w0, hw0⟩ : ∃ z, w.alloc (.cells #[.slice A0 nl c0, .string s, .string t, .int .u8 (k : Int)] 76) = z := ⟨_, rfl⟩
  rw [hw0] at bx b0
  obtain ⟨B, hB⟩ : ∃ z, w.heap.size = z := ⟨_, rfl⟩
  rw [hB] at bx
  have HU := Lib.hid (hu.below b0); have M1 := Lib.hid m1; have HBM := Lib.hid hbm; have BX := Lib.hid bx; have HW0 := Lib.hid hw0; have HB := Lib.hid hB; have K0 : Hid (Okw w0) := Lib.hid (h.below b0); have B0 := Lib.hid b0; have HSS := Lib.hid hss
  clear hu m1 hz hbm bx hw0 hB b0 hst2 hss hst
  go_enter Tryd.func9, Tryd.ntmps9
  go_wp2_with fail
  rw [HW0.out, HB.out]
  refine (alive11_any _ K0.out).mono ?_
  rintro e w1 ⟨rfl, b1⟩
  have U1 := Lib.hid (HU.out.below b1); have K1 : Hid (Okw w1) := Lib.hid (K0.out.below b1)
  have B1 := Lib.hid (B0.out.trans (b1.mono B0.out.size))
  have bx1 := BX.out.below b1
  have q0 : w1.cell? ⟨B, 0, none⟩ = some (.slice A0 nl c0) := bx1.cell rfl
  have q1 : w1.cell? ⟨B, 1, none⟩ = some (.string s) := bx1.cell rfl
  have q2 : w1.cell? ⟨B, 2, none⟩ = some (.string t) := bx1.cell rfl
  have q3 : w1.cell? ⟨B, 3, none⟩ = some (.int .u8 (k : Int)) := bx1.cell rfl
  clear b1 bx1
  go_wp2
  go_quiet (fail)
  have hbq := bel_drewN w1 nq
  obtain ⟨w1d, hw1d⟩ : ∃ z, w1.drewN nq = z := ⟨_, rfl⟩
  rw [hw1d] at hbq ⊢
  have U1d := Lib.hid (U1.out.below hbq); have K1d : Hid (Okw w1d) := Lib.hid (K1.out.below hbq); have B1d := Lib.hid (B1.out.trans (hbq.mono B1.out.size))
  clear hbq hw1d q0 q1 q2 q3 U1 K1 B1
  go_wp2_with fail
  refine (M1.out _ K1d.out U1d.out).mono ?_
  rintro e w2 ⟨b2, hp⟩
  have K2 : Hid (Okw w2) := Lib.hid (K1d.out.below b2); have B2 := Lib.hid (B1d.out.trans (b2.mono B1d.out.size))
  clear b2 M1
  rcases hp with rfl | ⟨d, v, rfl, hq, hd, hv⟩
  · go_wp2
    go_ret
    exact ⟨rfl, B2.out⟩
  rw [hX] at hq hd hv
  obtain ⟨hn, hx60, hs8, hzx⟩ := hq
  have hs1 := HSS.out
  have cc1 := fun w' (hb : Below w2.heap.size w2 w') => ucount_any w' d X hn _ rfl (hd.below hb) s (K2.out.below hb) (by omega)
  have cc2 := fun w' (hb : Below w2.heap.size w2 w') => ucount_any w' d X hn _ rfl (hd.below hb) st (K2.out.below hb) (by omega)
  have cp1 := fun w' (hb : Below w2.heap.size w2 w') => ucomplete_any w' d X hn _ rfl (hd.below hb) s 1000 (K2.out.below hb) (by omega)
  have cp2 := fun w' (hb : Below w2.heap.size w2 w') => ucomplete_any w' d X hn _ rfl (hd.below hb) s (k : Int) (K2.out.below hb) (by omega)
  have hsr := (wisS_facts hn).2.1
  have hbl1 := begL_len hsr s
  have hbl2 := begL_len hsr st
  have hbm := HBM.out
  rw [hbl1, hbl2] at hbm
  have hbx : (begL X s).length ≤ 60 := Nat.le_trans (List.length_filter_le _ _) hx60
  have e1 : ucpE s 1000 = uE s.data.toList := by
    unfold ucpE
    split
    · rename_i h0; rw [if_neg (by omega), h0]
    · rfl
  have e2 : ucpE s (k : Int) = uE s.data.toList := by
    unfold ucpE
    split
    · rename_i h0; rw [if_neg (by omega), h0]
    · rfl
  have e3 : uE s.data.toList = 0 → ucpS X s 1000 = begL X s ∧ ucpS X s (k : Int) = (begL X s).take k := fun h0 => by
    unfold ucpS
    rw [e1, e2, if_pos h0, if_pos h0, Int.toNat_natCast, show (1000 : Int).toNat = 1000 from rfl, List.take_of_length_le (by omega)]
    exact ⟨rfl, rfl⟩
  have hc1 : ucN X s = if uE s.data.toList = 0 then (bgN X s : Int) else 0 := rfl
  have hc2 : ucN X st = if uE st.data.toList = 0 then (bgN X st : Int) else 0 := rfl
  rw [e1] at cp1
  rw [e2] at cp2
  obtain ⟨Y, hY⟩ : ∃ z, begL X s = z := ⟨_, rfl⟩
  obtain ⟨m1, hm1⟩ : ∃ z, bgN X s = z := ⟨_, rfl⟩
  obtain ⟨m2, hm2⟩ : ∃ z, bgN X st = z := ⟨_, rfl⟩
  obtain ⟨er, her⟩ : ∃ z, uE s.data.toList = z := ⟨_, rfl⟩
  obtain ⟨er2, her2⟩ : ∃ z, uE st.data.toList = z := ⟨_, rfl⟩
  obtain ⟨c1, hcc1⟩ : ∃ z, ucN X s = z := ⟨_, rfl⟩
  obtain ⟨c2, hcc2⟩ : ∃ z, ucN X st = z := ⟨_, rfl⟩
  obtain ⟨S1, hS1⟩ : ∃ z, ucpS X s 1000 = z := ⟨_, rfl⟩
  obtain ⟨S2, hS2⟩ : ∃ z, ucpS X s (k : Int) = z := ⟨_, rfl⟩
  simp only [her, her2, hcc1, hcc2, hS1, hS2, hY, hm1, hm2] at cc1 cc2 cp1 cp2 e3 hc1 hc2 hbm hbl1 hbx
  have CC1 := Lib.hid cc1; have CC2 := Lib.hid cc2; have CP1 := Lib.hid cp1; have CP2 := Lib.hid cp2; have E3 := Lib.hid e3; have HC2 := Lib.hid hc2; have HBM2 := Lib.hid hbm; have HBL := Lib.hid hbl1
  clear cc1 cc2 cp1 cp2 e3 hc2 hbm hbl1 hbl2 hsr e1 e2 her her2 hcc1 hcc2 hS1 hS2 hY hm1 hm2 hn hx60 hs8 hzx hd hv hX hs1 HBM hnl hs ht
  by_cases he : er = 0
  rotate_left
  · rw [if_neg he] at hc1
    subst hc1
    have n1 : (er == 0) = false := by simpa using he
    have n2 : (er != 0) = true := by simpa using he
    have n3 : (er == er) = true := beq_self_eq_true _
    go_wp2_with fail
    refine (CP1.out _ (Below.refl _ _)).mono ?_
    rintro e w3 ⟨v3, rfl, _, b3⟩
    have B3 := Lib.hid b3
    clear b3
    go_wp2_with fail
    refine (CP2.out _ B3.out).mono ?_
    rintro e w4 ⟨v4, rfl, _, b4⟩
    have B4 := Lib.hid (B3.out.trans (b4.mono B3.out.size))
    clear b4
    go_wp2_with fail
    refine (CC1.out _ B4.out).mono ?_
    rintro e w5 ⟨rfl, b5⟩
    have B5 := Lib.hid (B4.out.trans (b5.mono B4.out.size))
    clear b5
    go_wp2_with fail
    refine (CC2.out _ B5.out).mono ?_
    rintro e w6 ⟨rfl, b6⟩
    have B6 := Lib.hid (B2.out.trans ((B5.out.trans (b6.mono B5.out.size)).mono B2.out.size))
    clear b6
    go_wp2
    go_ret
    exact ⟨rfl, B6.out⟩
  subst he
  rw [if_pos (by first | rfl | trivial)] at hc1
  subst hc1
  obtain ⟨h1, h2⟩ := E3.out (by first | rfl | trivial)
  subst h1 h2
  obtain ⟨q, hq⟩ : ∃ q, min k m1 = q := ⟨_, rfl⟩
  have hmin : min (k : Int) (m1 : Int) = (q : Int) := by omega
  have hqm : q ≤ m1 ∧ q ≤ k := by omega
  have hq2 : (S1.take k).length = q := by rw [List.length_take, HBL.out]; exact hq
  have hq3 : S1.take q = S1.take k := by
    rw [← hq, ← List.take_take, List.take_of_length_le (l := S1) (by rw [HBL.out]; exact Nat.le_refl _)]
  have HQ2 := Lib.hid hq2; have HQ3 := Lib.hid hq3
  clear hq hq2 hq3
  go_wp2_with fail
  refine (CP1.out _ (Below.refl _ _)).mono ?_
  rintro e w3 ⟨v3, rfl, r3, b3⟩
  have B3 := Lib.hid b3; have R3 := Lib.hid r3
  clear r3 b3
  obtain ⟨A3, c3, ev3⟩ := R3.out.slice
  rw [HBL.out] at ev3
  subst ev3
  go_wp2_with fail
  refine (CP2.out _ B3.out).mono ?_
  rintro e w4 ⟨v4, rfl, r4, b4⟩
  have B4 := Lib.hid (B3.out.trans (b4.mono B3.out.size)); have R4 := Lib.hid r4; have R3b := Lib.hid (R3.out.below b4)
  clear b4 r4
  obtain ⟨A4, c4, ev4⟩ := R4.out.slice
  rw [HQ2.out] at ev4
  subst ev4
  go_wp2_with fail
  refine (CC1.out _ B4.out).mono ?_
  rintro e w5 ⟨rfl, b5⟩
  have B5 := Lib.hid (B4.out.trans (b5.mono B4.out.size)); have R4c := Lib.hid (R4.out.below b5); have R3c := Lib.hid (R3b.out.below b5)
  clear b5
  go_wp2_with fail
  refine (CC2.out _ B5.out).mono ?_
  rintro e w6 ⟨rfl, b6⟩
  obtain ⟨hsl, hvs⟩ := slice_wdh (R3c.out.below b6) HBL.out q hqm.1
  rw [HQ3.out] at hvs
  have csm := refSame9_any (.slice A4 q c4) (.slice (cutW2 A3 c3 0) q c3) _ _ w6 (R4c.out.below b6) hvs
  rw [decide_eq_true rfl] at csm
  have CSM := Lib.hid csm
  have B6 := Lib.hid (B2.out.trans ((B5.out.trans (b6.mono B5.out.size)).mono B2.out.size))
  have n1 : ((q : Int) == (q : Int)) = true := beq_self_eq_true _
  have wk : IntKind.i64.wrap (k : Int) = (k : Int) := by rw [IntKind.wrap_i64]; omega
  have hc2 := HC2.out
  have hm12 := HBM2.out
  clear b6 hvs csm
  by_cases he2 : er2 = 0
  · subst he2
    rw [if_pos (by first | rfl | trivial)] at hc2
    subst hc2
    have k1 : (m2 : Int) ≤ (m1 : Int) := by omega
    have k2 : decide ((m2 : Int) ≤ (m1 : Int)) = true := decide_eq_true k1
    go_wp2_with (go_at_call 37; refine CSM.out.mono ?_; rintro e w7 ⟨rfl, nd, rfl⟩)
    go_ret
    exact ⟨rfl, below_draws B6.out _⟩
  · have n2 : (er2 == 0) = false := by simpa using he2
    have n3 : (er2 != 0) = true := by simpa using he2
    clear hc2
    go_wp2_with (go_at_call 37; refine CSM.out.mono ?_; rintro e w7 ⟨rfl, nd, rfl⟩)
    go_ret
    exact ⟨rfl, below_draws B6.out _⟩
theorem walkMore_carded (u : Value) (l : List Wrd) (s t : ByteArray) (kk : Int) (w : World) (h : Okw w) (hu : WRuns w u l) (hz : szMW l) (hs : s.size ≤ 140737488355328) (ht : t.size ≤ 140737488355328) (hk0 : 0 ≤ kk) (hk1 : kk ≤ 255) :
    Calls Tryd.prog 9 #[.agg #[u, .string s, .string t, .int .u8 kk]] w (RetTrue w) := walkMore_walk u l s t kk hk0 hk1 w h hu hz hs ht
end Go.Proofs.YtljaibhhkjapmaaDoor
