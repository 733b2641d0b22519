/- WalkSplits, walked over what walk's functions answer. -/
import Derived.Test.YtljaibhhkjapmaaDoorULngL
import Derived.Test.YtljaibhhkjapmaaDoorUMore
namespace Go.Proofs.YtljaibhhkjapmaaDoor
open Go.RowKit Go.Shelf
attribute [local go_sem] Oper.semAt_some
set_option linter.unusedSimpArgs false
set_option linter.unusedVariables false

theorem join_none (xs : List (List UInt8)) : Lib.join xs [] = xs.flatten := by
  induction xs with
  | nil => rfl
  | cons x xs ih =>
    cases xs with
    | nil => simp [Lib.join]
    | cons y xs => simp [Lib.join] at ih ⊢; exact ih
/-- strings.Join of texts with nothing between. -/
theorem join_tx (A : Option Addr) (n c : Nat) (xs : List ByteArray) (w : World) (hn : xs.length = n) (h : GRuns txCell 1 w (.slice A n c) xs) (hl : ((xs.map (fun b => b.data.toList)).flatten).length ≤ 140737488355328) (hx : n ≤ 1000000) :
    Calls Tryd.prog 40 #[.slice A n c, .string ⟨#[]⟩] w fun e w' => e = .returned (.string ⟨((xs.map (fun b => b.data.toList)).flatten).toArray⟩) ∧ Below w.heap.size w w' := by
  rcases Nat.eq_zero_or_pos n with h0 | h0
  · subst h0
    obtain rfl := List.eq_nil_of_length_eq_zero hn
    refine (Tryd.strings_Join_none A c ⟨#[]⟩ w).mono ?_
    rintro e w' ⟨rfl, rfl⟩
    exact ⟨rfl, Below.refl _ _⟩
  · have hcap := (gr_cap h).1
    obtain ⟨b, o, rfl, hlt, hc⟩ := h.cells hn h0
    have hj := join_none (xs.map (fun b => b.data.toList))
    have := Tryd.strings_Join b o c xs ⟨#[]⟩ w (fun j x hx => by have := hc j x hx 0 _ rfl; simpa using this) hlt (by omega) (by omega) (by
      show (Lib.join (xs.map (fun b => b.data.toList)) []).length ≤ _
      rw [hj]; exact hl)
    rw [hn] at this
    change Calls _ _ _ _ (fun e w' => e = .returned (.string ⟨(Lib.join (xs.map (fun b => b.data.toList)) []).toArray⟩) ∧ _) at this
    rw [hj] at this
    exact this
theorem z_wrap_nn (a b : Nat) (ha : a ≤ 1000) (hb : b ≤ 1000) : IntKind.i64.wrap ((a : Int) + (b : Int)) = (a : Int) + (b : Int) := by rw [IntKind.wrap_i64]; omega
set_option maxRecDepth 100000 in
set_option maxHeartbeats 64000000 in
theorem walkSplits_walk (u : Value) (l : List Wrd) (s t : ByteArray) (w : World) (h : Okw w) (hu : WRuns w u l) (hz : szMW l) (hs : s.size ≤ 140737488355328) (ht : t.size ≤ 140737488355328) :
    Calls Tryd.prog 7 #[u, .string s, .string t] w (RetTrue w) := by
  have hst : (s ++ t).size = s.size + t.size := ByteArray.size_append
  have m1 := fun w hO hu => made_any u l (s ++ t) w hO hu hz (by omega)
  obtain ⟨X, hX⟩ : ∃ z, worS l = z := ⟨_, rfl⟩
  have sadd := fun w => strAdd s t (by omega) w
  have hss : s.size ≤ (s ++ t).size ∧ t.size ≤ (s ++ t).size := by omega
  have hjn := fun (hn : wisS X = 0) h1 h2 => spl_join hn s t h1 h2
  obtain ⟨st, hst2⟩ : ∃ z, s ++ t = z := ⟨_, rfl⟩
  simp only [hst2] at m1 sadd hss hjn
  have HU := Lib.hid hu; have M1 := Lib.hid m1
  clear hu m1 hz hst2 hst hs ht
  go_enter Tryd.func7, Tryd.ntmps7
  go_wp2_with fail
  refine (alive11_any _ h).mono ?_
  rintro e w1 ⟨rfl, b1⟩
  have U1 := Lib.hid (HU.out.below b1); have K1 : Hid (Okw w1) := Lib.hid (h.below b1)
  have B1 := Lib.hid b1; clear b1
  go_wp2_with fail
  refine (M1.out _ K1.out U1.out).mono ?_
  rintro e w2 ⟨b2, hp⟩
  have K2 : Hid (Okw w2) := Lib.hid (K1.out.below b2); have B2 := Lib.hid (B1.out.trans (b2.mono B1.out.size))
  clear b2 M1
  rcases hp with rfl | ⟨d, v, rfl, hq, hd, hv⟩
  · go_wp2
    go_ret
    exact ⟨rfl, B2.out⟩
  rw [hX] at hq hd hv
  obtain ⟨hn, hx60, hs8, hzx⟩ := hq
  obtain ⟨Av, cv, ev⟩ := hv.slice
  obtain ⟨nx, hnx⟩ : ∃ z, X.length = z := ⟨_, rfl⟩
  rw [hnx] at ev
  subst ev
  have HV := Lib.hid hv; have HNX := Lib.hid hnx
  have c1 := fun w' (hb : Below w2.heap.size w2 w') => usplit_any w' d X hn _ rfl (hd.below hb) s (K2.out.below hb) (by omega)
  have ct := fun w' (hb : Below w2.heap.size w2 w') => usplit_any w' d X hn _ rfl (hd.below hb) t (K2.out.below hb) (by omega)
  have cst := fun w' (hb : Below w2.heap.size w2 w') => usplit_any w' d X hn _ rfl (hd.below hb) st (K2.out.below hb) (by omega)
  have cs : ∀ (x : Wrd), x ∈ X → ∀ w', Below w2.heap.size w2 w' → Calls Tryd.prog 35 #[.pointer (some ⟨d, 0, none⟩), .string x.1] w' fun e w'' => ∃ b o c, e = .returned (.tuple #[.slice (some ⟨b, o, none⟩) 1 c, .int .i64 0]) ∧ w''.cell? ⟨b, o, none⟩ = some (.string x.1) ∧ 1 ≤ c ∧ Below w'.heap.size w' w'' := fun x hx w' hb => by
    have h1 := usplit_any w' d X hn _ rfl (hd.below hb) x.1 (K2.out.below hb) (by have := hzx x hx; omega)
    obtain ⟨h2, h3⟩ := spl_self hn hx
    rw [h2, h3] at h1
    refine h1.mono ?_
    rintro e w'' ⟨v, rfl, hv, hb2⟩
    obtain ⟨A, c, ev⟩ := hv.slice
    have hcp := gr_cap (ev ▸ hv)
    subst ev
    obtain ⟨b, o, rfl, _, hcell⟩ := hv.cells rfl (by simp)
    exact ⟨b, o, c, rfl, by simpa using hcell 0 _ rfl 0 _ rfl, hcp.1, hb2⟩
  have cf := fun k w' (hb : Below w2.heap.size w2 w') => xfind_any (.slice Av nx cv) X k w' (K2.out.below hb) (hv.below hb) (by omega) hzx
  have htx := fun h0 => spl_text hn s h0
  have htt := fun h0 => (spl_text hn t h0).2.2
  have hj := hjn hn
  obtain ⟨eE, heE⟩ : ∃ z, uspE (rnW X) s.data.toList = z := ⟨_, rfl⟩
  obtain ⟨eS, heS⟩ : ∃ z, uspS (rnW X) s.data.toList = z := ⟨_, rfl⟩
  obtain ⟨fE, hfE⟩ : ∃ z, uspE (rnW X) t.data.toList = z := ⟨_, rfl⟩
  obtain ⟨fS, hfS⟩ : ∃ z, uspS (rnW X) t.data.toList = z := ⟨_, rfl⟩
  obtain ⟨gE, hgE⟩ : ∃ z, uspE (rnW X) st.data.toList = z := ⟨_, rfl⟩
  obtain ⟨gS, hgS⟩ : ∃ z, uspS (rnW X) st.data.toList = z := ⟨_, rfl⟩
  simp only [heE, heS, hfE, hfS, hgE, hgS] at c1 ct cst htx htt hj
  obtain ⟨na, hna⟩ : ∃ z, eS.length = z := ⟨_, rfl⟩
  obtain ⟨fn, hfn⟩ : ∃ z, fS.length = z := ⟨_, rfl⟩
  obtain ⟨gn, hgn⟩ : ∃ z, gS.length = z := ⟨_, rfl⟩
  rw [hna] at htx hj
  rw [hfn] at htt hj
  rw [hgn] at hj
  have hs9 : s.size ≤ 800 := by omega
  have hnx6 : nx ≤ 60 := by omega
  have C1 := Lib.hid c1; have CT := Lib.hid ct; have CST := Lib.hid cst; have CS := Lib.hid cs; have CF := Lib.hid cf; have HTX := Lib.hid htx; have HTT := Lib.hid htt; have HJ := Lib.hid hj; have HNA := Lib.hid hna; have HFN := Lib.hid hfn; have HGN := Lib.hid hgn
  clear c1 ct cst cs cf htx htt hj hjn heE heS hfE hfS hgE hgS hna hfn hgn hd hv hnx hX hs8 hx60 hzx hn hss
  by_cases he : eE = 0
  rotate_left
  · have e1 : (eE == 0) = false := by simpa using he
    have e2 : (eE != 0) = true := by simpa using he
    clear he
    go_wp2_with fail
    refine (C1.out _ (Below.refl _ _)).mono ?_
    rintro e w3 ⟨v3, rfl, r3, b3⟩
    obtain ⟨A3, c3, ev3⟩ := r3.slice
    subst ev3
    have B3 := Lib.hid b3
    clear r3 b3
    go_wp2
    go_loopw [65] (fun s65 wr => ∃ k : Nat, k ≤ nx ∧ s65 = .int .i64 k ∧ Hid (Below w2.heap.size w2 wr)) (fun s65 _ => nx - (RowKit.intOf s65).toNat)
    case atStart => exact ⟨0, Nat.zero_le _, rfl, B3⟩
    case round =>
      obtain ⟨k, hkn, rfl, HB⟩ := hrel
      by_cases hk : k < nx
      · have k1 : (k : Int) < (nx : Int) := by omega
        obtain ⟨⟨p1, p2⟩, hp⟩ : ∃ p, X[k]? = some p := ⟨_, List.getElem?_eq_getElem (by rw [HNX.out]; exact hk)⟩
        obtain ⟨b, o, rfl, _, hc⟩ := (HV.out.below HB.out).cells HNX.out (by omega)
        obtain ⟨g0, g1⟩ := wrd_cells hc hp
        simp only at g0 g1
        have cs := CS.out _ (List.mem_of_getElem? hp)
        simp only at cs
        have hal : Hid (Below w2.heap.size w2 (wr.alloc (.cells #[.string p1, .int .i64 p2] 72))) := Lib.hid (HB.out.alloc HB.out.size _)
        obtain ⟨c0, c1⟩ := cells2_new wr (.string p1) (.int .i64 p2) 72
        obtain ⟨W1, hW1⟩ : ∃ z, wr.alloc (.cells #[.string p1, .int .i64 p2] 72) = z := ⟨_, rfl⟩
        obtain ⟨B, hB⟩ : ∃ z, wr.heap.size = z := ⟨_, rfl⟩
        rw [hW1, hB] at c0 c1
        rw [hW1] at hal
        have n1 : (p1.toList == p1.toList) = true := beq_self_eq_true _
        have CS1 := Lib.hid cs; have HW1 := Lib.hid hW1; have HBB := Lib.hid hB
        clear cs hc hp hW1 hB
        go_wp2_with fail
        rw [HW1.out, HBB.out]
        refine (CS1.out _ hal.out).mono ?_
        rintro e w6 ⟨b6b, o6, c6, rfl, q6, hc6, b6⟩
        have c06 := cell_keep b6 c0
        have HB6 := Lib.hid (hal.out.trans (b6.mono hal.out.size))
        clear b6
        go_wp2
        go_quiet (fail)
        go_wp2
        exact ⟨⟨k + 1, by omega, by go_num, Lib.hid (below_draws HB6.out _)⟩, by simp [RowKit.intOf]; omega⟩
      · obtain rfl : k = nx := by omega
        have HB := HB
        go_wp2_with fail
        refine (CT.out _ HB.out).mono ?_
        rintro e w7 ⟨v7, rfl, r7, b7⟩
        obtain ⟨A7, c7, ev7⟩ := r7.slice
        rw [HFN.out] at ev7
        subst ev7
        have HB7 := Lib.hid (HB.out.trans (b7.mono HB.out.size))
        clear r7 b7
        go_wp2_with fail
        refine (CST.out _ HB7.out).mono ?_
        rintro e w8 ⟨v8, rfl, r8, b8⟩
        obtain ⟨A8, c8, ev8⟩ := r8.slice
        rw [HGN.out] at ev8
        subst ev8
        have HB8 := Lib.hid (B2.out.trans ((HB7.out.trans (b8.mono HB7.out.size)).mono B2.out.size))
        clear r8 b8
        go_wp2
        go_ret
        exact ⟨rfl, HB8.out⟩
  subst he
  obtain ⟨t1, t2, t3⟩ := HTX.out (by first | rfl | trivial)
  have hna6 : na ≤ 1000 := by omega
  have hlen : ((eS.map (fun b => b.data.toList)).flatten).length ≤ 140737488355328 := by rw [t1, ← Lib.size_eq]; omega
  have cj := fun A c w' hr => join_tx A na c eS w' HNA.out hr hlen (by omega)
  have est : (⟨((eS.map (fun b => b.data.toList)).flatten).toArray⟩ : ByteArray) = s := by rw [t1]
  simp only [est] at cj
  have CJ := Lib.hid cj; have HT2 := Lib.hid t2
  have hfn6 : fE = 0 → fn ≤ 1000 := fun h => by have := HTT.out h; omega
  have HFN6 := Lib.hid hfn6
  clear cj t1 t2 t3 hlen est hfn6
  have n0 : (s.toList == s.toList) = true := beq_self_eq_true _
  go_wp2_with fail
  refine (C1.out _ (Below.refl _ _)).mono ?_
  rintro e w3 ⟨v3, rfl, r3, b3⟩
  obtain ⟨A3, c3, ev3⟩ := r3.slice
  rw [HNA.out] at ev3
  subst ev3
  have B3 := Lib.hid b3; have R3 := Lib.hid r3
  clear r3 b3
  go_wp2_with fail
  refine (CJ.out _ _ _ R3.out).mono ?_
  rintro e w4 ⟨rfl, b4⟩
  have B4 := Lib.hid (B3.out.trans (b4.mono B3.out.size)); have R4 := Lib.hid (R3.out.below b4)
  clear b4 R3
  go_wp2
  go_loopw [50] (fun s50 wr => ∃ k : Nat, k ≤ na ∧ s50 = .int .i64 k ∧ Hid (Below w4.heap.size w4 wr)) (fun s50 _ => na - (RowKit.intOf s50).toNat)
  case atStart => exact ⟨0, Nat.zero_le _, rfl, Lib.hid (Below.refl _ _)⟩
  case round =>
    obtain ⟨k, hkn, rfl, HB⟩ := hrel
    by_cases hk : k < na
    · have k1 : (k : Int) < (na : Int) := by omega
      obtain ⟨p, hp⟩ : ∃ p, eS[k]? = some p := ⟨_, List.getElem?_eq_getElem (by rw [HNA.out]; exact hk)⟩
      obtain ⟨b, o, rfl, _, hc⟩ := (R4.out.below HB.out).cells HNA.out (by omega)
      have g0 := hc k _ hp 0 _ rfl
      simp only [Nat.mul_one, Nat.add_zero] at g0
      have hb9 := B4.out.trans (HB.out.mono B4.out.size)
      have cf := CF.out p wr hb9
      rw [HT2.out p (List.mem_of_getElem? hp)] at cf
      have CF1 := Lib.hid cf
      clear cf hc hp hb9
      go_wp2_with fail
      refine CF1.out.mono ?_
      rintro e w5 ⟨rfl, b5⟩
      have HB5 := Lib.hid (HB.out.trans (b5.mono HB.out.size))
      clear b5
      go_wp2
      exact ⟨⟨k + 1, by omega, by go_num, HB5⟩, by simp [RowKit.intOf]; omega⟩
    · have hkna : k = na := by omega
      have BST := Lib.hid (B4.out.trans (HB.out.mono B4.out.size))
      clear hkna HB
      go_wp2
      go_loopw [65] (fun s65 wr => ∃ k : Nat, k ≤ nx ∧ s65 = .int .i64 k ∧ Hid (Below w2.heap.size w2 wr)) (fun s65 _ => nx - (RowKit.intOf s65).toNat)
      case atStart => exact ⟨0, Nat.zero_le _, rfl, BST⟩
      case round =>
        obtain ⟨k, hkn, rfl, HB⟩ := hrel
        by_cases hk : k < nx
        · have k1 : (k : Int) < (nx : Int) := by omega
          obtain ⟨⟨p1, p2⟩, hp⟩ : ∃ p, X[k]? = some p := ⟨_, List.getElem?_eq_getElem (by rw [HNX.out]; exact hk)⟩
          obtain ⟨b, o, rfl, _, hc⟩ := (HV.out.below HB.out).cells HNX.out (by omega)
          obtain ⟨g0, g1⟩ := wrd_cells hc hp
          simp only at g0 g1
          have cs := CS.out _ (List.mem_of_getElem? hp)
          simp only at cs
          have hal : Hid (Below w2.heap.size w2 (wr.alloc (.cells #[.string p1, .int .i64 p2] 72))) := Lib.hid (HB.out.alloc HB.out.size _)
          obtain ⟨c0, c1⟩ := cells2_new wr (.string p1) (.int .i64 p2) 72
          obtain ⟨W1, hW1⟩ : ∃ z, wr.alloc (.cells #[.string p1, .int .i64 p2] 72) = z := ⟨_, rfl⟩
          obtain ⟨B, hB⟩ : ∃ z, wr.heap.size = z := ⟨_, rfl⟩
          rw [hW1, hB] at c0 c1
          rw [hW1] at hal
          have n1 : (p1.toList == p1.toList) = true := beq_self_eq_true _
          have CS1 := Lib.hid cs; have HW1 := Lib.hid hW1; have HBB := Lib.hid hB
          clear cs hc hp hW1 hB
          go_wp2_with fail
          rw [HW1.out, HBB.out]
          refine (CS1.out _ hal.out).mono ?_
          rintro e w6 ⟨b6b, o6, c6, rfl, q6, hc6, b6⟩
          have c06 := cell_keep b6 c0
          have HB6 := Lib.hid (hal.out.trans (b6.mono hal.out.size))
          clear b6
          go_wp2
          go_quiet (fail)
          go_wp2
          exact ⟨⟨k + 1, by omega, by go_num, Lib.hid (below_draws HB6.out _)⟩, by simp [RowKit.intOf]; omega⟩
        · obtain rfl : k = nx := by omega
          have HB := HB
          go_wp2_with fail
          refine (CT.out _ HB.out).mono ?_
          rintro e w7 ⟨v7, rfl, r7, b7⟩
          obtain ⟨A7, c7, ev7⟩ := r7.slice
          rw [HFN.out] at ev7
          subst ev7
          have HB7 := Lib.hid (HB.out.trans (b7.mono HB.out.size))
          clear r7 b7
          go_wp2_with fail
          refine (CST.out _ HB7.out).mono ?_
          rintro e w8 ⟨v8, rfl, r8, b8⟩
          obtain ⟨A8, c8, ev8⟩ := r8.slice
          rw [HGN.out] at ev8
          subst ev8
          have HB8 := Lib.hid (B2.out.trans ((HB7.out.trans (b8.mono HB7.out.size)).mono B2.out.size))
          clear r8 b8
          by_cases hf : fE = 0
          · subst hf
            rcases HJ.out (by first | rfl | trivial) (by first | rfl | trivial) with rfl | ⟨rfl, hle⟩
            · go_wp2
              go_ret
              exact ⟨rfl, HB8.out⟩
            · have k1 : (gn : Int) ≤ (na : Int) + (fn : Int) := by omega
              have k2 : decide ((gn : Int) ≤ (na : Int) + (fn : Int)) = true := decide_eq_true k1
              have wk : IntKind.i64.wrap ((na : Int) + (fn : Int)) = (na : Int) + (fn : Int) := z_wrap_nn na fn hna6 (HFN6.out rfl)
              clear hle
              go_wp2
              go_ret
              exact ⟨rfl, HB8.out⟩
          · have f1 : (fE == 0) = false := by simpa using hf
            have f2 : (fE != 0) = true := by simpa using hf
            clear hf
            go_wp2
            go_ret
            exact ⟨rfl, HB8.out⟩
end Go.Proofs.YtljaibhhkjapmaaDoor
