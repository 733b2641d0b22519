/- The law BlockMay, walked. -/
import Derived.Test.YtlicchblafodaaaDoorPk11
import Derived.Test.YtlicchblafodaaaDoorPk7
namespace Go.Proofs.YtlicchblafodaaaDoor
open Go.RowKit Go.Shelf

/-- The runes of the first blocks. -/
def smM (X : List Blk) (k : Nat) : Nat := ((X.take k).map (fun b => max (items b.1.data.toList).length (items b.2.1.data.toList).length)).sum
theorem dec_valid {l : List UInt8} (h : Lib.validD l = true) : decRunes l = items l ∧ decErr l = 0 := by
  unfold decRunes decErr; rw [h]; exact ⟨rfl, rfl⟩
theorem may_elem {l : List St} (hl : l.length ≤ 1000) (k : Nat) (hk : k < (ofS l).length) : ∃ (a b : ByteArray) (p q : Nat), (ofS l)[k]? = some (a, b, 1) ∧ chkS (a, b, 1) = 0 ∧ (decRunes a.data.toList).length = p ∧ (decRunes b.data.toList).length = q ∧
    decErr a.data.toList = 0 ∧ decErr b.data.toList = 0 ∧ a.size ≤ 4000 ∧ b.size ≤ 4000 ∧ smM (ofS l) (k + 1) = smM (ofS l) k + max p q := by
  obtain ⟨⟨a, b, c⟩, hx⟩ : ∃ x, (ofS l)[k]? = some x := ⟨_, List.getElem?_eq_getElem hk⟩
  obtain ⟨h1, h2, r, hr, h3, h4, h5, v1, v2⟩ := ofS_may (a, b, c) (List.mem_of_getElem? hx)
  simp only at h2 h4 h5 v1 v2
  subst h2
  obtain ⟨_, _, P, Q, hPQ⟩ := rowsP_each l r hr
  have hrl : r.length ≤ 1000 := by
    have := congrArg List.length hPQ
    simp at this; omega
  obtain ⟨s1, s2⟩ := read_size r
  have ea : a = mkB (readA r) := congrArg Prod.fst h3
  have eb : b = mkB (readB r) := congrArg (fun z => z.2.1) h3
  refine ⟨a, b, (items a.data.toList).length, (items b.data.toList).length, hx, h1, by rw [(dec_valid v1).1], by rw [(dec_valid v2).1], (dec_valid v1).2, (dec_valid v2).2, ?_, ?_, ?_⟩
  · rw [ea, Lib.size_eq, mkB_data]; omega
  · rw [eb, Lib.size_eq, mkB_data]; omega
  · unfold smM
    rw [List.take_add_one, hx]
    simp
theorem smM_le (l : List St) (k : Nat) : smM (ofS l) k ≤ stC l := by
  refine Nat.le_trans ?_ (ofS_runes l)
  unfold smM
  have e : (ofS l) = (ofS l).take k ++ (ofS l).drop k := (List.take_append_drop _ _).symm
  have := congrArg (fun z => (z.map (fun b : Blk => max (items b.1.data.toList).length (items b.2.1.data.toList).length)).sum) e
  simp only [List.map_append, List.sum_append] at this
  omega
set_option maxRecDepth 100000 in
set_option maxHeartbeats 8000000 in
theorem blockMay_no (s t : ByteArray) (w : World) (h : Okw w) (hs : s.size ≤ 1048576) (ht : t.size ≤ 1048576) (h2 : tokErr2 s.data.toList t.data.toList ≠ 0) :
    Calls Tryd.prog 6 #[.string s, .string t] w (RetTrue w) := by
  have ha := alive5_any
  unfold Alive5 at ha
  have c1 := pair_at s t (by omega) (by omega)
  have c2 := steps_any s t (by omega) (by omega)
  unfold PairAt at c1
  unfold StepsAt at c2
  have e3 : ofS (stepsS s.data.toList t.data.toList) = [] := by rw [stepsS, if_neg h2]; simp [ofS, rowsP_nil]
  rw [e3] at c1
  clear e3
  obtain ⟨er, he⟩ : ∃ er, tokErr2 s.data.toList t.data.toList = er := ⟨_, rfl⟩
  rw [he] at h2 c1 c2
  clear he
  have hz : (er == 0) = false := by simpa using h2
  have HA := Lib.hid ha; have C1 := Lib.hid c1; have C2 := Lib.hid c2
  clear ha c1 c2
  go_enter Tryd.func6, Tryd.ntmps6
  go_wp2_with fail
  refine (HA.out _ h).mono ?_
  rintro e w1 ⟨rfl, b1⟩
  have K1 : Hid (Okw w1) := Lib.hid (h.below b1)
  have B1 := Lib.hid b1; clear b1
  go_wp2_with fail
  refine (C1.out _ K1.out).mono ?_
  rintro e w2 ⟨va, rfl, r2, b2⟩
  obtain ⟨Aa, ka, rfl⟩ := r2.slice
  have K2 : Hid (Okw w2) := Lib.hid (K1.out.below b2)
  have B2 := Lib.hid (B1.out.trans (b2.mono B1.out.size)); clear b2
  go_wp2_with fail
  refine (C2.out _ K2.out).mono ?_
  rintro e w3 ⟨vb, rfl, r3, b3⟩
  obtain ⟨Ab, kb, rfl, _⟩ := r3
  have B3 := Lib.hid (B2.out.trans (b3.mono B2.out.size)); clear b3
  simp only
  go_wp2
  go_ret
  exact ⟨rfl, B3.out⟩

set_option maxRecDepth 100000 in
set_option maxHeartbeats 8000000 in
theorem blockMay_yes (s t : ByteArray) (w : World) (h : Okw w) (hs : s.size ≤ 1048576) (ht : t.size ≤ 1048576) (h2 : tokErr2 s.data.toList t.data.toList = 0) :
    Calls Tryd.prog 6 #[.string s, .string t] w (RetTrue w) := by
  have ha := alive5_any
  unfold Alive5 at ha
  have c1 := pair_at s t (by omega) (by omega)
  have c2 := steps_any s t (by omega) (by omega)
  unfold PairAt at c1
  unfold StepsAt at c2
  obtain ⟨hg, hz, hsame⟩ := pair_facts s.data.toList t.data.toList h2
  obtain ⟨_, _, f3, _, f5, f6, _⟩ := steps_facts s.data.toList t.data.toList h2
  rw [h2] at c1 c2
  clear h2
  obtain ⟨l, hl⟩ : ∃ l, stepsS s.data.toList t.data.toList = l := ⟨_, rfl⟩
  rw [hl] at c1 c2 hg hz hsame f3 f5 f6
  clear hl
  have c3 := long_at l (by omega) f5
  have c4 : CostAt l := fun w u _ hu => cost_any u l w hu
  unfold LongAt at c3
  unfold CostAt at c4
  rw [f3] at c3
  have el := fun k hk => may_elem (l := l) (by omega) k hk
  have sl := smM_le l
  have cl := stC_len l
  have cn := ofS_count l
  have hM0 : smM (ofS l) 0 = 0 := by simp [smM]
  obtain ⟨C, hC⟩ : ∃ C, stC l = C := ⟨_, rfl⟩
  obtain ⟨Lg, hLg⟩ : ∃ C, longS l = C := ⟨_, rfl⟩
  obtain ⟨X, hX⟩ : ∃ C, ofS l = C := ⟨_, rfl⟩
  obtain ⟨m, hm⟩ : ∃ C, X.length = C := ⟨_, rfl⟩
  have hsm : s = t → m = 0 := fun e => by rw [← hm, ← hX, hsame (by rw [e])]; rfl
  simp only [hC, hLg, hX, hm] at c1 c2 c3 c4 hz el sl cl cn hM0
  clear hC hLg hX hg hsame f3 f5
  have hlast : Hid (smM X m ≤ C) := Lib.hid (sl m)
  obtain ⟨sm, hsmd⟩ : ∃ f, smM X = f := ⟨_, rfl⟩
  rw [hsmd] at el sl hM0 hlast
  clear hsmd
  have EL := Lib.hid el; have SL := Lib.hid sl
  have HA := Lib.hid ha; have C1 := Lib.hid c1; have C2 := Lib.hid c2; have C3 := Lib.hid c3; have C4 := Lib.hid c4
  have CC := Lib.hid chk_any
  have CD := Lib.hid decode_runs
  clear ha c1 c2 c3 c4 el sl
  go_enter Tryd.func6, Tryd.ntmps6
  go_wp2_with fail
  refine (HA.out _ h).mono ?_
  rintro e w1 ⟨rfl, b1⟩
  have K1 : Hid (Okw w1) := Lib.hid (h.below b1)
  have B1 := Lib.hid b1; clear b1
  go_wp2_with fail
  refine (C1.out _ K1.out).mono ?_
  rintro e w2 ⟨va, rfl, r2, b2⟩
  have R2 := Lib.hid r2
  obtain ⟨Aa, ka, rfl⟩ := r2.slice
  clear r2
  rw [hm] at R2
  simp only [hm]
  have K2 : Hid (Okw w2) := Lib.hid (K1.out.below b2)
  have B2 := Lib.hid (B1.out.trans (b2.mono B1.out.size)); clear b2
  go_wp2_with fail
  refine (C2.out _ K2.out).mono ?_
  rintro e w3 ⟨vb, rfl, r3, b3⟩
  have R3 := Lib.hid r3
  obtain ⟨Ab, kb, rfl, _⟩ := r3
  obtain ⟨nl, hnl⟩ : ∃ n, l.length = n := ⟨_, rfl⟩
  rw [hnl] at R3 f6 cl
  simp only [hnl]
  have R2' := Lib.hid (R2.out.below b3)
  clear R2
  have K3 : Hid (Okw w3) := Lib.hid (K2.out.below b3)
  have B3 := Lib.hid (B2.out.trans (b3.mono B2.out.size)); clear b3
  go_wp2
  go_loopw [9, 42] (fun s9 s42 wr => ∃ k : Nat, k ≤ m ∧ s42 = .int .i64 k ∧ s9 = .int .i64 (sm k : Nat) ∧ Hid (Below w3.heap.size w3 wr)) (fun _ s42 _ => m - (RowKit.intOf s42).toNat)
  case atStart => exact ⟨0, Nat.zero_le _, rfl, by rw [hM0]; rfl, Lib.hid (Below.refl _ _)⟩
  case round =>
    obtain ⟨k, hkm, rfl, rfl, BW⟩ := hrel
    have sk := SL.out k
    by_cases hk : k < m
    · have k1 : (k : Int) < (m : Int) := by omega
      obtain ⟨a, b, p, q, hx, hch, hp, hq, da, db, za, zb, hnx⟩ := EL.out k hk
      obtain ⟨bb, oo, rfl, hbl, hcs⟩ := (R2'.out.below BW.out).cells hm (by omega)
      obtain ⟨g0, g1, g2⟩ := blk_cells hcs hx
      simp only at g0 g1 g2
      have hal : Hid (Below wr.heap.size wr (wr.alloc (.cells #[.string a, .string b, .int .i64 1] 35))) := Lib.hid ((Below.refl _ _).alloc (Nat.le_refl _) _)
      have KW : Hid (Okw wr) := Lib.hid (K3.out.below BW.out)
      clear hcs hx
      obtain ⟨wa, hwa⟩ : ∃ z, wr.alloc (.cells #[.string a, .string b, .int .i64 1] 35) = z := ⟨_, rfl⟩
      have e0 : wa.heap[wr.heap.size]? = some (.cells #[.string a, .string b, .int .i64 1] 35 (0, 0)) := by rw [← hwa]; exact heap_alloc_new wr _
      rw [hwa] at hal
      have HWA := Lib.hid hwa; clear hwa
      have KA : Hid (Okw wa) := Lib.hid (KW.out.below hal.out)
      have E0 := Lib.hid e0; clear e0
      have cell : Hid (∀ w' : World, Below wa.heap.size wa w' → w'.cell? ⟨wr.heap.size, 0, none⟩ = some (.string a) ∧ w'.cell? ⟨wr.heap.size, 1, none⟩ = some (.string b) ∧ w'.cell? ⟨wr.heap.size, 2, none⟩ = some (.int .i64 1)) := Lib.hid (fun w' hb => by
        have e1 := (hb.block wr.heap.size (Array.getElem?_eq_some_iff.1 E0.out).1).trans E0.out
        exact ⟨by simp [World.cell?, e1], by simp [World.cell?, e1], by simp [World.cell?, e1]⟩)
      go_wp2_with fail
      rw [HWA.out]
      clear HWA
      have cc := CC.out a b 1 wa KA.out (by omega) (by omega)
      rw [hch] at cc
      refine cc.mono ?_
      clear cc
      rintro e w5 ⟨rfl, b5⟩
      obtain ⟨q0, q1, q2⟩ := cell.out w5 b5
      have B5 := Lib.hid b5; clear b5
      go_wp2_with fail
      have cd := CD.out a w5 (by omega) (KA.out.below B5.out).1 (KA.out.below B5.out).2
      rw [da, hp] at cd
      refine cd.mono ?_
      clear cd
      rintro e w6 ⟨A6, k6, rfl, r6, b6⟩
      have B6 := Lib.hid (B5.out.trans (b6.mono B5.out.size)); clear b6 r6 q0 q1 q2
      obtain ⟨q0, q1, q2⟩ := cell.out w6 B6.out
      go_wp2_with fail
      have cd := CD.out b w6 (by omega) (KA.out.below B6.out).1 (KA.out.below B6.out).2
      rw [db, hq] at cd
      refine cd.mono ?_
      clear cd
      rintro e w7 ⟨A7, k7, rfl, r7, b7⟩
      have B7 := Lib.hid (B6.out.trans (b7.mono B6.out.size)); clear b7 r7 q0 q1 q2
      have BW7 : Hid (Below w3.heap.size w3 w7) := Lib.hid (BW.out.trans ((hal.out.trans (B7.out.mono hal.out.size)).mono BW.out.size))
      have sk1 := SL.out (k + 1)
      have HNX := Lib.hid hnx; clear hnx
      go_wp2
      have e8 : wrap64 ((sm k : Int) + max (p : Int) (q : Int)) = ((sm (k + 1) : Nat) : Int) := by
        have := HNX.out
        unfold wrap64; omega
      exact ⟨⟨k + 1, by omega, by go_num, by rw [e8], BW7⟩, by simp [RowKit.intOf]; omega⟩
    · obtain rfl : k = m := by omega
      clear EL SL
      have k1 : ¬ (k : Int) < (k : Int) := by omega
      have hsC : (sm k : Int) ≤ (C : Int) := by have := hlast.out; omega
      have R3w := Lib.hid (R3.out.below BW.out)
      have KW : Hid (Okw wr) := Lib.hid (K3.out.below BW.out)
      have BT : Hid (Below w.heap.size w wr) := Lib.hid (B3.out.trans (BW.out.mono B3.out.size))
      clear R3 R2' hlast
      go_wp2_with fail
      refine (C3.out _ _ KW.out R3w.out).mono ?_
      rintro e w5 ⟨rfl, b5⟩
      have K5 : Hid (Okw w5) := Lib.hid (KW.out.below b5)
      have R5 := Lib.hid (R3w.out.below b5)
      have B5 := Lib.hid (BT.out.trans (b5.mono BT.out.size)); clear b5
      have q1 : (k : Int) + (Lg : Int) ≤ (C : Int) := by omega
      have hcs : ((s.toList == t.toList) = false ∧ 0 < k) ∨ ((s.toList == t.toList) = false ∧ k = 0 ∧ 0 < Lg) ∨ ((s.toList == t.toList) = false ∧ k = 0 ∧ Lg = 0 ∧ C = 0) ∨ (s = t ∧ k = 0 ∧ 0 < Lg) ∨ (s = t ∧ k = 0 ∧ Lg = 0 ∧ C = 0) := by
        by_cases e1 : s = t
        · have := hsm e1
          rcases Nat.eq_zero_or_pos Lg with h9 | h9
          · exact .inr (.inr (.inr (.inr ⟨e1, this, h9, hz this h9⟩)))
          · exact .inr (.inr (.inr (.inl ⟨e1, this, h9⟩)))
        · have e2 : (s.toList == t.toList) = false := beq_eq_false_iff_ne.2 (fun e => e1 (toList_ext e))
          rcases Nat.eq_zero_or_pos k with h8 | h8
          · rcases Nat.eq_zero_or_pos Lg with h9 | h9
            · exact .inr (.inr (.inl ⟨e2, h8, h9, hz h8 h9⟩))
            · exact .inr (.inl ⟨e2, h8, h9⟩)
          · exact .inl ⟨e2, h8⟩
      clear hsm hz
      rcases hcs with ⟨e1, h8⟩ | ⟨e1, h8, h9⟩ | ⟨e1, h8, h9, h10⟩ | ⟨e1, h8, h9⟩ | ⟨e1, h8, h9, h10⟩
      all_goals
        try subst e1
        try have i8 : (0 : Int) < (k : Int) := by omega
        try have i8 : ¬ (0 : Int) < (k : Int) := by omega
        try have i9 : (0 : Int) < (Lg : Int) := by omega
        try have j8 : ((k : Int) == 0) = true := by simpa using h8
        go_wp2_with fail
        refine (C4.out _ _ K5.out R5.out).mono ?_
        rintro e w6 ⟨rfl, b6⟩
        have K6 : Hid (Okw w6) := Lib.hid (K5.out.below b6)
        have R6 := Lib.hid (R5.out.below b6)
        have B6 := Lib.hid (B5.out.trans (b6.mono B5.out.size)); clear b6
        go_wp2_with fail
        refine (C4.out _ _ K6.out R6.out).mono ?_
        rintro e w7 ⟨rfl, b7⟩
        have K7 : Hid (Okw w7) := Lib.hid (K6.out.below b7)
        have R7 := Lib.hid (R6.out.below b7)
        have B7 := Lib.hid (B6.out.trans (b7.mono B6.out.size)); clear b7
      · go_wp2
        go_ret
        exact ⟨rfl, B7.out⟩
      · go_wp2
        go_ret
        exact ⟨rfl, B7.out⟩
      · go_wp2_with fail
        refine (C4.out _ _ K7.out R7.out).mono ?_
        rintro e w8 ⟨rfl, b8⟩
        have B8 := Lib.hid (B7.out.trans (b8.mono B7.out.size)); clear b8
        subst h10
        go_wp2
        go_ret
        exact ⟨rfl, B8.out⟩
      · go_wp2
        go_ret
        exact ⟨rfl, B7.out⟩
      · go_wp2_with fail
        refine (C4.out _ _ K7.out R7.out).mono ?_
        rintro e w8 ⟨rfl, b8⟩
        have B8 := Lib.hid (B7.out.trans (b8.mono B7.out.size)); clear b8
        subst h10
        go_wp2
        go_ret
        exact ⟨rfl, B8.out⟩
theorem blockMay_walk (s t : ByteArray) (w : World) (h : Okw w) (hs : s.size ≤ 1048576) (ht : t.size ≤ 1048576) : Calls Tryd.prog 6 #[.string s, .string t] w (RetTrue w) := by
  by_cases h2 : tokErr2 s.data.toList t.data.toList = 0
  · exact blockMay_yes s t w h hs ht h2
  · exact blockMay_no s t w h hs ht h2
end Go.Proofs.YtlicchblafodaaaDoor
