/- The law BlockLone, walked. -/
import Derived.Test.YtlicchblafodaaaDoorBMay
import Derived.Test.YtlicchblafodaaaDoorBLoneP
namespace Go.Proofs.YtlicchblafodaaaDoor
open Go.RowKit Go.Shelf

/-- A text between two signs. -/
theorem lone_tok (L : List UInt8) (h : Lib.validD L = true) (hl : (items L).length ≤ 3) : tokErr ([60] ++ L ++ [62]) = 0 ∧ tokRunes ([60] ++ L ++ [62]) = 60 :: (items L ++ [62]) := by
  have e1 : items [60] = [60] := by decide +kernel
  have e2 : items [62] = [62] := by decide +kernel
  have v1 : Lib.validD [60] = true := by decide +kernel
  have v2 : Lib.validD [62] = true := by decide +kernel
  obtain ⟨i1, j1⟩ := items_join [60] L v1
  obtain ⟨i2, j2⟩ := items_join ([60] ++ L) [62] (by rw [j1]; exact h)
  rw [i1, e1, e2] at i2
  rw [v2] at j2
  have e3 : tokErr ([60] ++ L ++ [62]) = 0 := by
    unfold tokErr
    rw [j2, i2]
    simp
    omega
  exact ⟨e3, by rw [tokRunes, if_pos e3, i2]; rfl⟩
def smA (X : List Blk) (k : Nat) : Nat := ((X.take k).map (fun b => (items b.1.data.toList).length)).sum
def smB (X : List Blk) (k : Nat) : Nat := ((X.take k).map (fun b => (items b.2.1.data.toList).length)).sum
theorem lone_elem {l : List St} (hl : l.length ≤ 1000) (k : Nat) (hk : k < (ofS l).length) : ∃ (a b : ByteArray) (p q : Nat), (ofS l)[k]? = some (a, b, 1) ∧ (decRunes a.data.toList).length = p ∧ (decRunes b.data.toList).length = q ∧
    decErr a.data.toList = 0 ∧ decErr b.data.toList = 0 ∧ a.size ≤ 4000 ∧ b.size ≤ 4000 ∧ p ≤ 4000 ∧ q ≤ 4000 ∧ smA (ofS l) (k + 1) = smA (ofS l) k + p ∧ smB (ofS l) (k + 1) = smB (ofS l) k + q := by
  obtain ⟨a, b, p, q, hx, _, hp, hq, da, db, za, zb, _⟩ := may_elem hl k hk
  have va : decRunes a.data.toList = items a.data.toList := by
    unfold decRunes; unfold decErr at da; split at da <;> simp_all
  have vb : decRunes b.data.toList = items b.data.toList := by
    unfold decRunes; unfold decErr at db; split at db <;> simp_all
  have la := items_le a.data.toList
  have lb := items_le b.data.toList
  rw [← Lib.size_eq] at la lb
  rw [va] at hp
  rw [vb] at hq
  refine ⟨a, b, p, q, hx, by rw [va]; exact hp, by rw [vb]; exact hq, da, db, za, zb, by omega, by omega, ?_, ?_⟩
  · unfold smA; rw [List.take_add_one, hx, ← hp]; simp
  · unfold smB; rw [List.take_add_one, hx, ← hq]; simp
theorem smA_all (X : List Blk) : smA X X.length = (X.map (fun b => (items b.1.data.toList).length)).sum := by unfold smA; rw [List.take_length]
theorem smB_all (X : List Blk) : smB X X.length = (X.map (fun b => (items b.2.1.data.toList).length)).sum := by unfold smB; rw [List.take_length]
theorem smA_mono (X : List Blk) (k : Nat) : smA X k ≤ smA X X.length := by
  rw [smA_all]; unfold smA
  have := congrArg (fun z => (z.map (fun b : Blk => (items b.1.data.toList).length)).sum) (List.take_append_drop k X)
  simp only [List.map_append, List.sum_append] at this
  omega
theorem smB_mono (X : List Blk) (k : Nat) : smB X k ≤ smB X X.length := by
  rw [smB_all]; unfold smB
  have := congrArg (fun z => (z.map (fun b : Blk => (items b.2.1.data.toList).length)).sum) (List.take_append_drop k X)
  simp only [List.map_append, List.sum_append] at this
  omega

set_option maxRecDepth 100000 in
set_option maxHeartbeats 8000000 in
theorem blockLone_yes (s t : ByteArray) (w : World) (h : Okw w) (hs : s.size ≤ 1048576) (ht : t.size ≤ 1048576) (vs : Lib.validD s.data.toList = true) (vt : Lib.validD t.data.toList = true) (ls : (items s.data.toList).length ≤ 3) (lt : (items t.data.toList).length ≤ 3) (hne : s ≠ t) :
    Calls Tryd.prog 9 #[.string s, .string t] w (RetTrue w) := by
  have ha := alive5_any
  unfold Alive5 at ha
  have c0 := decAt_yes s (by omega) vs
  have c1 := decAt_yes t (by omega) vt
  have z60 : (⟨#[60]⟩ : ByteArray).size = 1 := rfl
  have z62 : (⟨#[62]⟩ : ByteArray).size = 1 := rfl
  have cp := pair_at ((⟨#[60]⟩ : ByteArray) ++ s ++ (⟨#[62]⟩ : ByteArray)) ((⟨#[60]⟩ : ByteArray) ++ t ++ (⟨#[62]⟩ : ByteArray)) (by rw [app_size, app_size, z60, z62]; omega) (by rw [app_size, app_size, z60, z62]; omega)
  unfold PairAt at cp
  unfold DecAt at c0 c1
  simp only [app_toList] at cp
  obtain ⟨k1, k2⟩ := lone_tok _ vs ls
  obtain ⟨k3, k4⟩ := lone_tok _ vt lt
  have k5 := tokErr2_of k1 k3
  have hxy : items s.data.toList ≠ items t.data.toList := by
    intro e
    refine hne ?_
    have e1 := enc_items _ vs
    have e2 := enc_items _ vt
    rw [e] at e1
    have e3 : s.data.toList = t.data.toList := e1.symm.trans e2
    cases s; cases t; congr 1; exact Array.toList_inj.1 e3
  have hf := lone_facts _ _ _ _ k5 k2 k4 ls lt hxy
  obtain ⟨_, _, _, _, _, f6, _⟩ := steps_facts _ _ k5
  rw [k5] at cp
  clear k1 k2 k3 k4 k5 vs vt
  obtain ⟨l, hl⟩ : ∃ l, stepsS ([60] ++ s.data.toList ++ [62]) ([60] ++ t.data.toList ++ [62]) = l := ⟨_, rfl⟩
  change ∀ w, Okw w → Calls Tryd.prog 16 _ w fun e w' => ∃ v, e = .returned (.tuple #[v, .int .i64 0]) ∧ BRuns w' v (ofS (stepsS ([60] ++ s.data.toList ++ [62]) ([60] ++ t.data.toList ++ [62]))) ∧ Below w.heap.size w w' at cp
  rw [hl] at cp hf f6
  clear hl
  have el := fun k hk => lone_elem (l := l) (by omega) k hk
  obtain ⟨hf0, hfA, hfB⟩ := hf
  rw [← smA_all] at hfA
  rw [← smB_all] at hfB
  have cm : (ofS l).length ≤ 128 := by have := ofS_count l; have := stC_len l; omega
  have mA := smA_mono (ofS l)
  have mB := smB_mono (ofS l)
  have hA0 : smA (ofS l) 0 = 0 := by simp [smA]
  have hB0 : smB (ofS l) 0 = 0 := by simp [smB]
  obtain ⟨X, hX⟩ : ∃ C, ofS l = C := ⟨_, rfl⟩
  obtain ⟨m, hm⟩ : ∃ C, X.length = C := ⟨_, rfl⟩
  obtain ⟨nx, hnx⟩ : ∃ C, (items s.data.toList).length = C := ⟨_, rfl⟩
  obtain ⟨ny, hny⟩ : ∃ C, (items t.data.toList).length = C := ⟨_, rfl⟩
  simp only [hX, hm, hnx, hny] at cp c0 c1 el hf0 hfA hfB mA mB hA0 hB0 ls lt cm
  clear hX f6 hnx hny hxy
  obtain ⟨fa, hfa⟩ : ∃ f, smA X = f := ⟨_, rfl⟩
  obtain ⟨fb, hfb⟩ : ∃ f, smB X = f := ⟨_, rfl⟩
  simp only [hfa, hfb] at el hfA hfB mA mB hA0 hB0
  clear hfa hfb
  have e1 : (s.toList == t.toList) = false := beq_eq_false_iff_ne.2 (fun e => hne (toList_ext e))
  have EL := Lib.hid el; have MA := Lib.hid mA; have MB := Lib.hid mB
  have HA := Lib.hid ha; have C0 := Lib.hid c0; have C1 := Lib.hid c1; have CP := Lib.hid cp
  have CD := Lib.hid decode_runs
  clear ha c0 c1 cp el mA mB
  have i1 : ¬ (3 : Int) < (nx : Int) := by omega
  have i2 : ¬ (3 : Int) < (ny : Int) := by omega
  have i3 : ((m : Int) == 0) = false := by simp; omega
  go_enter Tryd.func9, Tryd.ntmps9
  go_wp2_with fail
  refine (HA.out _ h).mono ?_
  rintro e w1 ⟨rfl, b1⟩
  have K1 : Hid (Okw w1) := Lib.hid (h.below b1)
  have B1 := Lib.hid b1; clear b1
  go_wp2_with fail
  refine (C0.out _ K1.out).mono ?_
  rintro e w2 ⟨A2, k2, rfl, r2, b2⟩
  have K2 : Hid (Okw w2) := Lib.hid (K1.out.below b2)
  have B2 := Lib.hid (B1.out.trans (b2.mono B1.out.size)); clear b2 r2
  go_wp2_with fail
  refine (C1.out _ K2.out).mono ?_
  rintro e w3 ⟨A3, k3, rfl, r3, b3⟩
  have K3 : Hid (Okw w3) := Lib.hid (K2.out.below b3)
  have B3 := Lib.hid (B2.out.trans (b3.mono B2.out.size)); clear b3 r3
  go_wp2_with fail
  refine (CP.out _ K3.out).mono ?_
  rintro e w4 ⟨va, rfl, r4, b4⟩
  have R4 := Lib.hid r4
  obtain ⟨Aa, ka, rfl⟩ := r4.slice
  clear r4
  rw [hm] at R4
  simp only [hm]
  have K4 : Hid (Okw w4) := Lib.hid (K3.out.below b4)
  have B4 := Lib.hid (B3.out.trans (b4.mono B3.out.size)); clear b4
  go_wp2
  go_loopw [11, 12, 71] (fun s11 s12 s71 wr => ∃ k : Nat, k ≤ m ∧ s71 = .int .i64 k ∧ s11 = .int .i64 (fa k : Nat) ∧ s12 = .int .i64 (fb k : Nat) ∧ Hid (Below w4.heap.size w4 wr)) (fun _ _ s71 _ => m - (RowKit.intOf s71).toNat)
  case atStart => exact ⟨0, Nat.zero_le _, rfl, by rw [hA0]; rfl, by rw [hB0]; rfl, Lib.hid (Below.refl _ _)⟩
  case round =>
    obtain ⟨k, hkm, rfl, rfl, rfl, BW⟩ := hrel
    have ska := MA.out k
    have skb := MB.out k
    by_cases hk : k < m
    · have k1 : (k : Int) < (m : Int) := by omega
      obtain ⟨a, b, p, q, hx, hp, hq, da, db, za, zb, lp, lq, ea, eb⟩ := EL.out k hk
      obtain ⟨bb, oo, rfl, hbl, hcs⟩ := (R4.out.below BW.out).cells hm (by omega)
      obtain ⟨g0, g1, g2⟩ := blk_cells hcs hx
      simp only at g0 g1 g2
      have hal : Hid (Below wr.heap.size wr (wr.alloc (.cells #[.string a, .string b, .int .i64 1] 35))) := Lib.hid ((Below.refl _ _).alloc (Nat.le_refl _) _)
      have KW : Hid (Okw wr) := Lib.hid (K4.out.below BW.out)
      clear hcs hx
      obtain ⟨wa, hwa⟩ : ∃ z, wr.alloc (.cells #[.string a, .string b, .int .i64 1] 35) = z := ⟨_, rfl⟩
      have e0 : wa.heap[wr.heap.size]? = some (.cells #[.string a, .string b, .int .i64 1] 35 (0, 0)) := by rw [← hwa]; exact heap_alloc_new wr _
      rw [hwa] at hal
      have HWA := Lib.hid hwa; clear hwa
      have KA : Hid (Okw wa) := Lib.hid (KW.out.below hal.out)
      have E0 := Lib.hid e0; clear e0
      have cell : Hid (∀ w' : World, Below wa.heap.size wa w' → w'.cell? ⟨wr.heap.size, 0, none⟩ = some (.string a) ∧ w'.cell? ⟨wr.heap.size, 1, none⟩ = some (.string b)) := Lib.hid (fun w' hb => by
        have e1 := (hb.block wr.heap.size (Array.getElem?_eq_some_iff.1 E0.out).1).trans E0.out
        exact ⟨by simp [World.cell?, e1], by simp [World.cell?, e1]⟩)
      have EA := Lib.hid ea; have EB := Lib.hid eb
      have sa1 := MA.out (k + 1)
      have sb1 := MB.out (k + 1)
      clear ea eb
      go_wp2_with fail
      rw [HWA.out]
      clear HWA
      have cd := CD.out a wa (by omega) KA.out.1 KA.out.2
      rw [da, hp] at cd
      refine cd.mono ?_
      clear cd
      rintro e w6 ⟨A6, k6, rfl, r6, b6⟩
      have B6 := Lib.hid b6; clear b6 r6
      obtain ⟨q0, q1⟩ := cell.out w6 B6.out
      go_wp2_with fail
      have cd := CD.out b w6 (by omega) (KA.out.below B6.out).1 (KA.out.below B6.out).2
      rw [db, hq] at cd
      refine cd.mono ?_
      clear cd
      rintro e w7 ⟨A7, k7, rfl, r7, b7⟩
      have B7 := Lib.hid (B6.out.trans (b7.mono B6.out.size)); clear b7 r7 q0 q1
      have BW7 : Hid (Below w4.heap.size w4 w7) := Lib.hid (BW.out.trans ((hal.out.trans (B7.out.mono hal.out.size)).mono BW.out.size))
      go_wp2
      have e8 : (fa k : Int) + (p : Int) = ((fa (k + 1) : Nat) : Int) := by rw [EA.out]; simp
      have e9 : (fb k : Int) + (q : Int) = ((fb (k + 1) : Nat) : Int) := by rw [EB.out]; simp
      exact ⟨⟨k + 1, by omega, by go_num, by rw [e8], by rw [e9], BW7⟩, by simp [RowKit.intOf]; omega⟩
    · obtain rfl : k = m := by omega
      clear EL MA MB
      have BT : Hid (Below w.heap.size w wr) := Lib.hid (B4.out.trans (BW.out.mono B4.out.size))
      have j1 : (fa k : Int) ≤ (nx : Int) := by omega
      have j2 : (fb k : Int) ≤ (ny : Int) := by omega
      go_wp2
      go_ret
      exact ⟨rfl, BT.out⟩
set_option maxRecDepth 100000 in
set_option maxHeartbeats 8000000 in
theorem blockLone_no (s t : ByteArray) (w : World) (h : Okw w) (hs : s.size ≤ 1048576) (ht : t.size ≤ 1048576) (nx ny : Nat) (es et : Int) (d1 : (decRunes s.data.toList).length = nx) (d2 : (decRunes t.data.toList).length = ny) (d3 : decErr s.data.toList = es) (d4 : decErr t.data.toList = et)
    (hcs : (es != 0) = true ∨ (es = 0 ∧ (et != 0) = true) ∨ (es = 0 ∧ et = 0 ∧ 3 < nx) ∨ (es = 0 ∧ et = 0 ∧ ¬ 3 < nx ∧ 3 < ny) ∨ (es = 0 ∧ et = 0 ∧ ¬ 3 < nx ∧ ¬ 3 < ny ∧ s = t)) :
    Calls Tryd.prog 9 #[.string s, .string t] w (RetTrue w) := by
  have ha := alive5_any
  unfold Alive5 at ha
  have c0 := decAt s (by omega)
  have c1 := decAt t (by omega)
  unfold DecAt at c0 c1
  simp only [d1, d3] at c0
  simp only [d2, d4] at c1
  clear d1 d2 d3 d4
  have HA := Lib.hid ha; have C0 := Lib.hid c0; have C1 := Lib.hid c1
  clear ha c0 c1
  rcases hcs with h1 | ⟨rfl, h2⟩ | ⟨rfl, rfl, h3⟩ | ⟨rfl, rfl, h3, h4⟩ | ⟨rfl, rfl, h3, h4, h5⟩
  all_goals
    try have i1 : (3 : Int) < (nx : Int) := by omega
    try have i1 : ¬ (3 : Int) < (nx : Int) := by omega
    try have i2 : (3 : Int) < (ny : Int) := by omega
    try have i2 : ¬ (3 : Int) < (ny : Int) := by omega
    try subst h5
    go_enter Tryd.func9, Tryd.ntmps9
    go_wp2_with fail
    refine (HA.out _ h).mono ?_
    rintro e w1 ⟨rfl, b1⟩
    have K1 : Hid (Okw w1) := Lib.hid (h.below b1)
    have B1 := Lib.hid b1; clear b1
    go_wp2_with fail
    refine (C0.out _ K1.out).mono ?_
    rintro e w2 ⟨A2, k2, rfl, r2, b2⟩
    have K2 : Hid (Okw w2) := Lib.hid (K1.out.below b2)
    have B2 := Lib.hid (B1.out.trans (b2.mono B1.out.size)); clear b2 r2
    go_wp2_with fail
    refine (C1.out _ K2.out).mono ?_
    rintro e w3 ⟨A3, k3, rfl, r3, b3⟩
    have B3 := Lib.hid (B2.out.trans (b3.mono B2.out.size)); clear b3 r3
    go_wp2
    go_ret
    exact ⟨rfl, B3.out⟩
theorem blockLone_walk (s t : ByteArray) (w : World) (h : Okw w) (hs : s.size ≤ 1048576) (ht : t.size ≤ 1048576) : Calls Tryd.prog 9 #[.string s, .string t] w (RetTrue w) := by
  cases vs : Lib.validD s.data.toList with
  | false => exact blockLone_no s t w h hs ht _ _ _ _ rfl rfl rfl rfl (.inl (by rw [decErr, vs]; rfl))
  | true =>
    have ds := dec_valid vs
    cases vt : Lib.validD t.data.toList with
    | false => exact blockLone_no s t w h hs ht _ _ _ _ rfl rfl rfl rfl (.inr (.inl ⟨ds.2, by rw [decErr, vt]; rfl⟩))
    | true =>
      have dt := dec_valid vt
      by_cases l1 : 3 < (items s.data.toList).length
      · exact blockLone_no s t w h hs ht _ _ _ _ rfl rfl rfl rfl (.inr (.inr (.inl ⟨ds.2, dt.2, by rw [ds.1]; exact l1⟩)))
      · by_cases l2 : 3 < (items t.data.toList).length
        · exact blockLone_no s t w h hs ht _ _ _ _ rfl rfl rfl rfl (.inr (.inr (.inr (.inl ⟨ds.2, dt.2, by rw [ds.1]; exact l1, by rw [dt.1]; exact l2⟩))))
        · by_cases l3 : s = t
          · exact blockLone_no s t w h hs ht _ _ _ _ rfl rfl rfl rfl (.inr (.inr (.inr (.inr ⟨ds.2, dt.2, by rw [ds.1]; exact l1, by rw [dt.1]; exact l2, l3⟩))))
          · exact blockLone_yes s t w h hs ht vs vt (by omega) (by omega) l3
end Go.Proofs.YtlicchblafodaaaDoor
