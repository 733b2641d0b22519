/- CountLearns, walked over what block's and count's functions answer. -/
import Derived.Test.YtmfmbmlfdlebfaaDoorPk15
namespace Go.Proofs.YtmfmbmlfdlebfaaDoor
open Go.RowKit Go.Shelf
set_option linter.unusedSimpArgs false
set_option linter.unusedVariables false

theorem info_pr : (Tryd.prog.info? 38).map (fun i => (i.zero, i.size, i.bytes)) = some (some (.agg #[.string ⟨#[]⟩, .string ⟨#[]⟩]), 2, 32) := by kernel_rfl
theorem pr_ln (x : Pr) : (prCell x).length = 2 := rfl
theorem pr_one (x : Pr) : ∀ u ∈ prCell x, u.oneCell' = true := by
  intro u hu
  simp only [prCell, List.mem_cons, List.mem_nil_iff, or_false] at hu
  rcases hu with rfl | rfl <;> rfl
/-- Each pair's truth twice. -/
def twiceP (l : List Pr) : List Pr := l.map (fun p => (p.2, p.2))
theorem twiceP_take {l : List Pr} {k : Nat} {x : Pr} (h : l[k]? = some x) : twiceP (l.take (k + 1)) = twiceP (l.take k) ++ [(x.2, x.2)] := by
  rw [List.take_add_one, h]; simp [twiceP]
theorem twice_par {l : List Pr} (h : prErr l = 0) (hl : l.length ≤ 60) : parE (twiceP l) = 0 ∧ parS (twiceP l) = [] := by
  have h1 : ∀ p ∈ twiceP l, prE p = 0 ∧ prB p = [] := fun p hp => by
    obtain ⟨x, hx, rfl⟩ := List.mem_map.1 hp
    have h2 := prErr_zero.1 h x hx
    obtain ⟨_, t2⟩ := tokErr2_parts h2
    have h3 : tokErr2 x.2.data.toList x.2.data.toList = 0 := tokErr2_of t2 t2
    exact ⟨h3, (pair_facts _ _ h3).2.2 rfl⟩
  have h2 : prErr (twiceP l) = 0 := prErr_zero.2 (fun p hp => (h1 p hp).1)
  have h3 : prBlks (twiceP l) = [] := by
    unfold prBlks
    rw [List.flatMap_eq_nil_iff]
    exact fun p hp => (h1 p hp).2
  have hlen : (twiceP l).length = l.length := by simp [twiceP]
  have h4 : parE (twiceP l) = 0 := by
    rw [parE, if_neg (by omega), if_pos h2, h3]
    decide +kernel
  refine ⟨h4, ?_⟩
  rw [parS, if_pos h4, h3]; rfl
theorem par_none {l : List Pr} (h : prErr l = 0) (hl : l.length ≤ 60) : parE l = tabE (prBlks l) ∧ parS l = tabS (prBlks l) := by
  have e : parE l = tabE (prBlks l) := by rw [parE, if_neg (by omega), if_pos h]
  exact ⟨e, by rw [parS, e, tabS]⟩

set_option maxRecDepth 100000 in
set_option maxHeartbeats 16000000 in
theorem countLearns_walk (u : Value) (l : List Pr) (w : World) (h : Okw w) (hu : PRuns w u l) (hz : szP l) :
    Calls Tryd.prog 9 #[u] w (RetTrue w) := by
  have hcm : l.length ≤ maxLen := by
    obtain ⟨_, c, _, h1, h2, _⟩ := hu
    exact Nat.le_trans h1 h2.1
  have c1 := fun (hl : l.length ≤ 60) (hz : prSz l) w hO hu => pairs_any u l w hO hu (by omega) hz
  have c2 := fun (hl : l.length ≤ 60) v w hO hv => ctable_any v (prBlks l) w hO hv (by have := prBlks_len l; omega) (fun b hb => by have := prBlks_sz l b hb; omega)
  have c3 := fun (hl : l.length ≤ 60) (hz : prSz (twiceP l)) v w hO hv => pairs_any v (twiceP l) w hO hv (by simp [twiceP]; omega) hz
  have e1 : prErr l = 0 → l.length ≤ 60 → parE l = tabE (prBlks l) ∧ parS l = tabS (prBlks l) ∧ parE (twiceP l) = 0 ∧ parS (twiceP l) = [] := fun h1 h2 => ⟨(par_none h1 h2).1, (par_none h1 h2).2, (twice_par h1 h2).1, (twice_par h1 h2).2⟩
  have e2 : prErr l ≠ 0 → l.length ≤ 60 → parE l ≠ 0 := fun h1 h2 => by rw [parE, if_neg (by omega), if_neg h1]; exact h1
  obtain ⟨er, her⟩ : ∃ z, parE l = z := ⟨_, rfl⟩
  obtain ⟨X, hX⟩ : ∃ z, parS l = z := ⟨_, rfl⟩
  obtain ⟨et, het⟩ : ∃ z, tabE (prBlks l) = z := ⟨_, rfl⟩
  obtain ⟨Y, hY⟩ : ∃ z, tabS (prBlks l) = z := ⟨_, rfl⟩
  obtain ⟨e3, he3⟩ : ∃ z, parE (twiceP l) = z := ⟨_, rfl⟩
  obtain ⟨Z, hZ⟩ : ∃ z, parS (twiceP l) = z := ⟨_, rfl⟩
  simp only [her, hX, het, hY, he3, hZ] at c1 c2 c3 e1 e2
  clear her hX het hY he3 hZ
  obtain ⟨A, c, e⟩ := hu.slice
  obtain ⟨n, hn⟩ : ∃ n, l.length = n := ⟨_, rfl⟩
  rw [hn] at e hcm
  subst e
  simp only [hn] at c1 c2 c3 e1 e2
  have HU := Lib.hid hu; have C1 := Lib.hid c1; have C2 := Lib.hid c2; have C3 := Lib.hid c3; have E1 := Lib.hid e1; have E2 := Lib.hid e2; have HN := Lib.hid hn; have HZ := Lib.hid hz
  clear hu c1 c2 c3 e1 e2 hn hz
  unfold maxLen at hcm
  by_cases hbig : 60 < n
  · have hb' : (60 : Int) < (n : Int) := by omega
    go_enter Tryd.func9, Tryd.ntmps9
    go_wp2_with fail
    refine (alive6_any _ h).mono ?_
    rintro e w1 ⟨rfl, b1⟩
    have B1 := Lib.hid b1; clear b1
    go_wp2
    go_ret
    exact ⟨rfl, B1.out⟩
  have hb' : ¬ (60 : Int) < (n : Int) := by omega
  have hn60 : n ≤ 60 := by omega
  have C1' := Lib.hid (C1.out hn60); have C2' := Lib.hid (C2.out hn60); have C3' := Lib.hid (C3.out hn60); have E1' := Lib.hid (fun h => E1.out h hn60); have E2' := Lib.hid (fun h => E2.out h hn60)
  clear C1 C2 C3 E1 E2 hbig
  have CP : Hid (∀ (s t : ByteArray) (w : World), Okw w → s.size ≤ 2000000 → t.size ≤ 2000000 → Calls Tryd.prog 25 #[.string s, .string t] w fun e w' => ∃ v, e = .returned (.tuple #[v, .int .i64 (prE (s, t))]) ∧ BRuns w' v (prB (s, t)) ∧ Below w.heap.size w w') := Lib.hid (fun s t w hO h1 h2 => pair_at s t (by omega) (by omega) w hO)
  go_enter Tryd.func9, Tryd.ntmps9
  go_wp2_with fail
  refine (alive6_any _ h).mono ?_
  rintro e w1 ⟨rfl, b1⟩
  have U1 := Lib.hid (HU.out.below b1); have K1 : Hid (Okw w1) := Lib.hid (h.below b1)
  have B1 := Lib.hid b1; clear b1
  go_wp2
  go_loopw [3, 4, 24] (fun s3 s4 s24 wr => ∃ k : Nat, k ≤ n ∧ s24 = .int .i64 k ∧ Hid (prErr (l.take k) = 0) ∧ Hid (∀ i p, i < k → l[i]? = some p → p.1.size ≤ 300 ∧ p.2.size ≤ 300) ∧ Hid (wr.ownsRow w1.heap.size 43 3 s3 (prBlks (l.take k)).length (gCells blkCell (prBlks (l.take k)))) ∧ Hid (wr.ownsRow w1.heap.size 38 2 s4 (twiceP (l.take k)).length (gCells prCell (twiceP (l.take k)))) ∧ Hid (Below w1.heap.size w1 wr)) (fun _ _ s24 _ => n - (RowKit.intOf s24).toNat)
  case atStart => exact ⟨0, Nat.zero_le _, rfl, Lib.hid rfl, Lib.hid (fun i p hi => by omega), Lib.hid (World.ownsRow_nil _ _ _ _), Lib.hid (World.ownsRow_nil _ _ _ _), Lib.hid (Below.refl _ _)⟩
  case round =>
    obtain ⟨k, hkn, rfl, HC, HS, HO, HT, BW⟩ := hrel
    have BE := Lib.hid (B1.out.trans (BW.out.mono B1.out.size))
    by_cases hk : k < n
    · have k1 : (k : Int) < (n : Int) := by omega
      obtain ⟨⟨p1, p2⟩, hp⟩ : ∃ p, l[k]? = some p := ⟨_, List.getElem?_eq_getElem (by rw [HN.out]; exact hk)⟩
      obtain ⟨b, o, rfl, _, hc⟩ := (U1.out.below BW.out).cells HN.out (by omega)
      obtain ⟨g0, g1⟩ := pr_cells hc hp
      have hz1 := HZ.out _ (List.mem_of_getElem? hp)
      simp only at g0 g1 hz1
      have hal : Below wr.heap.size wr (wr.alloc (.cells #[.string p1, .string p2] 38)) := (Below.refl _ _).alloc (Nat.le_refl _) _
      have hwr : IntKind.i64.wrap ((p1.size : Int) + (p2.size : Int)) = (p1.size : Int) + (p2.size : Int) := by rw [IntKind.wrap_i64]; omega
      have BA : Hid (Below w.heap.size w (wr.alloc (.cells #[.string p1, .string p2] 38))) := Lib.hid (BE.out.trans (hal.mono BE.out.size))
      by_cases h3 : 300 < p1.size + p2.size
      · have h3' : (300 : Int) < (p1.size : Int) + (p2.size : Int) := by omega
        clear hc hp hal
        go_wp2
        go_ret
        exact ⟨rfl, BA.out⟩
      · have h3' : ¬ (300 : Int) < (p1.size : Int) + (p2.size : Int) := by omega
        have hch := prErr_take k _ hp HC.out
        have hbt := prBlks_take hp
        have htt := twiceP_take hp
        have hpl := prB_len (p1, p2)
        have hbl := prBlks_len (l.take k)
        rw [List.length_take, HN.out] at hbl
        have hsz : Hid (prE (p1, p2) ≠ 0 → prSz l) := Lib.hid (fun hne i p' hp' h0 => by
          rcases Nat.lt_or_ge i k with hi | hi
          · have := HS.out i p' hi hp'; omega
          · rcases Nat.eq_or_lt_of_le hi with e | hi
            · subst e
              rw [hp] at hp'
              obtain rfl := Option.some.inj hp'
              simp only; omega
            · exfalso
              have hm : (p1, p2) ∈ l.take i := by
                refine List.mem_of_getElem? (i := k) ?_
                rw [List.getElem?_take, if_pos hi]; exact hp
              exact hne (prErr_zero.1 h0 _ hm))
        have hs2 : Hid (∀ i p, i < k + 1 → l[i]? = some p → p.1.size ≤ 300 ∧ p.2.size ≤ 300) := Lib.hid (fun i p' hi hp' => by
          rcases Nat.lt_or_ge i k with h | h
          · exact HS.out i p' h hp'
          · obtain rfl : i = k := by omega
            rw [hp] at hp'
            obtain rfl := Option.some.inj hp'
            simp only; omega)
        have hnz : Hid (prE (p1, p2) ≠ 0 → prErr l ≠ 0) := Lib.hid (fun hne => by rw [hch.2 hne]; exact hne)
        obtain ⟨er', her⟩ : ∃ z, prE (p1, p2) = z := ⟨_, rfl⟩
        obtain ⟨V, hV⟩ : ∃ z, prB (p1, p2) = z := ⟨_, rfl⟩
        obtain ⟨Q, hQ⟩ : ∃ z, prBlks (l.take k) = z := ⟨_, rfl⟩
        obtain ⟨T, hT⟩ : ∃ z, twiceP (l.take k) = z := ⟨_, rfl⟩
        have hTl : T.length ≤ k := by rw [← hT]; simp [twiceP]; omega
        rw [her] at hch hsz hnz
        rw [hV] at hbt hpl
        rw [hQ] at hbt hbl HO
        rw [hT] at htt HT
        simp only at htt
        have OA := HO.out.alloc (.cells #[.string p1, .string p2] 38)
        have TA := HT.out.alloc (.cells #[.string p1, .string p2] 38)
        have BA1 : Below w1.heap.size w1 (wr.alloc (.cells #[.string p1, .string p2] 38)) := BW.out.trans (hal.mono BW.out.size)
        have x0 := heap_alloc_new wr (.cells #[.string p1, .string p2] 38)
        have c5 := CP.out p1 p2 (wr.alloc (.cells #[.string p1, .string p2] 38)) (K1.out.below BA1) (by omega) (by omega)
        rw [her, hV] at c5
        have hg3 : ∀ g, u3.ownBlock = some g → g < wr.heap.size := own_lt' HO.out
        obtain ⟨wa, hwa⟩ : ∃ z, wr.alloc (.cells #[.string p1, .string p2] 38) = z := ⟨_, rfl⟩
        obtain ⟨bx, hbx⟩ : ∃ z, wr.heap.size = z := ⟨_, rfl⟩
        rw [hwa] at OA TA BA1 x0 c5 BA
        rw [hbx] at x0 hg3
        have CC := Lib.hid c5; have HCH := Lib.hid hch; have HBT := Lib.hid hbt; have HTT := Lib.hid htt; have OA' := Lib.hid OA; have TA' := Lib.hid TA; have BA1' := Lib.hid BA1; have HX0 := Lib.hid x0; have HWA := Lib.hid hwa; have HBX := Lib.hid hbx; have HG3 := Lib.hid hg3
        clear hc hp hal hch hbt htt c5 OA TA BA1 x0 hwa hbx hg3 her hV hQ hT
        go_wp2_with fail
        rw [HWA.out, HBX.out]
        refine CC.out.mono ?_
        rintro e w5 ⟨v, rfl, r5, b5⟩
        obtain ⟨A5, c5, e5⟩ := r5.slice
        subst e5
        have B5 : Below w1.heap.size w1 w5 := BA1'.out.trans (b5.mono BA1'.out.size)
        have O5 := own_below OA'.out b5
        have T5 := own_below TA'.out b5
        have x5 : w5.heap[bx]? = _ := (b5.block bx (Array.getElem?_eq_some_iff.1 HX0.out).1).trans HX0.out
        by_cases h0 : er' = 0
        · subst h0
          obtain ⟨v6, w6, hrun6, o6, g6, a6⟩ := append_many (P := Tryd.prog) blk_ln blk_one info_blk rfl (by decide) (by decide) Tryd.underlying22 w5 w1.heap.size _ _ _ O5 _ V r5 B5.size (by omega)
          have b6 : Below w1.heap.size w1 w6 := B5.grown g6 B5.size (fun k hk => (O5.lt k hk).1)
          have hap := own_apart T5 O5 (by decide)
          have t6 := T5.kept g6 hap
          have x6 : w6.heap[bx]? = some (.cells #[.string p1, .string p2] 38 (0, 0)) := (g6.block bx (Array.getElem?_eq_some_iff.1 x5).1 (fun e => by have := HG3.out bx e.symm; omega)).trans x5
          obtain ⟨v7, w7, hrun7, o7, g7, a7⟩ := append_one (P := Tryd.prog) pr_ln pr_one info_pr rfl (by decide) (by decide) Tryd.underlying36 w6 w1.heap.size _ _ _ t6 (p2, p2) b6.size (by omega)
          have b7 : Below w1.heap.size w1 w7 := (b6.alloc b6.size _).grown g7 (by simp; exact Nat.le_succ_of_le b6.size) (fun k hk => (t6.lt k hk).1)
          have o67 := (o6.alloc (.cells (prCell (p2, p2)).toArray 38)).kept g7 (own_apart (o6.alloc (.cells (prCell (p2, p2)).toArray 38)) (t6.alloc (.cells (prCell (p2, p2)).toArray 38)) (by decide))
          have d0 : w6.cell? ⟨bx, 0, none⟩ = some (.string p1) := by rw [cell_of_row _ _ _ _ _ _ x6]; rfl
          have d1 : w6.cell? ⟨bx, 1, none⟩ = some (.string p2) := by rw [cell_of_row _ _ _ _ _ _ x6]; rfl
          have hend : Hid (prErr (l.take (k + 1)) = 0 ∧ w7.ownsRow w1.heap.size 43 3 v6 (prBlks (l.take (k + 1))).length (gCells blkCell (prBlks (l.take (k + 1)))) ∧ w7.ownsRow w1.heap.size 38 2 v7 (twiceP (l.take (k + 1))).length (gCells prCell (twiceP (l.take (k + 1)))) ∧ Below w1.heap.size w1 w7) := Lib.hid ⟨HCH.out.1 (by first | rfl | trivial), by rw [HBT.out, List.length_append, gCells_append]; exact o67, by rw [HTT.out, List.length_append, gCells_snoc]; exact o7, b7⟩
          have H6 := Lib.hid hrun6
          have H7 : Hid ((Builtin.append_ #[36, 36] 36 #[u4, .slice (some ⟨w6.heap.size, 0, none⟩) 1 1]).run Tryd.prog (w6.alloc (.cells #[.string p2, .string p2] 38)) = .ok v7 w7) := Lib.hid hrun7
          clear hrun6 o6 g6 a6 b6 hap t6 x6 hrun7 o7 g7 a7 b7 o67 r5 b5 B5 O5 T5 x5 hbl hpl hTl
          go_wp2_with (first
            | (at_builtin; refine wpList_append_run (.tmp 53) (.tmp 54) 22 _ _ _ _ H6.out rfl rfl rfl rfl ?_)
            | (at_builtin; refine wpList_append_run (.tmp 56) (.tmp 62) 36 _ _ _ _ H7.out rfl rfl rfl rfl ?_)
            | go_in)
          exact ⟨⟨k + 1, by omega, by go_num, Lib.hid hend.out.1, hs2, Lib.hid hend.out.2.1, Lib.hid hend.out.2.2.1, Lib.hid hend.out.2.2.2⟩, by simp [RowKit.intOf]; omega⟩
        · have h0' : (er' == 0) = false := by simpa using h0
          have c7 := C1'.out (hsz.out h0) w5 (K1.out.below B5) (U1.out.below B5)
          have hne := E2'.out (hnz.out h0)
          have hne' : (er != 0) = true := by simpa using hne
          have BB := Lib.hid (B1.out.trans (B5.mono B1.out.size))
          have C7 := Lib.hid c7
          clear c7 r5 b5 B5 O5 T5 x5 hbl hpl hTl
          go_wp2_with fail
          refine C7.out.mono ?_
          rintro e w6 ⟨v6, rfl, r6, b6⟩
          obtain ⟨A6, k6, rfl⟩ := r6.slice
          have B6 := Lib.hid (BB.out.trans (b6.mono BB.out.size)); clear b6 r6
          go_wp2
          go_ret
          exact ⟨rfl, B6.out⟩
    · obtain rfl : k = n := by omega
      have h0 := HC.out; have ho := HO.out; have ht := HT.out
      rw [List.take_of_length_le (by rw [HN.out]; exact Nat.le_refl _)] at h0 ho ht
      obtain ⟨q1, q2, q3, q4⟩ := E1'.out h0
      subst q1 q2 q3 q4
      have hs1 : prSz l := fun i p hp _ => by
        have := HS.out i p (by rw [← HN.out]; exact (List.getElem?_eq_some_iff.1 hp).1) hp
        omega
      have hs2 : prSz (twiceP l) := fun i p hp _ => by
        have hm := List.mem_of_getElem? hp
        obtain ⟨x, hx, rfl⟩ := List.mem_map.1 hm
        obtain ⟨j, hj⟩ := List.getElem?_of_mem hx
        have := HS.out j x (by rw [← HN.out]; exact (List.getElem?_eq_some_iff.1 hj).1) hj
        simp only; omega
      have ra := GRuns.of_own blk_ln rfl ho
      have rs := GRuns.of_own pr_ln rfl ht
      obtain ⟨A3, k3, e3'⟩ := ra.slice
      obtain ⟨A4, k4, e4'⟩ := rs.slice
      obtain ⟨z3, hz3⟩ : ∃ z, (prBlks l).length = z := ⟨_, rfl⟩
      obtain ⟨z4, hz4⟩ : ∃ z, (twiceP l).length = z := ⟨_, rfl⟩
      rw [hz3] at e3'
      rw [hz4] at e4'
      subst e3' e4'
      have RA := Lib.hid ra; have RS := Lib.hid rs
      have C1'' := Lib.hid (C1'.out hs1); have C3'' := Lib.hid (C3'.out hs2)
      have U2 := Lib.hid (U1.out.below BW.out); have K2 : Hid (Okw wr) := Lib.hid (K1.out.below BW.out)
      clear h0 ho ht hs1 hs2 ra rs hz3 hz4 HC HO HT HS C1' C3' E1' E2'
      go_wp2_with fail
      refine (C1''.out _ K2.out U2.out).mono ?_
      rintro e w3 ⟨va, rfl, r3, b3⟩
      obtain ⟨Aa, ka, rfl⟩ := r3.slice
      have R3 := Lib.hid r3; have RA3 := Lib.hid (RA.out.below b3); have RS3 := Lib.hid (RS.out.below b3); have K3 : Hid (Okw w3) := Lib.hid (K2.out.below b3)
      have B3 := Lib.hid (BE.out.trans (b3.mono BE.out.size)); clear b3 r3
      go_wp2_with fail
      refine (C2'.out _ _ K3.out RA3.out).mono ?_
      rintro e w4 ⟨vb, rfl, r4, b4⟩
      obtain ⟨Ab, kb, rfl⟩ := r4.slice
      have R4 := Lib.hid r4; have R34 := Lib.hid (R3.out.below b4); have RS4 := Lib.hid (RS3.out.below b4); have K4 : Hid (Okw w4) := Lib.hid (K3.out.below b4)
      have B4 := Lib.hid (B3.out.trans (b4.mono B3.out.size)); clear b4 r4
      go_wp2_with fail
      refine (C3''.out _ _ K4.out RS4.out).mono ?_
      rintro e w5 ⟨vc, rfl, r5, b5⟩
      obtain ⟨Ac, kc, rfl⟩ := r5.slice
      have cs := refSame5_any _ _ X X w5 (R34.out.below b5) (R4.out.below b5)
      rw [decide_eq_true rfl] at cs
      have CS := Lib.hid cs
      have B5 := Lib.hid (B4.out.trans (b5.mono B4.out.size)); clear b5 r5 cs
      simp only [List.length_nil]
      go_wp2_with fail
      refine CS.out.mono ?_
      rintro e w6 ⟨rfl, k6, rfl⟩
      go_wp2
      go_ret
      exact ⟨rfl, below_draws B5.out _⟩
end Go.Proofs.YtmfmbmlfdlebfaaDoor
