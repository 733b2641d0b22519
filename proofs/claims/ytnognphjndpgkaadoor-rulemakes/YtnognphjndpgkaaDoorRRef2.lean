/- errataref07.Find, Make: what each answers. -/
import Derived.Test.YtnognphjndpgkaaDoorPk10
import Derived.Test.YtnognphjndpgkaaDoorPk8
import Derived.Test.YtnognphjndpgkaaDoorPk4
import Derived.Test.YtnognphjndpgkaaDoorLRefC
namespace Go.Proofs.YtnognphjndpgkaaDoor
open Go.RowKit Go.Shelf
set_option linter.unusedSimpArgs false
set_option linter.unusedVariables false

theorem lst_key {l : List Blk} {a b : Blk} (h : sameS a b) : lst l a = lst l b := by
  induction l with
  | nil => rfl
  | cons x l ih =>
    rw [lst_cons, lst_cons, ih]
    by_cases h1 : sameS x a
    · rw [if_pos h1, if_pos ⟨h1.1.trans h.1, h1.2.trans h.2⟩]
    · rw [if_neg h1, if_neg (fun e => h1 ⟨e.1.trans h.1.symm, e.2.trans h.2.symm⟩)]
set_option maxRecDepth 100000 in
set_option maxHeartbeats 4000000 in
theorem refFind7_any (u : Value) (l : List Blk) (p q : ByteArray) (w : World) (hu : BRuns w u l) (hl : l.length ≤ 1000000) (hz : ∀ b ∈ l, b.1.size ≤ 2000000 ∧ b.2.1.size ≤ 2000000) :
    Calls Tryd.prog 19 #[u, .string p, .string q] w fun e w' => e = .returned (.tuple #[.int .i64 (rfS l (p, q, 0)), .int .i64 (rfE l (p, q, 0))]) ∧ Below w.heap.size w w' := by
  have c1 := refIs_any u l w hu hl hz
  obtain ⟨A, c, e⟩ := hu.slice
  subst e
  by_cases h0 : risS l = 0
  · obtain ⟨hal, hsr, _⟩ := risS_facts h0
    have hcb := costB_of hal
    rw [rfS, rfE, if_pos h0, if_pos h0]
    rw [h0] at c1
    have hit : ∀ k x, l[k]? = some x → sameS x (p, q, 0) → lst l (p, q, 0) = x.2.2 ∧ x.2.2 ≠ 256 := fun k x hx hs => ⟨by rw [← lst_key hs]; exact lst_of_srt hsr hcb x (List.mem_of_getElem? hx), by have := (hcb x (List.mem_of_getElem? hx)).2; omega⟩
    have miss : (∀ k x, l[k]? = some x → ¬ sameS x (p, q, 0)) → lst l (p, q, 0) = 256 := fun hn => lst_none (fun b hb => by
      obtain ⟨k, hk⟩ := List.getElem?_of_mem hb
      exact hn k b hk)
    obtain ⟨n, hn⟩ : ∃ n, l.length = n := ⟨_, rfl⟩
    rw [hn] at hu c1 hl ⊢
    obtain ⟨L0, hL0⟩ : ∃ s, lst l (p, q, 0) = s := ⟨_, rfl⟩
    rw [hL0] at hit miss ⊢
    obtain ⟨s, hs⟩ : ∃ s, (if L0 = 256 then (0 : Int) else L0) = s := ⟨_, rfl⟩
    obtain ⟨er, her⟩ : ∃ s, (if L0 = 256 then (10 : Int) else 0) = s := ⟨_, rfl⟩
    rw [hs, her]
    have C1 := Lib.hid c1; have HU := Lib.hid hu; have HIT := Lib.hid hit; have MISS := Lib.hid miss; have HN := Lib.hid hn; have HS := Lib.hid hs; have HER := Lib.hid her
    clear c1 hu hs her hit miss hn hsr hz h0 hL0 hal hcb
    go_enter Tryd.func19, Tryd.ntmps19
    go_wp2_with fail
    refine C1.out.mono ?_
    rintro e w1 ⟨rfl, b1⟩
    have B1 := Lib.hid b1; clear b1
    go_wp2
    go_loopw [18] (fun s18 wr => ∃ k : Nat, k ≤ n ∧ s18 = .int .i64 k ∧ Hid (∀ j x, j < k → l[j]? = some x → ¬ sameS x (p, q, 0)) ∧ Hid (Below w.heap.size w wr)) (fun s18 _ => n - (RowKit.intOf s18).toNat)
    case atStart => exact ⟨0, Nat.zero_le _, rfl, Lib.hid (fun j x hj => by omega), B1⟩
    case round =>
      obtain ⟨k, hkn, rfl, HM, BW⟩ := hrel
      by_cases hk : k < n
      · have k1 : (k : Int) < (n : Int) := by omega
        obtain ⟨⟨p1, p2, p3⟩, hp⟩ : ∃ p, l[k]? = some p := ⟨_, List.getElem?_eq_getElem (by rw [HN.out]; exact hk)⟩
        obtain ⟨b, o, rfl, _, hc⟩ := (HU.out.below BW.out).cells HN.out (by omega)
        obtain ⟨g0, g1, g2⟩ := blk_cells hc hp
        simp only at g0 g1 g2
        have HP := Lib.hid hp
        have hal : Hid (Below w.heap.size w (wr.alloc (.cells #[.string p1, .string p2, .int .i64 p3] 24))) := Lib.hid (BW.out.alloc BW.out.size _)
        clear hc hp
        by_cases e1 : p1 = p
        · by_cases e2 : p2 = q
          · subst e1 e2
            obtain ⟨h1, h2⟩ := HIT.out k _ HP.out ⟨rfl, rfl⟩
            simp only at h1 h2
            have hr : Hid (s = p3) := Lib.hid (by rw [← HS.out, h1, if_neg h2])
            have hr2 : Hid (er = 0) := Lib.hid (by rw [← HER.out, h1, if_neg h2])
            clear h1 h2
            go_wp2
            go_ret2
            exact ⟨by rw [hr.out, hr2.out]; rfl, hal.out⟩
          · subst e1
            have e2' : (p2.toList == q.toList) = false := beq_eq_false_iff_ne.2 (fun e => e2 (toList_ext e))
            have HM1 : Hid (∀ j x, j < k + 1 → l[j]? = some x → ¬ sameS x (p1, q, 0)) := Lib.hid (fun j x hj hx => by
              rcases Nat.lt_or_ge j k with h | h
              · exact HM.out j x h hx
              · obtain rfl : j = k := by omega
                rw [HP.out] at hx
                obtain rfl := Option.some.inj hx
                exact fun e => e2 e.2)
            go_wp2
            exact ⟨⟨k + 1, by omega, by go_num, HM1, hal⟩, by simp [RowKit.intOf]; omega⟩
        · have e1' : (p1.toList == p.toList) = false := beq_eq_false_iff_ne.2 (fun e => e1 (toList_ext e))
          have HM1 : Hid (∀ j x, j < k + 1 → l[j]? = some x → ¬ sameS x (p, q, 0)) := Lib.hid (fun j x hj hx => by
            rcases Nat.lt_or_ge j k with h | h
            · exact HM.out j x h hx
            · obtain rfl : j = k := by omega
              rw [HP.out] at hx
              obtain rfl := Option.some.inj hx
              exact fun e => e1 e.1)
          go_wp2
          exact ⟨⟨k + 1, by omega, by go_num, HM1, hal⟩, by simp [RowKit.intOf]; omega⟩
      · obtain rfl : k = n := by omega
        have hm := MISS.out (fun j x hx => HM.out j x (by rw [← HN.out]; exact (List.getElem?_eq_some_iff.1 hx).1) hx)
        have hr : Hid (s = 0) := Lib.hid (by rw [← HS.out, if_pos hm])
        have hr2 : Hid (er = 10) := Lib.hid (by rw [← HER.out, if_pos hm])
        clear hm
        go_wp2
        go_ret2
        exact ⟨by rw [hr.out, hr2.out]; rfl, BW.out⟩
  · rw [rfS, rfE, if_neg h0, if_neg h0]
    obtain ⟨er, he⟩ : ∃ er, risS l = er := ⟨_, rfl⟩
    rw [he] at c1 h0 ⊢
    have hz' : (er == 0) = false := by simpa using h0
    have C1 := Lib.hid c1
    clear c1 hu he
    go_enter Tryd.func19, Tryd.ntmps19
    go_wp2_with fail
    refine C1.out.mono ?_
    rintro e w1 ⟨rfl, b1⟩
    have B1 := Lib.hid b1; clear b1
    go_wp2
    go_ret2
    exact ⟨rfl, B1.out⟩
set_option maxRecDepth 100000 in
set_option maxHeartbeats 8000000 in
theorem refMake_any (u : Value) (l : List Blk) (least : Int) (w : World) (hu : BRuns w u l) (hl : l.length ≤ 1000000) (hz : szB l) :
    Calls Tryd.prog 22 #[u, .int .i64 least] w fun e w' => ∃ v, e = .returned (.tuple #[v, .int .i64 (mkE l least)]) ∧ BRuns w' v (mkS l least) ∧ Below w.heap.size w w' := by
  have ct := refCheck6_any u l w hu hl hz
  obtain ⟨A, c, e⟩ := hu.slice
  subst e
  have hE : mkE l least = if chkT l = 0 then (if least < 1 ∨ 1073741824 < least then 2 else 0) else chkT l := rfl
  have hS : mkS l least = if mkE l least = 0 then mkR l least else [] := rfl
  have hF : chkT l = 0 → posN l ∧ l.length ≤ 4096 ∧ sumN l ≤ 1073741824 ∧ ∀ w, BRuns w (.slice A l.length c) l → Calls Tryd.prog 43 #[.slice A l.length c] w fun e w' => e = .returned (.int .i64 (sumN l)) ∧ Below w.heap.size w w' := fun h => by
    obtain ⟨h1, _, h3, h4⟩ := chkT_facts h
    exact ⟨posN_of h1, h3, h4, fun w hu => refSum_any _ l w hu hl (okN_of h1)⟩
  obtain ⟨ea, hea⟩ : ∃ z, chkT l = z := ⟨_, rfl⟩
  obtain ⟨er, her⟩ : ∃ z, mkE l least = z := ⟨_, rfl⟩
  obtain ⟨Y, hY⟩ : ∃ z, mkS l least = z := ⟨_, rfl⟩
  obtain ⟨T, hT⟩ : ∃ z, sumN l = z := ⟨_, rfl⟩
  rw [her] at hE hS ⊢
  rw [hY] at hS ⊢
  rw [hea] at hE ct hF
  simp only [hT] at hF
  obtain ⟨n, hn⟩ : ∃ n, l.length = n := ⟨_, rfl⟩
  rw [hn] at ct hl hu ⊢
  simp only [hn] at hF
  have CT := Lib.hid ct; have HN := Lib.hid hn; have HU := Lib.hid hu; have HE := Lib.hid hE; have HS := Lib.hid hS; have HF := Lib.hid hF; have HT := Lib.hid hT
  clear ct hn hu hz hE hS hF hea her hY hT
  go_enter Tryd.func22, Tryd.ntmps22
  go_wp2_with fail
  refine CT.out.mono ?_
  rintro e w1 ⟨rfl, b1⟩
  have B1 := Lib.hid b1
  clear b1 CT
  by_cases h0 : ea = 0
  · subst h0
    obtain ⟨t2, t3, t4, t5⟩ := HF.out (by first | rfl | trivial)
    have CSUM := Lib.hid t5; clear t5
    by_cases h1 : least < 1
    · have hEr : er = 2 := by rw [HE.out, if_pos (by first | rfl | trivial), if_pos (.inl h1)]
      subst hEr
      have hYs : Hid (Y = []) := Lib.hid (by rw [HS.out]; simp)
      clear t2
      go_wp2
      go_ret2
      exact ⟨_, rfl, by rw [hYs.out]; exact GRuns.nil_ _ _ _, B1.out⟩
    by_cases h2 : 1073741824 < least
    · have hEr : er = 2 := by rw [HE.out, if_pos (by first | rfl | trivial), if_pos (.inr h2)]
      subst hEr
      have hYs : Hid (Y = []) := Lib.hid (by rw [HS.out]; simp)
      clear t2
      go_wp2
      go_ret2
      exact ⟨_, rfl, by rw [hYs.out]; exact GRuns.nil_ _ _ _, B1.out⟩
    have hEr : er = 0 := by rw [HE.out, if_pos (by first | rfl | trivial), if_neg (by omega)]
    subst hEr
    have hYs : Hid (Y = mkR l least) := Lib.hid (by rw [HS.out]; simp)
    have hpos := sumN_nonneg (l := l) t2
    have eT := HT.out
    obtain ⟨t, ht⟩ : ∃ t : Nat, T = (t : Int) := ⟨T.toNat, by omega⟩
    subst ht
    have HM := Lib.hid (fun b hb => mem_sumN t2 b hb)
    have htn : (sumN l).toNat = t := by omega
    have ht1 : t ≤ 1073741824 := by omega
    have HT2 := Lib.hid t2; have HTN := Lib.hid htn; have HET := Lib.hid eT
    clear t2 t4 hpos htn HE HS HF eT
    have HG : Hid (∀ (N3 : Nat) (a b : ByteArray), ruleB l (a, b, (N3 : Int)) = (a, b, ((costN t n N3 : Nat) : Int))) := Lib.hid (fun N3 a b => by
      show (a, b, ((costK (sumN l).toNat l.length (N3 : Int).toNat : Nat) : Int)) = _
      rw [HTN.out, HN.out, Int.toNat_natCast]; rfl)
    have CO := Lib.hid refCost_ok
    go_wp2
    go_loopw [7, 25] (fun s8 s29 wr => ∃ k : Nat, k ≤ n ∧ s29 = .int .i64 k ∧ Hid (wr.ownsRow w.heap.size 24 3 s8 (mkK l least k).length (gCells blkCell (mkK l least k))) ∧ Hid (Below w.heap.size w wr)) (fun _ s29 _ => n - (RowKit.intOf s29).toNat)
    case atStart => exact ⟨0, Nat.zero_le _, rfl, Lib.hid (by rw [mkK_zero]; exact World.ownsRow_nil _ _ _ _), B1⟩
    case round =>
      obtain ⟨k, hkn, rfl, HO, BW⟩ := hrel
      by_cases hk : k < n
      · have k1 : (k : Int) < (n : Int) := by omega
        obtain ⟨⟨p1, p2, p3⟩, hp⟩ : ∃ p, l[k]? = some p := ⟨_, List.getElem?_eq_getElem (by rw [HN.out]; exact hk)⟩
        obtain ⟨b, o, rfl, _, hc⟩ := (HU.out.below BW.out).cells HN.out (by omega)
        obtain ⟨g0, g1, g2⟩ := blk_cells hc hp
        simp only at g0 g1 g2
        have hm := HM.out _ (List.mem_of_getElem? hp)
        have hps := HT2.out _ (List.mem_of_getElem? hp)
        have hnx := mkK_next least k _ hp
        simp only at hm hps hnx
        have e1 := HET.out
        obtain ⟨N3, hN3⟩ : ∃ N3 : Nat, p3 = (N3 : Int) := ⟨p3.toNat, by omega⟩
        subst hN3
        have hNt : N3 ≤ t := by omega
        rw [HG.out] at hnx
        have hln := mkK_len l least k
        obtain ⟨M, hM⟩ : ∃ z, mkK l least k = z := ⟨_, rfl⟩
        rw [hM] at hnx hln HO
        obtain ⟨m, hmm⟩ : ∃ z, M.length = z := ⟨_, rfl⟩
        rw [hmm] at hln HO
        have GR := GRuns.of_own rl_ln hmm HO.out
        obtain ⟨A3, c3, e3⟩ := GR.slice
        rw [hmm] at e3
        subst e3
        have HNX := Lib.hid hnx; have HMM := Lib.hid hmm
        have hal := blw_one wr (.cells #[.string p1, .string p2, .int .i64 (N3 : Int)] 40)
        obtain ⟨x0, x1, x2⟩ := cells3_new wr (.string p1) (.string p2) (.int .i64 (N3 : Int)) 40
        have hltb : wr.heap.size < (wr.alloc (.cells #[.string p1, .string p2, .int .i64 (N3 : Int)] 40)).heap.size := by simp
        obtain ⟨wa, hwa⟩ : ∃ z, wr.alloc (.cells #[.string p1, .string p2, .int .i64 (N3 : Int)] 40) = z := ⟨_, rfl⟩
        rw [hwa] at hal x0 x1 x2 hltb
        obtain ⟨bx, hbx⟩ : ∃ z, wr.heap.size = z := ⟨_, rfl⟩
        rw [hbx] at x0 x1 x2 hltb
        have BA : Hid (Below w.heap.size w wa) := Lib.hid (BW.out.trans (hal.mono BW.out.size))
        have OA : Hid (wa.ownsRow w.heap.size 24 3 (.slice A3 m c3) m (gCells blkCell M)) := Lib.hid (own_below HO.out hal)
        have HWA := Lib.hid hwa; have HBX := Lib.hid hbx
        clear hc hp hm hps hnx hM hmm GR hal hwa hbx HO e1
        by_cases hlt : (N3 : Int) < least
        · have hnew : Hid (mkK l least (k + 1) = M) := Lib.hid (HNX.out.1 hlt)
          clear HNX
          go_wp2
          rw [HWA.out]
          exact ⟨⟨k + 1, by omega, by go_num, Lib.hid (by rw [hnew.out, HMM.out]; exact OA.out), BA⟩, by simp [RowKit.intOf]; omega⟩
        · have hnew : Hid (mkK l least (k + 1) = M ++ [(p1, p2, ((costN t n N3 : Nat) : Int))]) := Lib.hid (HNX.out.2 hlt)
          have cc := fun w => CO.out t n N3 ht1 (by omega) t3 hNt w
          obtain ⟨cs, hcs⟩ : ∃ z, costN t n N3 = z := ⟨_, rfl⟩
          simp only [hcs] at cc
          rw [hcs] at hnew
          have C := Lib.hid cc
          have RU : Hid (BRuns wa (.slice (some ⟨b, o, none⟩) n c) l) := Lib.hid (HU.out.below BA.out)
          have KD : Hid (BoxK wa bx (p1, p2, (N3 : Int)) wa.drew) := Lib.hid ⟨x0, x1, x2, hltb, (Below.refl _ _).drew⟩
          have hge : least ≤ (N3 : Int) := by omega
          clear HNX cc hcs
          go_wp2
          rw [HWA.out, HBX.out]
          go_region_held3 (fun w' => w'.cell? ⟨bx, 2, none⟩ = some (.int .i64 (N3 : Int)) ∧ Hid (BoxK wa bx (p1, p2, (N3 : Int)) w'))
            (first | exact ⟨x2, KD⟩ | exact ⟨HKn.out.b2, HKn⟩ | go_keep)
            (first
              | (go_at_call 43; refine (CSUM.out _ (RU.out.below (by assumption : Hid (BoxK wa bx (p1, p2, (N3 : Int)) _)).out.bel)).mono ?_; rintro e w4 ⟨rfl, hb4⟩; have HKn := Lib.hid ((by assumption : Hid (BoxK wa bx (p1, p2, (N3 : Int)) _)).out.step hb4); clear hb4)
              | (go_at_call 42; refine (C.out _).mono ?_; rintro e w5 ⟨rfl, hb5⟩; have HKn := Lib.hid ((by assumption : Hid (BoxK wa bx (p1, p2, (N3 : Int)) _)).out.step hb5); clear hb5))
          rename_i hHeld
          clear hHeld
          have b5 : Below wa.heap.size wa w5 := HKn.out.bel
          have y0 := (b5.cell (p := ⟨bx, 0, none⟩) hltb).trans x0
          have y1 := (b5.cell (p := ⟨bx, 1, none⟩) hltb).trans x1
          have B5 : Below w.heap.size w w5 := BA.out.trans (b5.mono BA.out.size)
          have O5 := own_below OA.out b5
          obtain ⟨v', w6, hrun, o6, g6, at6⟩ := append_one (P := Tryd.prog) rl_ln rl_one info_rule rfl (by decide) (by decide) Tryd.underlying22 w5 w.heap.size _ m _ O5 (p1, p2, ((cs : Nat) : Int)) B5.size (by omega)
          have B6 : Hid (Below w.heap.size w w6) := Lib.hid ((B5.alloc B5.size _).grown g6 (by simp; exact Nat.le_succ_of_le B5.size) (fun k hk => (O5.lt k hk).1))
          have O6 : Hid (w6.ownsRow w.heap.size 24 3 v' (mkK l least (k + 1)).length (gCells blkCell (mkK l least (k + 1)))) := Lib.hid (by
            rw [hnew.out, List.length_append, HMM.out, gCells_append]
            simpa [gCells] using o6)
          have hrun' : (Builtin.append_ #[22, 22] 22 #[.slice A3 m c3, .slice (some ⟨w5.heap.size, 0, none⟩) 1 1]).run Tryd.prog (w5.alloc (.cells #[.string p1, .string p2, .int .i64 ((cs : Nat) : Int)] 24)) = .ok v' w6 := hrun
          have HRUN := Lib.hid hrun'
          clear b5 x0 x1 x2 g0 g1 g2 B5 O5 hrun hrun' o6 g6 at6 hnew
          go_wp2_with (at_builtin; refine wpList_append_run (.tmp 43) (.tmp 50) 22 _ _ _ _ HRUN.out rfl rfl rfl rfl ?_)
          exact ⟨⟨k + 1, by omega, by go_num, O6, B6⟩, by simp [RowKit.intOf]; omega⟩
      · obtain rfl : k = n := by omega
        have hall : mkK l least k = mkR l least := by rw [← HN.out]; exact mkK_all l least
        rw [hall] at HO
        have GR := Lib.hid (GRuns.of_own rl_ln rfl HO.out)
        clear HO hall
        go_wp2
        go_ret2
        exact ⟨_, rfl, by rw [hYs.out]; exact GR.out, BW.out⟩
  · have h0' : (ea == 0) = false := by simpa using h0
    have hEr : er = ea := by rw [HE.out, if_neg h0]
    subst hEr
    have hYs : Hid (Y = []) := Lib.hid (by rw [HS.out, if_neg h0])
    go_wp2
    go_ret2
    exact ⟨_, rfl, by rw [hYs.out]; exact GRuns.nil_ _ _ _, B1.out⟩
end Go.Proofs.YtnognphjndpgkaaDoor
