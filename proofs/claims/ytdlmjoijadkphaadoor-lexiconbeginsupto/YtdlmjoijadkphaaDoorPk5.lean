/- Texts that several proofs of this seat share, one behind the other: XRefB. -/
import Derived.Test.YtdlmjoijadkphaaDoorPk4
/- errataref09.Best: the most frequent words. -/
namespace Go.Proofs.YtdlmjoijadkphaaDoor
open Go.RowKit Go.Shelf
set_option linter.unusedSimpArgs false
set_option linter.unusedVariables false

theorem gCells_set2 (g : List Wrd) (k : Nat) (x : Wrd) (h : k < g.length) : ((gCells wrdCell g).set (k * 2) (.string x.1)).set (k * 2 + 1) (.int .i64 x.2) = gCells wrdCell (g.set k x) := by
  induction g generalizing k with
  | nil => simp at h
  | cons a g ih =>
    cases k with
    | zero => rfl
    | succ k =>
      have := ih k (by simpa using h)
      show ((wrdCell a ++ gCells wrdCell g).set ((k + 1) * 2) _).set ((k + 1) * 2 + 1) _ = wrdCell a ++ gCells wrdCell (g.set k x)
      rw [← this, show (k + 1) * 2 + 1 = (k * 2 + 1) + 2 by omega, show (k + 1) * 2 = (k * 2) + 2 by omega]
      rfl
/-- A word stored into a row of the call's own. -/
theorem own_word {w : World} {base g cap n : Nat} {L : List Wrd} (h : w.ownsRow base 24 2 (.slice (some ⟨g, 0, none⟩) n cap) n (gCells wrdCell L)) (hn : L.length = n) (j : Nat) (hj : j < n) (x : Wrd) :
    ((w.setCell ⟨g, j * 2, none⟩ (.string x.1)).setCell ⟨g, j * 2 + 1, none⟩ (.int .i64 x.2)).ownsRow base 24 2 (.slice (some ⟨g, 0, none⟩) n cap) n (gCells wrdCell (L.set j x)) := by
  have h1 := own_store (own_store h (j * 2) (by omega) (.string x.1)) (j * 2 + 1) (by omega) (.int .i64 x.2)
  rwa [gCells_set2 L j x (by omega)] at h1
theorem xcell_ne (w : World) (g j : Nat) (u : Value) (b o : Nat) (h : b ≠ g) : (w.setCell ⟨g, j, none⟩ u).cell? ⟨b, o, none⟩ = w.cell? ⟨b, o, none⟩ := World.cell?_of_block (Below.heap_setCell _ _ _ b h)
theorem own_base {w : World} {base : Nat} {e : TypeId} {size g cap n m : Nat} {xs : List Value} (h : w.ownsRow base e size (.slice (some ⟨g, 0, none⟩) n cap) m xs) : base ≤ g := by
  rcases h.2 with ⟨e, _⟩ | ⟨g', cap, cur, e, hb, _⟩
  · cases e
  · simp only [Value.slice.injEq, Option.some.injEq, Addr.mk.injEq] at e
    obtain ⟨⟨rfl, _⟩, _⟩ := e
    exact hb

set_option maxRecDepth 100000 in
set_option maxHeartbeats 16000000 in
theorem refBest9_any (u : Value) (l : List Wrd) (kk : Int) (w : World) (hu : WRuns w u l) (hl : l.length ≤ 2000000) (hz : szW l) :
    Calls Tryd.prog 23 #[u, .int .i64 kk] w fun e w' => ∃ v, e = .returned (.tuple #[v, .int .i64 (wbE l kk)]) ∧ WRuns w' v (wbS l kk) ∧ Below w.heap.size w w' := by
  have ca := refIs9_any u l w hu hl hz
  obtain ⟨A, c, e⟩ := hu.slice
  subst e
  have HU := Lib.hid hu; clear hu
  have hE : wbE l kk = if wisS l = 0 then (if kk < 0 ∨ 1000 < kk then 2 else 0) else wisS l := rfl
  have hS : wbS l kk = if wbE l kk = 0 then (bst l).take kk.toNat else [] := rfl
  have hfin : bst l = bst (l.take l.length) := by rw [List.take_length]
  rw [hfin] at hS
  clear hfin
  obtain ⟨n, hn⟩ : ∃ n, l.length = n := ⟨_, rfl⟩
  rw [hn] at hl HU ca hS ⊢
  have HN := Lib.hid hn; clear hn hz
  obtain ⟨G, hG⟩ : ∃ f, f = fun k => bst (l.take k) := ⟨_, rfl⟩
  have gst : ∀ k x, l[k]? = some x → G (k + 1) = insF x (G k) := fun k x hx => by rw [hG]; exact bst_take k x hx
  have gln : ∀ k, k ≤ n → (G k).length = k := fun k hk => by
    rw [hG]; simp only; rw [bst_len, List.length_take, HN.out]; omega
  have gds : ∀ k, dscF (G k) := fun k => by rw [hG]; exact bst_dsc _
  have g0 : G 0 = [] := by rw [hG]; rfl
  have hgo : bst (l.take n) = G n := by rw [hG]
  rw [hgo] at hS
  clear hgo hG
  obtain ⟨ra, hra⟩ : ∃ z, wisS l = z := ⟨_, rfl⟩
  obtain ⟨er, her⟩ : ∃ z, wbE l kk = z := ⟨_, rfl⟩
  obtain ⟨Y, hY⟩ : ∃ z, wbS l kk = z := ⟨_, rfl⟩
  rw [her] at hE hS ⊢
  rw [hY] at hS ⊢
  rw [hra] at hE ca
  have GST := Lib.hid gst; have GLN := Lib.hid gln; have HE := Lib.hid hE; have HS := Lib.hid hS; have CA := Lib.hid ca; have GDS := Lib.hid gds
  clear gst gln hE hS ca hra her hY gds
  go_enter Tryd.func23, Tryd.ntmps23
  go_wp2_with fail
  refine CA.out.mono ?_
  rintro e w1 ⟨rfl, b1⟩
  have B1 := Lib.hid b1; clear b1
  by_cases h00 : ra = 0
  rotate_left
  · have h00' : (ra == 0) = false := by simpa using h00
    have hEr : er = ra := by rw [HE.out, if_neg h00]
    subst hEr
    have hYs : Hid (Y = []) := Lib.hid (by rw [HS.out, if_neg h00])
    go_wp2
    go_ret2
    exact ⟨_, rfl, by rw [hYs.out]; exact GRuns.nil_ _ _ _, B1.out⟩
  subst h00
  by_cases hk0 : kk < 0
  · have hEr : er = 2 := by rw [HE.out, if_pos (by first | rfl | trivial), if_pos (.inl hk0)]
    subst hEr
    have hYs : Hid (Y = []) := Lib.hid (by rw [HS.out]; simp)
    go_wp2
    go_ret2
    exact ⟨_, rfl, by rw [hYs.out]; exact GRuns.nil_ _ _ _, B1.out⟩
  by_cases hk1 : 1000 < kk
  · have hEr : er = 2 := by rw [HE.out, if_pos (by first | rfl | trivial), if_pos (.inr hk1)]
    subst hEr
    have hYs : Hid (Y = []) := Lib.hid (by rw [HS.out]; simp)
    go_wp2
    go_ret2
    exact ⟨_, rfl, by rw [hYs.out]; exact GRuns.nil_ _ _ _, B1.out⟩
  have hEr : er = 0 := by rw [HE.out, if_pos (by first | rfl | trivial), if_neg (by omega)]
  subst hEr
  obtain ⟨kn, rfl⟩ : ∃ kn : Nat, kk = (kn : Int) := ⟨kk.toNat, by omega⟩
  have hYs : Hid (Y = (G n).take kn) := Lib.hid (by rw [HS.out]; simp)
  clear HS HE
  go_wp2
  go_loopw [7, 24] (fun s7 s24 wr => ∃ k : Nat, k ≤ n ∧ s24 = .int .i64 k ∧ Hid (wr.ownsRow w.heap.size 24 2 s7 k (gCells wrdCell (G k))) ∧ Hid (Below w.heap.size w wr)) (fun _ s24 _ => n - (RowKit.intOf s24).toNat)
  case atStart => exact ⟨0, Nat.zero_le _, rfl, Lib.hid (by rw [g0]; exact World.ownsRow_nil _ _ _ _), B1⟩
  case round =>
    obtain ⟨k, hkn, rfl, HO, BW⟩ := hrel
    have hgl := GLN.out k hkn
    have hgd := GDS.out k
    obtain ⟨g, hg⟩ : ∃ g, G k = g := ⟨_, rfl⟩
    rw [hg] at HO hgl hgd
    have HG := Lib.hid hg
    have HM := Lib.hid hgl
    have HGD := Lib.hid hgd
    clear hg hgl hgd
    have GR := Lib.hid (GRuns.of_own wrd_ln HM.out HO.out)
    obtain ⟨A', c', hv⟩ := GR.out.slice
    rw [HM.out] at hv
    subst hv
    by_cases hk : k < n
    · have k1 : (k : Int) < (n : Int) := by omega
      obtain ⟨⟨p1, p2⟩, hp⟩ : ∃ p, l[k]? = some p := ⟨_, List.getElem?_eq_getElem (by rw [HN.out]; exact hk)⟩
      obtain ⟨b, o, rfl, hblt, hc⟩ := (HU.out.below BW.out).cells HN.out (by omega)
      obtain ⟨e0, e1⟩ := wrd_cells hc hp
      simp only at e0 e1
      have hg1 := GST.out k _ hp
      rw [HG.out] at hg1
      have HG1 := Lib.hid hg1
      clear hg1 hc hp
      have hal : Below wr.heap.size wr (wr.alloc (.cells #[.string p1, .int .i64 p2] 24)) := (Below.refl _ _).alloc (Nat.le_refl _) _
      obtain ⟨wa, hwa⟩ : ∃ z, wr.alloc (.cells #[.string p1, .int .i64 p2] 24) = z := ⟨_, rfl⟩
      obtain ⟨i0, i1⟩ := cells2_new wr (.string p1) (.int .i64 p2) 24
      rw [hwa] at hal i0 i1
      have hsz : wa.heap.size = wr.heap.size + 1 := by rw [← hwa]; simp
      have OA := own_below HO.out hal
      obtain ⟨v3, w3, hrun, h2, h3, h5⟩ := append_one (P := Tryd.prog) (enc := wrdCell) (k := 2) wrd_ln wrd_one info_wrd rfl (by decide) (by decide) Tryd.underlying22 wa w.heap.size (.slice A' k c') k _ OA (p1, p2) (Nat.le_trans BW.out.size hal.size) (by omega)
      have hrun' : (Builtin.append_ #[22, 22] 22 #[.slice A' k c', .slice (some ⟨wr.heap.size + 1, 0, none⟩) 1 1]).run Tryd.prog ((wr.alloc (.cells #[.string p1, .int .i64 p2] 24)).alloc (.cells #[.string p1, .int .i64 p2] 24)) = .ok v3 w3 := by
        rw [hwa, ← hsz]; exact hrun
      obtain ⟨bx, hbx⟩ : ∃ z, wr.heap.size = z := ⟨_, rfl⟩
      have hgb3 : v3.ownBlock = none ∨ ∃ gb, v3.ownBlock = some gb ∧ gb ≠ bx := by
        rcases h5 with h | h
        · rw [h]
          cases hq : (Value.slice A' k c').ownBlock with
          | none => exact .inl rfl
          | some q => exact .inr ⟨q, rfl, by have := (own_lt' HO.out) q hq; omega⟩
        · exact .inr ⟨_, h, by omega⟩
      rw [hbx] at i0 i1 hsz
      have hbel : Below wa.heap.size wa (wa.alloc (.cells (wrdCell (p1, p2)).toArray 24)) := bel_one _ _
      have hbx1 : bx < wa.heap.size := by omega
      have j0 : w3.cell? ⟨bx, 0, none⟩ = some (.string p1) := by
        rw [World.cell?_of_block (h3.block bx (Nat.lt_of_lt_of_le hbx1 hbel.size) (fun e => by
          have h6 : (Value.slice A' k c').ownBlock = some bx := e.symm
          have := (own_lt' HO.out) bx h6
          omega))]
        exact cell_keep hbel i0
      have j1 : w3.cell? ⟨bx, 1, none⟩ = some (.int .i64 p2) := by
        rw [World.cell?_of_block (h3.block bx (Nat.lt_of_lt_of_le hbx1 hbel.size) (fun e => by
          have h6 : (Value.slice A' k c').ownBlock = some bx := e.symm
          have := (own_lt' HO.out) bx h6
          omega))]
        exact cell_keep hbel i1
      have b3 : Below w.heap.size w w3 := (BW.out.trans ((hal.trans (hbel.mono hal.size)).mono BW.out.size)).grown h3 (by simp; have := BW.out.size; omega) (fun q hq => (HO.out.lt q hq).1)
      rw [← gCells_snoc] at h2
      have hlen3 : (g ++ [(p1, p2)]).length = k + 1 := by rw [List.length_append, HM.out]; rfl
      have g3 := GRuns.of_own wrd_ln hlen3 h2
      obtain ⟨A3, c3, e3⟩ := g3.slice
      rw [hlen3] at e3
      subst e3
      obtain ⟨gb, o3, e4, _, _⟩ := g3.cells hlen3 (by omega)
      have e5 : o3 = 0 := by
        rcases h2.2 with ⟨e, _⟩ | ⟨g', cap, cur, e, _⟩
        · rw [e4] at e; cases e
        · rw [e4] at e
          simp only [Value.slice.injEq, Option.some.injEq, Addr.mk.injEq] at e
          exact e.1.2.1
      subst e4 e5
      have hne : bx ≠ gb := by
        rcases hgb3 with h | ⟨q, h, h'⟩
        · simp [Value.ownBlock] at h
        · simp [Value.ownBlock] at h
          omega
      have hgbw := own_base h2
      have HWA := Lib.hid hwa; have HBX := Lib.hid hbx; have HRUN := Lib.hid hrun'; have H2 : Hid (w3.ownsRow w.heap.size 24 2 (.slice (some ⟨gb, 0, none⟩) (k + 1) c3) (k + 1) (gCells wrdCell (rowF g k (p1, p2)))) := Lib.hid (by have e := rowF_end g (p1, p2); rw [HM.out] at e; rw [e]; exact h2)
      have J : Hid (w3.cell? ⟨bx, 0, none⟩ = some (.string p1) ∧ w3.cell? ⟨bx, 1, none⟩ = some (.int .i64 p2)) := Lib.hid ⟨j0, j1⟩
      have B3 := Lib.hid b3
      clear hal hwa hsz OA hrun hrun' h2 h3 h5 hbx hgb3 hbel hbx1 j0 j1 b3 hlen3 g3 HO GR i0 i1
      go_wp2_with (at_builtin; refine wpList_append_run (.tmp 30) (.tmp 32) 22 _ _ _ _ HRUN.out rfl rfl rfl rfl ?_)
      rw [HBX.out]
      clear e0 e1
      have kk1 : IntKind.i64.wrap (k : Int) = (k : Int) := by rw [IntKind.wrap_i64]; omega
      go_loopw [10] (fun s10 wr' => ∃ (q : Nat) (z : Wrd), q ≤ k ∧ s10 = .int .i64 q ∧ Hid (wr'.ownsRow w.heap.size 24 2 (.slice (some ⟨gb, 0, none⟩) (k + 1) c3) (k + 1) (gCells wrdCell (rowF g q z))) ∧ Hid (∀ j y, q ≤ j → g[j]? = some y → y.2 < p2) ∧ Hid (wr'.cell? ⟨bx, 0, none⟩ = some (.string p1) ∧ wr'.cell? ⟨bx, 1, none⟩ = some (.int .i64 p2)) ∧ Hid (Below w.heap.size w wr')) (fun s10 _ => (RowKit.intOf s10).toNat)
      case atStart => exact ⟨k, (p1, p2), Nat.le_refl _, rfl, H2, Lib.hid (fun j y hj hy => by have := (List.getElem?_eq_some_iff.1 hy).1; rw [HM.out] at this; omega), J, B3⟩
      case round =>
        obtain ⟨q, ⟨z1, z2⟩, hqk, rfl, OQ, HB, JQ, BQ⟩ := hrel
        obtain ⟨j0, j1⟩ := JQ.out
        have hlq : (rowF g q (z1, z2)).length = k + 1 := by rw [rowF_len _ _ _ (by rw [HM.out]; exact hqk), HM.out]
        have gq := GRuns.of_own wrd_ln hlq OQ.out
        obtain ⟨gb', o', eb, hgl', hc'⟩ := gq.cells hlq (by omega)
        have eb1 := Option.some.inj eb
        simp only [Addr.mk.injEq] at eb1
        obtain ⟨rfl, rfl, _⟩ := eb1
        have hzq : (rowF g q (z1, z2))[q]? = some (z1, z2) := by
          unfold rowF
          rw [List.append_assoc, List.getElem?_append_right (by rw [List.length_take]; omega), List.length_take, HM.out, Nat.min_eq_left hqk, Nat.sub_self]
          rfl
        obtain ⟨m0, m1⟩ := wrd_cells hc' hzq
        simp only [Nat.zero_add] at m0 m1
        have t0 := own_thaw OQ.out (q * 2)
        have t1 := own_thaw OQ.out (q * 2 + 1)
        have q1 : (q : Int) < ((k + 1 : Nat) : Int) := by omega
        rcases Nat.eq_zero_or_pos q with h0 | h0
        · subst h0
          have hend : Hid (G (k + 1) = rowF g 0 (p1, p2)) := Lib.hid (by
            rw [HG1.out]
            exact insF_at _ _ 0 (fun j y hj => by omega) (Nat.zero_le _) (fun y hy => HB.out 0 y (Nat.le_refl _) hy))
          clear hc' gq eb hzq
          go_wp2
          go_quiet (fail)
          obtain ⟨w5, hw5⟩ : ∃ w5, w5 = wr.drewN nq := ⟨_, rfl⟩
          have h45 : Below wr.heap.size wr w5 := by rw [hw5]; exact below_draws (Below.refl _ _) _
          have O5 := own_below OQ.out h45
          have B5 : Hid (Below w.heap.size w w5) := Lib.hid (BQ.out.trans (h45.mono BQ.out.size))
          have x0 : w5.cell? ⟨gb, 0 * 2, none⟩ = some (.string z1) := by rw [hw5]; exact m0
          have x1 : w5.cell? ⟨gb, 0 * 2 + 1, none⟩ = some (.int .i64 z2) := by rw [hw5]; exact m1
          have x2 : w5.cell? ⟨bx, 0, none⟩ = some (.string p1) := by rw [hw5]; exact j0
          have x3 : w5.cell? ⟨bx, 1, none⟩ = some (.int .i64 p2) := by rw [hw5]; exact j1
          have x4 := own_thaw O5 (0 * 2)
          have x5 := own_thaw O5 (0 * 2 + 1)
          have oend : Hid (((w5.setCell ⟨gb, 0 * 2, none⟩ (.string p1)).setCell ⟨gb, 0 * 2 + 1, none⟩ (.int .i64 p2)).ownsRow w.heap.size 24 2 (.slice (some ⟨gb, 0, none⟩) (k + 1) c3) (k + 1) (gCells wrdCell (G (k + 1))) ∧ Below w.heap.size w ((w5.setCell ⟨gb, 0 * 2, none⟩ (.string p1)).setCell ⟨gb, 0 * 2 + 1, none⟩ (.int .i64 p2))) := Lib.hid ⟨by
            have h := own_word O5 hlq 0 (by omega) (p1, p2)
            rw [rowF_set _ _ _ _ (by rw [HM.out]; exact hqk)] at h
            rw [hend.out]; exact h, (B5.out.setCell hgbw _).setCell hgbw _⟩
          rw [← hw5]
          clear hw5 h45 O5 m0 m1 t0 t1 j0 j1 OQ BQ JQ HB
          go_wp2
          exact ⟨⟨k + 1, by omega, by go_num, Lib.hid oend.out.1, Lib.hid oend.out.2⟩, by simp [RowKit.intOf]; omega⟩
        · obtain ⟨i, rfl⟩ : ∃ i, q = i + 1 := ⟨q - 1, by omega⟩
          obtain ⟨⟨y1, y2⟩, hy⟩ : ∃ y, g[i]? = some y := ⟨_, List.getElem?_eq_getElem (by rw [HM.out]; omega)⟩
          obtain ⟨n0, n1⟩ := wrd_cells hc' (rowF_at g i (z1, z2) (y1, y2) hy)
          simp only [Nat.zero_add] at n0 n1
          have HY := Lib.hid hy
          clear hc' gq eb hzq hy
          have i0 : (0 : Int) < ((i + 1 : Nat) : Int) := by omega
          have hwr : IntKind.i64.wrap (((i + 1 : Nat) : Int) - 1) = (i : Int) := by rw [IntKind.wrap_i64]; omega
          have hwi : IntKind.i64.wrap (i : Int) = (i : Int) := by rw [IntKind.wrap_i64]; omega
          have i1 : (i : Int) < ((k + 1 : Nat) : Int) := by omega
          have i2 : (0 : Int) ≤ (i : Int) := by omega
          by_cases hlt : y2 < p2
          · go_wp2
            go_quiet (fail)
            obtain ⟨w5, hw5⟩ : ∃ w5, w5 = wr.drewN nq := ⟨_, rfl⟩
            have h45 : Below wr.heap.size wr w5 := by rw [hw5]; exact below_draws (Below.refl _ _) _
            have O5 := own_below OQ.out h45
            have B5 : Hid (Below w.heap.size w w5) := Lib.hid (BQ.out.trans (h45.mono BQ.out.size))
            have x0 : w5.cell? ⟨gb, (i + 1) * 2, none⟩ = some (.string z1) := by rw [hw5]; exact m0
            have x1 : w5.cell? ⟨gb, (i + 1) * 2 + 1, none⟩ = some (.int .i64 z2) := by rw [hw5]; exact m1
            have x2 : w5.cell? ⟨gb, i * 2, none⟩ = some (.string y1) := by rw [hw5]; exact n0
            have x3 : w5.cell? ⟨gb, i * 2 + 1, none⟩ = some (.int .i64 y2) := by rw [hw5]; exact n1
            have x4 := own_thaw O5 ((i + 1) * 2)
            have x5 := own_thaw O5 ((i + 1) * 2 + 1)
            have oend : Hid (((w5.setCell ⟨gb, (i + 1) * 2, none⟩ (.string y1)).setCell ⟨gb, (i + 1) * 2 + 1, none⟩ (.int .i64 y2)).ownsRow w.heap.size 24 2 (.slice (some ⟨gb, 0, none⟩) (k + 1) c3) (k + 1) (gCells wrdCell (rowF g i (y1, y2))) ∧ Below w.heap.size w ((w5.setCell ⟨gb, (i + 1) * 2, none⟩ (.string y1)).setCell ⟨gb, (i + 1) * 2 + 1, none⟩ (.int .i64 y2)) ∧
              (((w5.setCell ⟨gb, (i + 1) * 2, none⟩ (.string y1)).setCell ⟨gb, (i + 1) * 2 + 1, none⟩ (.int .i64 y2)).cell? ⟨bx, 0, none⟩ = some (.string p1) ∧ ((w5.setCell ⟨gb, (i + 1) * 2, none⟩ (.string y1)).setCell ⟨gb, (i + 1) * 2 + 1, none⟩ (.int .i64 y2)).cell? ⟨bx, 1, none⟩ = some (.int .i64 p2))) := Lib.hid ⟨by
              have h := own_word O5 hlq (i + 1) (by omega) (y1, y2)
              rw [rowF_set _ _ _ _ (by rw [HM.out]; exact hqk), rowF_down g i (y1, y2) HY.out] at h
              exact h, (B5.out.setCell hgbw _).setCell hgbw _, by rw [xcell_ne _ _ _ _ _ _ hne, xcell_ne _ _ _ _ _ _ hne, hw5]; exact j0, by rw [xcell_ne _ _ _ _ _ _ hne, xcell_ne _ _ _ _ _ _ hne, hw5]; exact j1⟩
            have HB2 : Hid (∀ j y, i ≤ j → g[j]? = some y → y.2 < p2) := Lib.hid (fun j y hj hy => by
              rcases Nat.lt_or_eq_of_le hj with h | h
              · exact HB.out j y (by omega) hy
              · subst h
                rw [HY.out] at hy
                obtain rfl := Option.some.inj hy
                exact hlt)
            rw [← hw5]
            clear hw5 h45 O5 m0 m1 t0 t1 j0 j1 OQ BQ JQ HB n0 n1
            go_wp2
            exact ⟨⟨i, (y1, y2), by omega, by go_num, Lib.hid oend.out.1, HB2, Lib.hid oend.out.2.2, Lib.hid oend.out.2.1⟩, by simp [RowKit.intOf]⟩
          · have hend : Hid (G (k + 1) = rowF g (i + 1) (p1, p2)) := Lib.hid (by
              rw [HG1.out]
              exact insF_at _ _ (i + 1) (fun j y hj hy => by
                rcases Nat.lt_or_eq_of_le (Nat.le_of_lt_succ hj) with h | h
                · have := dscF_at HGD.out h hy HY.out
                  simp only at this ⊢
                  omega
                · subst h
                  rw [HY.out] at hy
                  obtain rfl := Option.some.inj hy
                  simp only
                  omega) (by rw [HM.out]; exact hqk) (fun y hy => HB.out _ y (Nat.le_refl _) hy))
            go_wp2
            go_quiet (fail)
            obtain ⟨w5, hw5⟩ : ∃ w5, w5 = wr.drewN nq := ⟨_, rfl⟩
            have h45 : Below wr.heap.size wr w5 := by rw [hw5]; exact below_draws (Below.refl _ _) _
            have O5 := own_below OQ.out h45
            have B5 : Hid (Below w.heap.size w w5) := Lib.hid (BQ.out.trans (h45.mono BQ.out.size))
            have x0 : w5.cell? ⟨gb, (i + 1) * 2, none⟩ = some (.string z1) := by rw [hw5]; exact m0
            have x1 : w5.cell? ⟨gb, (i + 1) * 2 + 1, none⟩ = some (.int .i64 z2) := by rw [hw5]; exact m1
            have x2 : w5.cell? ⟨bx, 0, none⟩ = some (.string p1) := by rw [hw5]; exact j0
            have x3 : w5.cell? ⟨bx, 1, none⟩ = some (.int .i64 p2) := by rw [hw5]; exact j1
            have x4 := own_thaw O5 ((i + 1) * 2)
            have x5 := own_thaw O5 ((i + 1) * 2 + 1)
            have oend : Hid (((w5.setCell ⟨gb, (i + 1) * 2, none⟩ (.string p1)).setCell ⟨gb, (i + 1) * 2 + 1, none⟩ (.int .i64 p2)).ownsRow w.heap.size 24 2 (.slice (some ⟨gb, 0, none⟩) (k + 1) c3) (k + 1) (gCells wrdCell (G (k + 1))) ∧ Below w.heap.size w ((w5.setCell ⟨gb, (i + 1) * 2, none⟩ (.string p1)).setCell ⟨gb, (i + 1) * 2 + 1, none⟩ (.int .i64 p2))) := Lib.hid ⟨by
              have h := own_word O5 hlq (i + 1) (by omega) (p1, p2)
              rw [rowF_set _ _ _ _ (by rw [HM.out]; exact hqk)] at h
              rw [hend.out]; exact h, (B5.out.setCell hgbw _).setCell hgbw _⟩
            rw [← hw5]
            clear n0 n1 hw5 h45 O5 m0 m1 t0 t1 j0 j1 OQ BQ JQ HB
            go_wp2
            exact ⟨⟨k + 1, by omega, by go_num, Lib.hid oend.out.1, Lib.hid oend.out.2⟩, by simp [RowKit.intOf]; omega⟩
    · obtain rfl : k = n := by omega
      have hk2 : ¬ (k : Int) < (k : Int) := by omega
      rw [HG.out] at hYs
      have hcap : k ≤ c' ∧ c' ≤ maxLen := ⟨(gr_cap GR.out).1, (gr_cap GR.out).2.1⟩
      unfold maxLen at hcap
      by_cases hkl : kn < k
      · have hkl' : (kn : Int) < (k : Int) := by omega
        have hkl2 : (kn : Int) ≤ (c' : Int) := by omega
        have RF := Lib.hid (gr_front GR.out HM.out kn (by omega))
        go_wp2
        go_ret2
        exact ⟨_, rfl, by rw [hYs.out]; exact RF.out, BW.out⟩
      · have hkl' : ¬ (kn : Int) < (k : Int) := by omega
        have hYg : Hid (Y = g) := Lib.hid (by rw [hYs.out, List.take_of_length_le (by rw [HM.out]; omega)])
        go_wp2
        go_ret2
        exact ⟨_, rfl, by rw [hYg.out]; exact GR.out, BW.out⟩
end Go.Proofs.YtdlmjoijadkphaaDoor

