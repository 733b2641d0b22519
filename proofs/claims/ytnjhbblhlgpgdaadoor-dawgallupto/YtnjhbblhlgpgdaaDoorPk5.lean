/- Texts that several proofs of this seat share, one behind the other: XRefN XTog. -/
import Derived.Test.YtnjhbblhlgpgdaaDoorPk4
import Derived.StillTailTactics
/- errataref09.Normal: words, each once, in order. -/
namespace Go.Proofs.YtnjhbblhlgpgdaaDoor
open Go.RowKit Go.Shelf
set_option linter.unusedSimpArgs false
set_option linter.unusedVariables false

theorem insW_at (b : Wrd) (out : List Wrd) (k : Nat) (h1 : ∀ j y, j < k → out[j]? = some y → ltK y.1 b.1 = true) (h2 : k ≤ out.length) (h3 : ∀ y, out[k]? = some y → ltK y.1 b.1 = false) :
    (∀ x, out[k]? = some x → x.1 = b.1 → insW b out = out.set k (x.1, min 1073741824 (x.2 + b.2))) ∧ ((∀ x, out[k]? = some x → x.1 ≠ b.1) → insW b out = out.take k ++ [b] ++ out.drop k) := by
  induction out generalizing k with
  | nil =>
    obtain rfl : k = 0 := by simpa using h2
    refine ⟨fun x hx => by simp at hx, fun _ => by simp [insW]⟩
  | cons a out ih =>
    cases k with
    | zero =>
      have ha := h3 a (by simp)
      have ha' : ¬ ltK a.1 b.1 = true := by rw [ha]; simp
      refine ⟨fun x hx hs => ?_, fun hn => ?_⟩
      · obtain rfl : a = x := by simpa using hx
        rw [insW, if_neg ha', if_pos hs]; rfl
      · rw [insW, if_neg ha', if_neg (hn a (by simp))]; rfl
    | succ k =>
      have ha := h1 0 a (by omega) (by simp)
      obtain ⟨i1, i2⟩ := ih k (fun j y hj hy => h1 (j + 1) y (by omega) (by simpa using hy)) (by simpa using h2) (fun y hy => h3 y (by simpa using hy))
      refine ⟨fun x hx hs => ?_, fun hn => ?_⟩
      · rw [insW, if_pos ha, i1 x (by simpa using hx) hs]; rfl
      · rw [insW, if_pos ha, i2 (fun x hx => hn x (by simpa using hx))]; simp
/-- A Freq stored. -/
theorem gCells_setW (g : List Wrd) (k : Nat) (y : Wrd) (z : Int) (hy : g[k]? = some y) : (gCells wrdCell g).set (k * 2 + 1) (.int .i64 z) = gCells wrdCell (g.set k (y.1, z)) := by
  induction g generalizing k with
  | nil => simp at hy
  | cons a g ih =>
    cases k with
    | zero =>
      obtain rfl : a = y := by simpa using hy
      rfl
    | succ k =>
      have := ih k (by simpa using hy)
      show (wrdCell a ++ gCells wrdCell g).set ((k + 1) * 2 + 1) _ = wrdCell a ++ gCells wrdCell (g.set k _)
      rw [← this, show (k + 1) * 2 + 1 = (k * 2 + 1) + 2 by omega]
      rfl
/-- The ways in which two literals come to lie. -/
theorem xlay_1 (D : World) (b : Nat) (hb : b ≤ D.heap.size) (x : Wrd) : ((D.alloc (.cells #[] 55)).alloc (.cells #[.string x.1, .int .i64 x.2] 55)).ownsRow b 55 2 (.slice (some ⟨D.heap.size, 0, none⟩) 0 0) 0 [] ∧
    WRuns ((D.alloc (.cells #[] 55)).alloc (.cells #[.string x.1, .int .i64 x.2] 55)) (.slice (some ⟨D.heap.size + 1, 0, none⟩) 1 1) [x] := by
  have h := wrd_litR (D.alloc (.cells #[] 55)) x
  rw [World.size_alloc] at h
  exact ⟨(own_litW D b hb).alloc _, h⟩
theorem xlay_2 (D : World) (b : Nat) (hb : b ≤ D.heap.size) (x : Wrd) : ((D.alloc (.cells #[.string x.1, .int .i64 x.2] 55)).alloc (.cells #[] 55)).ownsRow b 55 2 (.slice (some ⟨D.heap.size + 1, 0, none⟩) 0 0) 0 [] ∧
    WRuns ((D.alloc (.cells #[.string x.1, .int .i64 x.2] 55)).alloc (.cells #[] 55)) (.slice (some ⟨D.heap.size, 0, none⟩) 1 1) [x] := by
  have h := own_litW (D.alloc (.cells #[.string x.1, .int .i64 x.2] 55)) b (by simp; omega)
  rw [World.size_alloc] at h
  exact ⟨h, (wrd_litR D x).below ((Below.refl _ _).alloc (Nat.le_refl _) _)⟩
/-- What is known behind the first append, the second, the third. -/
structure XpK (w D : World) (t : List Wrd) (v : Value) (W' : World) : Prop where
  own : W'.ownsRow w.heap.size 55 2 v t.length (gCells wrdCell t)
  bel : Below D.heap.size D W'
  at_ : ∀ b, v.ownBlock = some b → D.heap.size ≤ b
/-- One append more, told in one word. -/
theorem XpK.next {w D W W' : World} {t ys : List Wrd} {v v' : Value} {n : Nat} {xs : List Value} (hn : n = t.length) (hxs : xs = gCells wrdCell t) (hD : w.heap.size ≤ D.heap.size) (hbW : Below D.heap.size D W) (hv : ∀ b, v.ownBlock = some b → D.heap.size ≤ b)
    (h1 : W'.ownsRow w.heap.size 55 2 v' (n + ys.length) (xs ++ gCells wrdCell ys)) (h2 : W.grownBy W' v.ownBlock) (h3 : v'.ownBlock = v.ownBlock ∨ v'.ownBlock = some W.heap.size) : XpK w D (t ++ ys) v' W' := by
  subst hn hxs
  refine ⟨by rw [List.length_append, gCells_append]; exact h1, hbW.grown h2 hbW.size (fun b hb => hv b hb), fun b hb => ?_⟩
  rcases h3 with e | e
  · rw [e] at hb; exact hv b hb
  · rw [e] at hb
    have := hbW.size
    obtain rfl : W.heap.size = b := by simpa using hb
    exact this

set_option maxRecDepth 100000 in
set_option maxHeartbeats 16000000 in
theorem refNormal9_any (u : Value) (l : List Wrd) (w : World) (hu : WRuns w u l) (hl : l.length ≤ 2000000) (hz : szW l) :
    Calls Tryd.prog 29 #[u] w fun e w' => ∃ v, e = .returned (.tuple #[v, .int .i64 (worE l)]) ∧ WRuns w' v (worS l) ∧ Below w.heap.size w w' := by
  obtain ⟨A, c, e⟩ := hu.slice
  subst e
  have ca := refAll9_any (.slice A l.length c) l w hu hl hz
  have HU := Lib.hid hu; clear hu
  have hE : worE l = if wall l = 0 then (if 65536 < (nrmW l).length then 6 else 0) else wall l := rfl
  have hS : worS l = if worE l = 0 then nrmW l else [] := rfl
  have hfin : nrmW l = nrmW (l.take l.length) := by rw [List.take_length]
  rw [hfin] at hE hS
  clear hfin
  have hfb : wall l = 0 → ∀ k, frB (nrmW (l.take k)) ∧ ∀ x, l[k]? = some x → 1 ≤ x.2 ∧ x.2 ≤ 1073741824 := fun h k => ⟨nrmW_frB (fun z hz => frB_of h z (List.mem_of_mem_take hz)), fun x hx => frB_of h x (List.mem_of_getElem? hx)⟩
  obtain ⟨n, hn⟩ : ∃ n, l.length = n := ⟨_, rfl⟩
  rw [hn] at hl HU ca hE hS ⊢
  have HN := Lib.hid hn; clear hn hz
  obtain ⟨G, hG⟩ : ∃ f, f = fun k => nrmW (l.take k) := ⟨_, rfl⟩
  have gst : ∀ k x, l[k]? = some x → G (k + 1) = insW x (G k) := fun k x hx => by rw [hG]; exact nrmW_take k x hx
  have gln : ∀ k, k ≤ n → (G k).length ≤ k := fun k hk => by
    rw [hG]; have := nrmW_len (l.take k); rw [List.length_take] at this; simp only; omega
  have g0 : G 0 = [] := by rw [hG]; rfl
  have hgo : nrmW (l.take n) = G n := by rw [hG]
  have hfb' : wall l = 0 → ∀ k, frB (G k) ∧ ∀ x, l[k]? = some x → 1 ≤ x.2 ∧ x.2 ≤ 1073741824 := by rw [hG]; exact hfb
  rw [hgo] at hE hS
  clear hgo hG hfb
  obtain ⟨ra, hra⟩ : ∃ z, wall l = z := ⟨_, rfl⟩
  obtain ⟨er, her⟩ : ∃ z, worE l = z := ⟨_, rfl⟩
  obtain ⟨Y, hY⟩ : ∃ z, worS l = z := ⟨_, rfl⟩
  rw [her] at hE hS ⊢
  rw [hY] at hS ⊢
  rw [hra] at hE ca hfb'
  have GST := Lib.hid gst; have GLN := Lib.hid gln; have HE := Lib.hid hE; have HS := Lib.hid hS; have CA := Lib.hid ca; have HFB := Lib.hid hfb'
  clear gst gln hE hS ca hra her hY hfb'
  go_enter Tryd.func29, Tryd.ntmps29
  go_wp2_with fail
  refine CA.out.mono ?_
  rintro e w1 ⟨rfl, b1⟩
  have B1 := Lib.hid b1; clear b1
  by_cases h00 : ra = 0
  rotate_left
  · have h00' : (ra == 0) = false := by simpa using h00
    have hEr : er = ra := by rw [HE.out, if_neg h00]
    subst hEr
    have hYs : Hid (Y = []) := Lib.hid (by rw [HS.out, if_neg h00])
    go_wp2
    go_ret2
    exact ⟨_, rfl, by rw [hYs.out]; exact GRuns.nil_ _ _ _, B1.out⟩
  subst h00
  have HFB' := Lib.hid (HFB.out (by first | rfl | trivial))
  clear HFB
  go_wp2
  go_loopw [5, 16] (fun s3 s9 wr => ∃ k : Nat, k ≤ n ∧ s9 = .int .i64 k ∧ Hid (wr.ownsRow w.heap.size 55 2 s3 (G k).length (gCells wrdCell (G k))) ∧ Hid (Below w.heap.size w wr)) (fun _ s9 _ => n - (RowKit.intOf s9).toNat)
  case atStart => exact ⟨0, Nat.zero_le _, rfl, Lib.hid (by rw [g0]; exact World.ownsRow_nil _ _ _ _), B1⟩
  case round =>
    obtain ⟨k, hkn, rfl, HO, BW⟩ := hrel
    by_cases hk : k < n
    · have k1 : (k : Int) < (n : Int) := by omega
      obtain ⟨⟨p1, p2⟩, hp⟩ : ∃ p, l[k]? = some p := ⟨_, List.getElem?_eq_getElem (by rw [HN.out]; exact hk)⟩
      obtain ⟨b, o, rfl, hblt, hc⟩ := (HU.out.below BW.out).cells HN.out (by omega)
      obtain ⟨e0, e1⟩ := wrd_cells hc hp
      simp only at e0 e1
      have hg1 := GST.out k _ hp
      have hgl := GLN.out k hkn
      obtain ⟨hfg, hfp⟩ := HFB'.out k
      have hfp' := hfp _ hp
      simp only at hfp'
      obtain ⟨g, hg⟩ : ∃ g, G k = g := ⟨_, rfl⟩
      rw [hg] at HO hg1 hgl hfg
      have HG1 := Lib.hid hg1; have HFG := Lib.hid hfg; have HFP := Lib.hid hfp'
      clear hg hg1 hc hp hfg hfp hfp'
      obtain ⟨m, hm⟩ : ∃ m, g.length = m := ⟨_, rfl⟩
      rw [hm] at HO hgl
      have HM := Lib.hid hm; clear hm
      have GR := Lib.hid (GRuns.of_own wrd_ln HM.out HO.out)
      obtain ⟨A', c', hv⟩ := GR.out.slice
      rw [HM.out] at hv
      subst hv
      have hal : Below wr.heap.size wr (wr.alloc (.cells #[.string p1, .int .i64 p2] 55)) := (Below.refl _ _).alloc (Nat.le_refl _) _
      obtain ⟨wa, hwa⟩ : ∃ z, wr.alloc (.cells #[.string p1, .int .i64 p2] 55) = z := ⟨_, rfl⟩
      have e3 : wa.heap[wr.heap.size]? = some (.cells #[.string p1, .int .i64 p2] 55 (0, 0)) := by rw [← hwa]; exact heap_alloc_new wr _
      rw [hwa] at hal
      have HWA := Lib.hid hwa; clear hwa
      have E3 := Lib.hid e3; clear e3
      have BA : Hid (Below w.heap.size w wa) := Lib.hid (BW.out.trans (hal.mono BW.out.size))
      have OA := Lib.hid (own_below HO.out hal)
      have LTA : wr.heap.size < wa.heap.size := (Array.getElem?_eq_some_iff.1 E3.out).1
      have SZ : w.heap.size ≤ wr.heap.size := BW.out.size
      obtain ⟨bx, hbx⟩ : ∃ z, wr.heap.size = z := ⟨_, rfl⟩
      rw [hbx] at E3 LTA SZ
      have HBX := Lib.hid hbx
      clear hal HO GR hbx
      go_wp2
      rw [HWA.out, HBX.out]
      clear HWA e0 e1
      go_loopw [8] (fun s6 wr' => ∃ q : Nat, q ≤ m ∧ s6 = .int .i64 q ∧ Hid (∀ j y, j < q → g[j]? = some y → ltK y.1 p1 = true) ∧ Hid (Below wa.heap.size wa wr')) (fun s6 _ => m - (RowKit.intOf s6).toNat)
      case atStart => exact ⟨0, Nat.zero_le _, rfl, Lib.hid (fun j y hj => by omega), Lib.hid (Below.refl _ _)⟩
      case round =>
        obtain ⟨q, hqm, rfl, HB, BQ⟩ := hrel
        have OQ := Lib.hid (own_below OA.out BQ.out)
        have B4 : Hid (Below w.heap.size w wr) := Lib.hid (BA.out.trans (BQ.out.mono BA.out.size))
        have EQ3 : Hid (wr.heap[bx]? = some (.cells #[.string p1, .int .i64 p2] 55 (0, 0))) := Lib.hid ((BQ.out.block _ LTA).trans E3.out)
        have LTQ : bx < wr.heap.size := Nat.lt_of_lt_of_le LTA BQ.out.size
        have f3 : wr.cell? ⟨bx, 0, none⟩ = some (.string p1) := by simp [World.cell?, EQ3.out]
        have f4 : wr.cell? ⟨bx, 1, none⟩ = some (.int .i64 p2) := by simp [World.cell?, EQ3.out]
        by_cases hq : q < m
        · have q1 : (q : Int) < (m : Int) := by omega
          obtain ⟨gb, rfl⟩ : ∃ gb, A' = some ⟨gb, 0, none⟩ := by
            rcases OQ.out.2 with ⟨e, h0⟩ | ⟨gb, cap, cur, e, _⟩
            · obtain ⟨_, e2, _⟩ := Value.slice.inj e
              omega
            · exact ⟨gb, (Value.slice.inj e).1⟩
          have GQ := GRuns.of_own wrd_ln HM.out OQ.out
          obtain ⟨⟨y1, y2⟩, hy⟩ : ∃ y, g[q]? = some y := ⟨_, List.getElem?_eq_getElem (by rw [HM.out]; exact hq)⟩
          obtain ⟨b', o', eb, hgl', hc'⟩ := GQ.cells HM.out (by omega)
          have eb1 := Option.some.inj eb
          simp only [Addr.mk.injEq] at eb1
          obtain ⟨rfl, rfl, _⟩ := eb1
          obtain ⟨f0, f1⟩ := wrd_cells hc' hy
          simp only [Nat.zero_add] at f0 f1
          obtain ⟨le, hle⟩ : ∃ z, ltK y1 p1 = z := ⟨_, rfl⟩
          have HLE := Lib.hid hle; have HY := Lib.hid hy
          unfold ltK at hle
          have hfy := HFG.out _ (List.mem_of_getElem? hy)
          simp only at hfy
          have HFY := Lib.hid hfy
          clear hy hc' GQ eb hfy
          cases le
          · have hins := insW_at (p1, p2) g q HB.out (by rw [HM.out]; exact hqm) (fun y hy => by
              rw [HY.out] at hy
              obtain rfl := Option.some.inj hy
              exact HLE.out)
            have HINS := Lib.hid hins; clear hins
            clear BQ EQ3
            by_cases hsm : y1 = p1
            · subst hsm
              have hnew : Hid (G (k + 1) = g.set q (y1, min 1073741824 (y2 + p2))) := Lib.hid (by rw [HG1.out]; exact HINS.out.1 _ HY.out rfl)
              clear HINS
              have hwp : IntKind.i64.wrap (y2 + p2) = y2 + p2 := by
                have := HFY.out; have := HFP.out
                rw [IntKind.wrap_i64]; omega
              go_wp2
              go_quiet (fail)
              revert nq
              intro nqa
              go_wp2
              go_quiet (fail)
              revert nq
              intro nqb
              go_wp2
              obtain ⟨w5, hw5⟩ : ∃ w5, w5 = (wr.drewN nqa).drewN nqb := ⟨_, rfl⟩
              have h45 : Below wr.heap.size wr w5 := by rw [hw5]; exact below_draws (below_draws (Below.refl _ _) _) _
              have O5 := Lib.hid (own_below OQ.out h45)
              have B5 : Hid (Below w.heap.size w w5) := Lib.hid (B4.out.trans (h45.mono B4.out.size))
              have x2 : w5.cell? ⟨gb, q * 2 + 1, none⟩ = some (.int .i64 y2) := by rw [hw5]; exact f1
              have x5 : w5.cell? ⟨bx, 1, none⟩ = some (.int .i64 p2) := by rw [hw5]; exact f4
              rw [← hw5]
              clear hw5 h45 f0 f1 f3 f4 OQ B4
              go_still_tail 11, (by kernel_rfl)
              change wpList _ _ _ _ _ w5.drew
              obtain ⟨w6, hw6⟩ : ∃ w6, w6 = w5.drew := ⟨_, rfl⟩
              have O6 : Hid (w6.ownsRow w.heap.size 55 2 (.slice (some ⟨gb, 0, none⟩) m c') m (gCells wrdCell g)) := Lib.hid (by rw [hw6]; exact O5.out)
              have B6 : Hid (Below w.heap.size w w6) := Lib.hid (by rw [hw6]; exact B5.out.drew)
              have z2 : w6.cell? ⟨gb, q * 2 + 1, none⟩ = some (.int .i64 y2) := by rw [hw6]; exact x2
              rw [← hw6]
              clear hw6 x2 x5 O5 B5
              have z3 := own_thaw O6.out (q * 2 + 1)
              have hgb : w.heap.size ≤ gb := by
                rcases O6.out.2 with ⟨e, _⟩ | ⟨g', cap, cur, e, hb, _⟩
                · cases e
                · simp only [Value.slice.injEq, Option.some.injEq, Addr.mk.injEq] at e
                  obtain ⟨⟨rfl, _⟩, _⟩ := e
                  exact hb
              have hend : Hid ((w6.setCell ⟨gb, q * 2 + 1, none⟩ (.int .i64 (min 1073741824 (y2 + p2)))).ownsRow w.heap.size 55 2 (.slice (some ⟨gb, 0, none⟩) m c') (G (k + 1)).length (gCells wrdCell (G (k + 1))) ∧ Below w.heap.size w (w6.setCell ⟨gb, q * 2 + 1, none⟩ (.int .i64 (min 1073741824 (y2 + p2))))) := Lib.hid ⟨by
                have h1 := own_store O6.out (q * 2 + 1) (by omega) (.int .i64 (min 1073741824 (y2 + p2)))
                rw [gCells_setW g q (y1, y2) (min 1073741824 (y2 + p2)) HY.out] at h1
                rw [hnew.out, List.length_set, HM.out]
                exact h1, B6.out.setCell hgb _⟩
              go_wp2
              exact ⟨⟨k + 1, by omega, by go_num, Lib.hid hend.out.1, Lib.hid hend.out.2⟩, by simp [RowKit.intOf]; omega⟩
            · have hnew : Hid (G (k + 1) = g.take q ++ [(p1, p2)] ++ g.drop q) := Lib.hid (by
                rw [HG1.out]
                exact HINS.out.2 (fun x hx => by rw [HY.out] at hx; obtain rfl := Option.some.inj hx; exact hsm))
              clear HINS
              have h1 : (y1.toList == p1.toList) = false := by
                rw [beq_eq_false_iff_ne]
                exact fun h => hsm (key_ext (by rw [← Lib.toList_data, ← Lib.toList_data]; exact h))
              clear hsm
              obtain ⟨hmc, hcm⟩ : m ≤ c' ∧ c' ≤ maxLen := by
                rcases OQ.out.2 with ⟨e, _⟩ | ⟨g', cap, cur, e, _, _, h1, h2, _⟩
                · cases e
                · obtain ⟨_, _, rfl⟩ := Value.slice.inj e
                  exact ⟨h1, h2⟩
              unfold maxLen at hcm
              have gR := GRuns.of_own wrd_ln HM.out OQ.out
              have gX1 := Lib.hid (gr_front gR HM.out q (by omega))
              have gX2 := Lib.hid (gr_back gR HM.out q (by omega))
              clear gR OQ
              have r1 : (q : Int) ≤ (c' : Int) := by omega
              have r2 : (m : Int) ≤ (c' : Int) := by omega
              have r3 : (q : Int) ≤ (m : Int) := by omega
              have r4 : ¬ c' = q := by omega
              go_wp2
              go_quiet (fail)
              revert nq
              intro nqa
              go_wp2
              go_quiet (fail)
              revert nq
              intro nqb
              go_wp2
              obtain ⟨w5, hw5⟩ : ∃ w5, w5 = (wr.drewN nqa).drewN nqb := ⟨_, rfl⟩
              have h4D : Below wr.heap.size wr w5.drew := by rw [hw5]; exact (below_draws (below_draws (Below.refl _ _) _) _).drew
              have X1 := Lib.hid (gX1.out.below h4D)
              have X2 := Lib.hid (gX2.out.below h4D)
              have BD : Hid (Below w.heap.size w w5.drew) := Lib.hid (B4.out.trans (h4D.mono B4.out.size))
              have SD : w.heap.size ≤ w5.drew.heap.size := BD.out.size
              have LB : bx < w5.drew.heap.size := Nat.lt_of_lt_of_le LTQ h4D.size
              have x3 : w5.drew.cell? ⟨bx, 0, none⟩ = some (.string p1) := by rw [hw5]; exact f3
              have x4 : w5.drew.cell? ⟨bx, 1, none⟩ = some (.int .i64 p2) := by rw [hw5]; exact f4
              rw [← hw5]
              clear hw5 h4D gX1 gX2 f0 f1 f3 f4 B4 h1
              have CE : Hid (∀ W, Below w5.drew.heap.size w5.drew W → W.cell? ⟨bx, 0, none⟩ = some (.string p1) ∧ W.cell? ⟨bx, 1, none⟩ = some (.int .i64 p2)) := Lib.hid (fun W hb => ⟨(hb.cell (p := ⟨bx, 0, none⟩) LB).trans x3, (hb.cell (p := ⟨bx, 1, none⟩) LB).trans x4⟩)
              obtain ⟨a3, a4⟩ := CE.out _ (bel_one w5.drew (.cells #[] 55))
              have b3 : (w5.alloc (.cells #[] 55)).cell? ⟨bx, 0, none⟩ = some (.string p1) := a3
              have b4 : (w5.alloc (.cells #[] 55)).cell? ⟨bx, 1, none⟩ = some (.int .i64 p2) := a4
              have d3 : (w5.alloc (.cells #[] 55)).drew.cell? ⟨bx, 0, none⟩ = some (.string p1) := a3
              have d4 : (w5.alloc (.cells #[] 55)).drew.cell? ⟨bx, 1, none⟩ = some (.int .i64 p2) := a4
              have hmix : Tryd.prog.follows .mixedOrders = true := by kernel_rfl
              have tq : (g.take q).length = q := by rw [List.length_take, HM.out]; omega
              have dq : (g.drop q).length = m - q := by rw [List.length_drop, HM.out]
              have HTQ := Lib.hid tq; have HDQ := Lib.hid dq; clear tq dq
              have SD5 : w.heap.size ≤ w5.heap.size := SD
              go_region_law (first
                | (refine xstep_words rfl (.tmp 63) (.tmp 66) w.heap.size 0 [] (g.take q) (by first | exact own_litW _ _ SD | exact (xlay_1 _ _ SD (p1, p2)).1 | exact (xlay_2 _ _ SD (p1, p2)).1) (by first | exact X1.out.below (bel_one _ _) | exact X1.out.below (bel_two _ _ _)) rfl rfl (by go_simp) (by go_simp) (by simp <;> omega) (by rw [HTQ.out]; omega) ?_; intro v65 w65 h65 k65 j65; have K65 : Hid (XpK w w5.drew (g.take q) v65 w65) := Lib.hid (by first | exact XpK.next (t := []) rfl rfl SD (bel_one _ _) (fun b hb => by simp [Value.ownBlock] at hb; show w5.heap.size ≤ b; omega) h65 k65 j65 | exact XpK.next (t := []) rfl rfl SD (bel_two _ _ _) (fun b hb => by simp [Value.ownBlock] at hb; show w5.heap.size ≤ b; omega) h65 k65 j65); obtain ⟨k3, k4⟩ := CE.out w65 K65.out.bel; (first | have L65 := Lib.hid (gr_aside (xlay_1 w5.drew _ SD (p1, p2)).2 k65 (by simp [Value.ownBlock])) | have L65 := Lib.hid (gr_aside (xlay_2 w5.drew _ SD (p1, p2)).2 k65 (by simp [Value.ownBlock])) | skip); clear h65 k65 j65)
                | (refine xstep_words rfl (.tmp 67) (.tmp 69) w.heap.size (g.take q).length (gCells wrdCell (g.take q)) [(p1, p2)] (by first | exact K65.out.own | exact K65.out.own.alloc _) (by first | exact wrd_litR _ (p1, p2) | exact L65.out) rfl rfl (by go_simp) (by go_simp) (by first | exact Nat.le_trans SD K65.out.bel.size | exact Nat.le_trans (Nat.le_trans SD K65.out.bel.size) (bel_one _ _).size) (by rw [HTQ.out]; show (q + 1) * 24 ≤ 140737488355328; omega) ?_; intro v68 w68 h68 k68 j68; have K68 : Hid (XpK w w5.drew (g.take q ++ [(p1, p2)]) v68 w68) := Lib.hid (by first | exact XpK.next rfl rfl SD K65.out.bel K65.out.at_ h68 k68 j68 | exact XpK.next rfl rfl SD (K65.out.bel.trans ((bel_one _ _).mono K65.out.bel.size)) K65.out.at_ h68 k68 j68); clear h68 k68 j68)
                | (refine xstep_words rfl (.tmp 70) (.tmp 73) w.heap.size (g.take q ++ [(p1, p2)]).length (gCells wrdCell (g.take q ++ [(p1, p2)])) (g.drop q) (by exact K68.out.own) (by exact (by simpa using X2.out.below K68.out.bel)) rfl rfl (by go_simp) (by go_simp) (by exact Nat.le_trans SD K68.out.bel.size) (by rw [List.length_append, HTQ.out, HDQ.out]; show (q + 1 + (m - q)) * 24 ≤ 140737488355328; omega) ?_; intro v72 w72 h72 k72 j72; have K72 : Hid (XpK w w5.drew (g.take q ++ [(p1, p2)] ++ g.drop q) v72 w72) := Lib.hid (XpK.next rfl rfl SD K68.out.bel K68.out.at_ h72 k72 j72); clear h72 k72 j72))
              all_goals
                go_wp2
                exact ⟨⟨k + 1, by omega, by go_num, Lib.hid (by rw [hnew.out]; exact K72.out.own), Lib.hid (BD.out.trans (K72.out.bel.mono SD))⟩, by simp [RowKit.intOf]; omega⟩
          · go_wp2
            go_quiet (fail)
            go_wp2
            exact ⟨⟨q + 1, by omega, by go_num, Lib.hid (fun j y hj hy => by
              rcases Nat.lt_or_ge j q with h | h
              · exact HB.out j y h hy
              · obtain rfl : j = q := by omega
                rw [HY.out] at hy
                obtain rfl := Option.some.inj hy
                exact HLE.out), Lib.hid (below_draws BQ.out _)⟩, by simp [RowKit.intOf]; omega⟩
        · obtain rfl : q = m := by omega
          have hins := insW_at (p1, p2) g q HB.out (by rw [HM.out]; exact Nat.le_refl _) (fun y hy => by rw [List.getElem?_eq_none (by rw [HM.out]; exact Nat.le_refl _)] at hy; cases hy)
          have hnew : Hid (G (k + 1) = g.take q ++ [(p1, p2)] ++ g.drop q) := Lib.hid (by
            rw [HG1.out]
            exact hins.2 (fun x hx => by rw [List.getElem?_eq_none (by rw [HM.out]; exact Nat.le_refl _)] at hx; cases hx))
          clear hins
          have hq1 : ¬ (q : Int) < (q : Int) := by omega
          have hdr : g.drop q = [] := List.drop_of_length_le (by rw [HM.out]; exact Nat.le_refl _)
          have hvs : (A' = none ∧ q = 0 ∧ c' = 0) ∨ ∃ gb, A' = some ⟨gb, 0, none⟩ ∧ q ≤ c' ∧ c' ≤ maxLen := by
            rcases OQ.out.2 with ⟨e, h0⟩ | ⟨gb, cap, cur, e, _, _, h1, h2, _⟩
            · obtain ⟨e1, e2, e3⟩ := Value.slice.inj e
              exact .inl ⟨e1, e2, e3⟩
            · obtain ⟨e1, _, rfl⟩ := Value.slice.inj e
              exact .inr ⟨gb, e1, h1, h2⟩
          have gR := GRuns.of_own wrd_ln HM.out OQ.out
          have gX1 := Lib.hid (gr_front gR HM.out q (Nat.le_refl _))
          clear gR
          rcases hvs with ⟨rfl, rfl, rfl⟩ | ⟨gb, rfl, hqc, hcm⟩
          · have gX2 : Hid (WRuns wr (.slice none 0 0) (g.drop 0)) := Lib.hid (by rw [hdr]; exact GRuns.nil_ _ _ _)
            clear OQ EQ3 BQ hq1
            go_wp2
            go_quiet (fail)
            revert nq
            intro nqa
            go_wp2
            go_quiet (fail)
            revert nq
            intro nqb
            go_wp2
            obtain ⟨w5, hw5⟩ : ∃ w5, w5 = (wr.drewN nqa).drewN nqb := ⟨_, rfl⟩
            have h4D : Below wr.heap.size wr w5.drew := by rw [hw5]; exact (below_draws (below_draws (Below.refl _ _) _) _).drew
            have X1 := Lib.hid (gX1.out.below h4D)
            have X2 := Lib.hid (gX2.out.below h4D)
            have BD : Hid (Below w.heap.size w w5.drew) := Lib.hid (B4.out.trans (h4D.mono B4.out.size))
            have SD : w.heap.size ≤ w5.drew.heap.size := BD.out.size
            have LB : bx < w5.drew.heap.size := Nat.lt_of_lt_of_le LTQ h4D.size
            have x3 : w5.drew.cell? ⟨bx, 0, none⟩ = some (.string p1) := by rw [hw5]; exact f3
            have x4 : w5.drew.cell? ⟨bx, 1, none⟩ = some (.int .i64 p2) := by rw [hw5]; exact f4
            rw [← hw5]
            clear hw5 h4D gX1 gX2 f3 f4 B4
            have CE : Hid (∀ W, Below w5.drew.heap.size w5.drew W → W.cell? ⟨bx, 0, none⟩ = some (.string p1) ∧ W.cell? ⟨bx, 1, none⟩ = some (.int .i64 p2)) := Lib.hid (fun W hb => ⟨(hb.cell (p := ⟨bx, 0, none⟩) LB).trans x3, (hb.cell (p := ⟨bx, 1, none⟩) LB).trans x4⟩)
            obtain ⟨a3, a4⟩ := CE.out _ (bel_one w5.drew (.cells #[] 55))
            have b3 : (w5.alloc (.cells #[] 55)).cell? ⟨bx, 0, none⟩ = some (.string p1) := a3
            have b4 : (w5.alloc (.cells #[] 55)).cell? ⟨bx, 1, none⟩ = some (.int .i64 p2) := a4
            have d3 : (w5.alloc (.cells #[] 55)).drew.cell? ⟨bx, 0, none⟩ = some (.string p1) := a3
            have d4 : (w5.alloc (.cells #[] 55)).drew.cell? ⟨bx, 1, none⟩ = some (.int .i64 p2) := a4
            have hmix : Tryd.prog.follows .mixedOrders = true := by kernel_rfl
            have tq : (g.take 0).length = 0 := by rw [List.length_take, HM.out]; omega
            have dq : (g.drop 0).length = 0 - 0 := by rw [List.length_drop, HM.out]
            have HTQ := Lib.hid tq; have HDQ := Lib.hid dq; clear tq dq
            have SD5 : w.heap.size ≤ w5.heap.size := SD
            go_region_law (first
              | (refine xstep_words rfl (.tmp 63) (.tmp 66) w.heap.size 0 [] (g.take 0) (by first | exact own_litW _ _ SD | exact (xlay_1 _ _ SD (p1, p2)).1 | exact (xlay_2 _ _ SD (p1, p2)).1) (by first | exact X1.out.below (bel_one _ _) | exact X1.out.below (bel_two _ _ _)) rfl rfl (by go_simp) (by go_simp) (by simp <;> omega) (by rw [HTQ.out]; omega) ?_; intro v65 w65 h65 k65 j65; have K65 : Hid (XpK w w5.drew (g.take 0) v65 w65) := Lib.hid (by first | exact XpK.next (t := []) rfl rfl SD (bel_one _ _) (fun b hb => by simp [Value.ownBlock] at hb; show w5.heap.size ≤ b; omega) h65 k65 j65 | exact XpK.next (t := []) rfl rfl SD (bel_two _ _ _) (fun b hb => by simp [Value.ownBlock] at hb; show w5.heap.size ≤ b; omega) h65 k65 j65); obtain ⟨k3, k4⟩ := CE.out w65 K65.out.bel; (first | have L65 := Lib.hid (gr_aside (xlay_1 w5.drew _ SD (p1, p2)).2 k65 (by simp [Value.ownBlock])) | have L65 := Lib.hid (gr_aside (xlay_2 w5.drew _ SD (p1, p2)).2 k65 (by simp [Value.ownBlock])) | skip); clear h65 k65 j65)
              | (refine xstep_words rfl (.tmp 67) (.tmp 69) w.heap.size (g.take 0).length (gCells wrdCell (g.take 0)) [(p1, p2)] (by first | exact K65.out.own | exact K65.out.own.alloc _) (by first | exact wrd_litR _ (p1, p2) | exact L65.out) rfl rfl (by go_simp) (by go_simp) (by first | exact Nat.le_trans SD K65.out.bel.size | exact Nat.le_trans (Nat.le_trans SD K65.out.bel.size) (bel_one _ _).size) (by rw [HTQ.out]; show (0 + 1) * 24 ≤ 140737488355328; omega) ?_; intro v68 w68 h68 k68 j68; have K68 : Hid (XpK w w5.drew (g.take 0 ++ [(p1, p2)]) v68 w68) := Lib.hid (by first | exact XpK.next rfl rfl SD K65.out.bel K65.out.at_ h68 k68 j68 | exact XpK.next rfl rfl SD (K65.out.bel.trans ((bel_one _ _).mono K65.out.bel.size)) K65.out.at_ h68 k68 j68); clear h68 k68 j68)
              | (refine xstep_words rfl (.tmp 70) (.tmp 73) w.heap.size (g.take 0 ++ [(p1, p2)]).length (gCells wrdCell (g.take 0 ++ [(p1, p2)])) (g.drop 0) (by exact K68.out.own) (by exact (by simpa using X2.out.below K68.out.bel)) rfl rfl (by go_simp) (by go_simp) (by exact Nat.le_trans SD K68.out.bel.size) (by rw [List.length_append, HTQ.out, HDQ.out]; show (0 + 1 + (0 - 0)) * 24 ≤ 140737488355328; omega) ?_; intro v72 w72 h72 k72 j72; have K72 : Hid (XpK w w5.drew (g.take 0 ++ [(p1, p2)] ++ g.drop 0) v72 w72) := Lib.hid (XpK.next rfl rfl SD K68.out.bel K68.out.at_ h72 k72 j72); clear h72 k72 j72))
            all_goals
              go_wp2
              exact ⟨⟨k + 1, by omega, by go_num, Lib.hid (by rw [hnew.out]; exact K72.out.own), Lib.hid (BD.out.trans (K72.out.bel.mono SD))⟩, by simp [RowKit.intOf]; omega⟩
          · unfold maxLen at hcm
            have r1 : (q : Int) ≤ (c' : Int) := by omega
            by_cases hcq : c' = q
            · subst hcq
              have gX2 : Hid (WRuns wr (.slice (some ⟨gb, 0, none⟩) 0 0) (g.drop c')) := Lib.hid (by rw [hdr]; exact gr_none (by simp [maxLen]) (fun h => by cases h))
              clear OQ EQ3 BQ
              go_wp2
              go_quiet (fail)
              revert nq
              intro nqa
              go_wp2
              go_quiet (fail)
              revert nq
              intro nqb
              go_wp2
              obtain ⟨w5, hw5⟩ : ∃ w5, w5 = (wr.drewN nqa).drewN nqb := ⟨_, rfl⟩
              have h4D : Below wr.heap.size wr w5.drew := by rw [hw5]; exact (below_draws (below_draws (Below.refl _ _) _) _).drew
              have X1 := Lib.hid (gX1.out.below h4D)
              have X2 := Lib.hid (gX2.out.below h4D)
              have BD : Hid (Below w.heap.size w w5.drew) := Lib.hid (B4.out.trans (h4D.mono B4.out.size))
              have SD : w.heap.size ≤ w5.drew.heap.size := BD.out.size
              have LB : bx < w5.drew.heap.size := Nat.lt_of_lt_of_le LTQ h4D.size
              have x3 : w5.drew.cell? ⟨bx, 0, none⟩ = some (.string p1) := by rw [hw5]; exact f3
              have x4 : w5.drew.cell? ⟨bx, 1, none⟩ = some (.int .i64 p2) := by rw [hw5]; exact f4
              rw [← hw5]
              clear hw5 h4D gX1 gX2 f3 f4 B4
              have CE : Hid (∀ W, Below w5.drew.heap.size w5.drew W → W.cell? ⟨bx, 0, none⟩ = some (.string p1) ∧ W.cell? ⟨bx, 1, none⟩ = some (.int .i64 p2)) := Lib.hid (fun W hb => ⟨(hb.cell (p := ⟨bx, 0, none⟩) LB).trans x3, (hb.cell (p := ⟨bx, 1, none⟩) LB).trans x4⟩)
              obtain ⟨a3, a4⟩ := CE.out _ (bel_one w5.drew (.cells #[] 55))
              have b3 : (w5.alloc (.cells #[] 55)).cell? ⟨bx, 0, none⟩ = some (.string p1) := a3
              have b4 : (w5.alloc (.cells #[] 55)).cell? ⟨bx, 1, none⟩ = some (.int .i64 p2) := a4
              have d3 : (w5.alloc (.cells #[] 55)).drew.cell? ⟨bx, 0, none⟩ = some (.string p1) := a3
              have d4 : (w5.alloc (.cells #[] 55)).drew.cell? ⟨bx, 1, none⟩ = some (.int .i64 p2) := a4
              have hmix : Tryd.prog.follows .mixedOrders = true := by kernel_rfl
              have tq : (g.take c').length = c' := by rw [List.length_take, HM.out]; omega
              have dq : (g.drop c').length = c' - c' := by rw [List.length_drop, HM.out]
              have HTQ := Lib.hid tq; have HDQ := Lib.hid dq; clear tq dq
              have SD5 : w.heap.size ≤ w5.heap.size := SD
              go_region_law (first
                | (refine xstep_words rfl (.tmp 63) (.tmp 66) w.heap.size 0 [] (g.take c') (by first | exact own_litW _ _ SD | exact (xlay_1 _ _ SD (p1, p2)).1 | exact (xlay_2 _ _ SD (p1, p2)).1) (by first | exact X1.out.below (bel_one _ _) | exact X1.out.below (bel_two _ _ _)) rfl rfl (by go_simp) (by go_simp) (by simp <;> omega) (by rw [HTQ.out]; omega) ?_; intro v65 w65 h65 k65 j65; have K65 : Hid (XpK w w5.drew (g.take c') v65 w65) := Lib.hid (by first | exact XpK.next (t := []) rfl rfl SD (bel_one _ _) (fun b hb => by simp [Value.ownBlock] at hb; show w5.heap.size ≤ b; omega) h65 k65 j65 | exact XpK.next (t := []) rfl rfl SD (bel_two _ _ _) (fun b hb => by simp [Value.ownBlock] at hb; show w5.heap.size ≤ b; omega) h65 k65 j65); obtain ⟨k3, k4⟩ := CE.out w65 K65.out.bel; (first | have L65 := Lib.hid (gr_aside (xlay_1 w5.drew _ SD (p1, p2)).2 k65 (by simp [Value.ownBlock])) | have L65 := Lib.hid (gr_aside (xlay_2 w5.drew _ SD (p1, p2)).2 k65 (by simp [Value.ownBlock])) | skip); clear h65 k65 j65)
                | (refine xstep_words rfl (.tmp 67) (.tmp 69) w.heap.size (g.take c').length (gCells wrdCell (g.take c')) [(p1, p2)] (by first | exact K65.out.own | exact K65.out.own.alloc _) (by first | exact wrd_litR _ (p1, p2) | exact L65.out) rfl rfl (by go_simp) (by go_simp) (by first | exact Nat.le_trans SD K65.out.bel.size | exact Nat.le_trans (Nat.le_trans SD K65.out.bel.size) (bel_one _ _).size) (by rw [HTQ.out]; show (c' + 1) * 24 ≤ 140737488355328; omega) ?_; intro v68 w68 h68 k68 j68; have K68 : Hid (XpK w w5.drew (g.take c' ++ [(p1, p2)]) v68 w68) := Lib.hid (by first | exact XpK.next rfl rfl SD K65.out.bel K65.out.at_ h68 k68 j68 | exact XpK.next rfl rfl SD (K65.out.bel.trans ((bel_one _ _).mono K65.out.bel.size)) K65.out.at_ h68 k68 j68); clear h68 k68 j68)
                | (refine xstep_words rfl (.tmp 70) (.tmp 73) w.heap.size (g.take c' ++ [(p1, p2)]).length (gCells wrdCell (g.take c' ++ [(p1, p2)])) (g.drop c') (by exact K68.out.own) (by exact (by simpa using X2.out.below K68.out.bel)) rfl rfl (by go_simp) (by go_simp) (by exact Nat.le_trans SD K68.out.bel.size) (by rw [List.length_append, HTQ.out, HDQ.out]; show (c' + 1 + (c' - c')) * 24 ≤ 140737488355328; omega) ?_; intro v72 w72 h72 k72 j72; have K72 : Hid (XpK w w5.drew (g.take c' ++ [(p1, p2)] ++ g.drop c') v72 w72) := Lib.hid (XpK.next rfl rfl SD K68.out.bel K68.out.at_ h72 k72 j72); clear h72 k72 j72))
              all_goals
                go_wp2
                exact ⟨⟨k + 1, by omega, by go_num, Lib.hid (by rw [hnew.out]; exact K72.out.own), Lib.hid (BD.out.trans (K72.out.bel.mono SD))⟩, by simp [RowKit.intOf]; omega⟩
            · have gX2 : Hid (WRuns wr (.slice (some ⟨gb, 0 + c' * 0 + q * 2, none⟩) 0 (c' - q)) (g.drop q)) := Lib.hid (by rw [hdr]; exact gr_none (by unfold maxLen; omega) (fun h => by cases h))
              simp only [Nat.zero_add, Nat.mul_zero] at gX2
              clear OQ EQ3 BQ
              go_wp2
              go_quiet (fail)
              revert nq
              intro nqa
              go_wp2
              go_quiet (fail)
              revert nq
              intro nqb
              go_wp2
              obtain ⟨w5, hw5⟩ : ∃ w5, w5 = (wr.drewN nqa).drewN nqb := ⟨_, rfl⟩
              have h4D : Below wr.heap.size wr w5.drew := by rw [hw5]; exact (below_draws (below_draws (Below.refl _ _) _) _).drew
              have X1 := Lib.hid (gX1.out.below h4D)
              have X2 := Lib.hid (gX2.out.below h4D)
              have BD : Hid (Below w.heap.size w w5.drew) := Lib.hid (B4.out.trans (h4D.mono B4.out.size))
              have SD : w.heap.size ≤ w5.drew.heap.size := BD.out.size
              have LB : bx < w5.drew.heap.size := Nat.lt_of_lt_of_le LTQ h4D.size
              have x3 : w5.drew.cell? ⟨bx, 0, none⟩ = some (.string p1) := by rw [hw5]; exact f3
              have x4 : w5.drew.cell? ⟨bx, 1, none⟩ = some (.int .i64 p2) := by rw [hw5]; exact f4
              rw [← hw5]
              clear hw5 h4D gX1 gX2 f3 f4 B4
              have CE : Hid (∀ W, Below w5.drew.heap.size w5.drew W → W.cell? ⟨bx, 0, none⟩ = some (.string p1) ∧ W.cell? ⟨bx, 1, none⟩ = some (.int .i64 p2)) := Lib.hid (fun W hb => ⟨(hb.cell (p := ⟨bx, 0, none⟩) LB).trans x3, (hb.cell (p := ⟨bx, 1, none⟩) LB).trans x4⟩)
              obtain ⟨a3, a4⟩ := CE.out _ (bel_one w5.drew (.cells #[] 55))
              have b3 : (w5.alloc (.cells #[] 55)).cell? ⟨bx, 0, none⟩ = some (.string p1) := a3
              have b4 : (w5.alloc (.cells #[] 55)).cell? ⟨bx, 1, none⟩ = some (.int .i64 p2) := a4
              have d3 : (w5.alloc (.cells #[] 55)).drew.cell? ⟨bx, 0, none⟩ = some (.string p1) := a3
              have d4 : (w5.alloc (.cells #[] 55)).drew.cell? ⟨bx, 1, none⟩ = some (.int .i64 p2) := a4
              have hmix : Tryd.prog.follows .mixedOrders = true := by kernel_rfl
              have tq : (g.take q).length = q := by rw [List.length_take, HM.out]; omega
              have dq : (g.drop q).length = q - q := by rw [List.length_drop, HM.out]
              have HTQ := Lib.hid tq; have HDQ := Lib.hid dq; clear tq dq
              have SD5 : w.heap.size ≤ w5.heap.size := SD
              go_region_law (first
                | (refine xstep_words rfl (.tmp 63) (.tmp 66) w.heap.size 0 [] (g.take q) (by first | exact own_litW _ _ SD | exact (xlay_1 _ _ SD (p1, p2)).1 | exact (xlay_2 _ _ SD (p1, p2)).1) (by first | exact X1.out.below (bel_one _ _) | exact X1.out.below (bel_two _ _ _)) rfl rfl (by go_simp) (by go_simp) (by simp <;> omega) (by rw [HTQ.out]; omega) ?_; intro v65 w65 h65 k65 j65; have K65 : Hid (XpK w w5.drew (g.take q) v65 w65) := Lib.hid (by first | exact XpK.next (t := []) rfl rfl SD (bel_one _ _) (fun b hb => by simp [Value.ownBlock] at hb; show w5.heap.size ≤ b; omega) h65 k65 j65 | exact XpK.next (t := []) rfl rfl SD (bel_two _ _ _) (fun b hb => by simp [Value.ownBlock] at hb; show w5.heap.size ≤ b; omega) h65 k65 j65); obtain ⟨k3, k4⟩ := CE.out w65 K65.out.bel; (first | have L65 := Lib.hid (gr_aside (xlay_1 w5.drew _ SD (p1, p2)).2 k65 (by simp [Value.ownBlock])) | have L65 := Lib.hid (gr_aside (xlay_2 w5.drew _ SD (p1, p2)).2 k65 (by simp [Value.ownBlock])) | skip); clear h65 k65 j65)
                | (refine xstep_words rfl (.tmp 67) (.tmp 69) w.heap.size (g.take q).length (gCells wrdCell (g.take q)) [(p1, p2)] (by first | exact K65.out.own | exact K65.out.own.alloc _) (by first | exact wrd_litR _ (p1, p2) | exact L65.out) rfl rfl (by go_simp) (by go_simp) (by first | exact Nat.le_trans SD K65.out.bel.size | exact Nat.le_trans (Nat.le_trans SD K65.out.bel.size) (bel_one _ _).size) (by rw [HTQ.out]; show (q + 1) * 24 ≤ 140737488355328; omega) ?_; intro v68 w68 h68 k68 j68; have K68 : Hid (XpK w w5.drew (g.take q ++ [(p1, p2)]) v68 w68) := Lib.hid (by first | exact XpK.next rfl rfl SD K65.out.bel K65.out.at_ h68 k68 j68 | exact XpK.next rfl rfl SD (K65.out.bel.trans ((bel_one _ _).mono K65.out.bel.size)) K65.out.at_ h68 k68 j68); clear h68 k68 j68)
                | (refine xstep_words rfl (.tmp 70) (.tmp 73) w.heap.size (g.take q ++ [(p1, p2)]).length (gCells wrdCell (g.take q ++ [(p1, p2)])) (g.drop q) (by exact K68.out.own) (by exact (by simpa using X2.out.below K68.out.bel)) rfl rfl (by go_simp) (by go_simp) (by exact Nat.le_trans SD K68.out.bel.size) (by rw [List.length_append, HTQ.out, HDQ.out]; show (q + 1 + (q - q)) * 24 ≤ 140737488355328; omega) ?_; intro v72 w72 h72 k72 j72; have K72 : Hid (XpK w w5.drew (g.take q ++ [(p1, p2)] ++ g.drop q) v72 w72) := Lib.hid (XpK.next rfl rfl SD K68.out.bel K68.out.at_ h72 k72 j72); clear h72 k72 j72))
              all_goals
                go_wp2
                exact ⟨⟨k + 1, by omega, by go_num, Lib.hid (by rw [hnew.out]; exact K72.out.own), Lib.hid (BD.out.trans (K72.out.bel.mono SD))⟩, by simp [RowKit.intOf]; omega⟩
    · obtain rfl : k = n := by omega
      have hgl := GLN.out k (Nat.le_refl _)
      obtain ⟨g, hg⟩ : ∃ z, G k = z := ⟨_, rfl⟩
      rw [hg] at HO HE HS hgl
      obtain ⟨m, hm⟩ : ∃ z, g.length = z := ⟨_, rfl⟩
      rw [hm] at HO HE hgl
      have GR := Lib.hid (GRuns.of_own wrd_ln hm HO.out)
      obtain ⟨A', c', hv⟩ := GR.out.slice
      rw [hm] at hv
      subst hv
      have hE2 : Hid (er = if 65536 < m then 6 else 0) := Lib.hid (by rw [HE.out, if_pos (by first | rfl | trivial)])
      clear HO hg hm
      by_cases hbig : 65536 < m
      · have hb1 : (65536 : Int) < (m : Int) := by omega
        have hEr : er = 6 := by rw [hE2.out, if_pos hbig]
        subst hEr
        have hYs : Hid (Y = []) := Lib.hid (by rw [HS.out]; simp)
        go_wp2
        go_ret2
        exact ⟨_, rfl, by rw [hYs.out]; exact GRuns.nil_ _ _ _, BW.out⟩
      · have hb1 : ¬ (65536 : Int) < (m : Int) := by omega
        have hEr : er = 0 := by rw [hE2.out, if_neg hbig]
        subst hEr
        have hYs : Hid (Y = g) := Lib.hid (by rw [HS.out]; simp)
        go_wp2
        go_ret2
        exact ⟨_, rfl, by rw [hYs.out]; exact GR.out, BW.out⟩
end Go.Proofs.YtnjhbblhlgpgdaaDoor

/- lexicon.together: words sorted, those of one text as one. -/
namespace Go.Proofs.YtnjhbblhlgpgdaaDoor
open Go.RowKit Go.Shelf Go.Lib
set_option linter.unusedSimpArgs false
set_option linter.unusedVariables false

/-- One word more of sorted ones. -/
theorem tog_step {d : List Wrd} (hd : d.Pairwise (fun x y => ltOf cmpT y x = false)) (hf : frB d) (k : Nat) (x : Wrd) (hx : d[k]? = some x) :
    (nrmW (d.take k) = [] → nrmW (d.take (k + 1)) = [x]) ∧ ∀ i y, (nrmW (d.take k)).length = i + 1 → (nrmW (d.take k))[i]? = some y →
      (y.1 = x.1 → nrmW (d.take (k + 1)) = (nrmW (d.take k)).set i (y.1, min 1073741824 (y.2 + x.2))) ∧ (y.1 ≠ x.1 → nrmW (d.take (k + 1)) = nrmW (d.take k) ++ [x]) := by
  rw [nrmW_take k x hx]
  refine ⟨fun h => by rw [h]; rfl, fun i y hi hy => ?_⟩
  have hft : frB (d.take k) := fun z hz => hf z (List.mem_of_mem_take hz)
  have hs := nrmW_srt hft
  have hkeys := nrmW_keys (d.take k)
  obtain ⟨g, hg⟩ : ∃ g, nrmW (d.take k) = g := ⟨_, rfl⟩
  rw [hg] at hi hy hs hkeys ⊢
  have hle : ∀ z ∈ g, ltK x.1 z.1 = false := fun z hz => by
    obtain ⟨q, hq, e⟩ := hkeys z hz
    obtain ⟨j, hj⟩ := List.getElem?_of_mem hq
    rw [List.getElem?_take] at hj
    split at hj
    · rename_i hjk
      obtain ⟨h1, h1'⟩ := List.getElem?_eq_some_iff.1 hj
      obtain ⟨h2, h2'⟩ := List.getElem?_eq_some_iff.1 hx
      have := List.pairwise_iff_getElem.1 hd j k h1 h2 hjk
      rw [ltOf_cmpT, h1', h2'] at this
      rw [e]; exact this
    · cases hj
  have hsplit : g = g.take i ++ [y] := by
    have h1 : g.take (i + 1) = g := List.take_of_length_le (by omega)
    rw [List.take_add_one, hy] at h1
    exact h1.symm
  have hyx := hle y (List.mem_of_getElem? hy)
  have hlt : ∀ z ∈ g.take i, ltK z.1 x.1 = true := fun z hz => by
    obtain ⟨j, hj⟩ := List.getElem?_of_mem hz
    rw [List.getElem?_take] at hj
    split at hj
    · rename_i hji
      have h1 := srtW_at hs hji hj hy
      rcases ltK_one z.1 x.1 with ⟨h, _, _⟩ | ⟨_, h, _⟩ | ⟨_, _, h⟩
      · exact h
      · rw [hle z (List.mem_of_getElem? hj)] at h; cases h
      · rw [h, hyx] at h1; cases h1
    · cases hj
  have hlen : (g.take i).length = i := by rw [List.length_take]; omega
  have hl := insW_last (g.take i) y x hlt hyx
  rw [← hsplit] at hl
  refine ⟨fun e => ?_, fun e => ?_⟩
  · rw [hl, if_pos e]
    have h2 : g.set i (y.1, min 1073741824 (y.2 + x.2)) = (g.take i ++ [y]).set i (y.1, min 1073741824 (y.2 + x.2)) := by rw [← hsplit]
    rw [h2, List.set_append_right _ _ (by omega), hlen, Nat.sub_self]
    rfl
  · rw [hl, if_neg e]

set_option maxRecDepth 100000 in
set_option maxHeartbeats 16000000 in
theorem xtog_loop (u : Value) (l : List Wrd) (w : World) (hu : WRuns w u l) (hl : l.length ≤ 2000000) (hf : frB l) :
    Calls Tryd.prog 45 #[u] w fun e w' => ∃ v, e = .returned v ∧ WRuns w' v (nrmW l) ∧ Below w.heap.size w w' := by
  obtain ⟨A, c, e⟩ := hu.slice
  subst e
  have hperm : ∀ d : List Wrd, d.Perm l → nrmW d = nrmW l ∧ frB d := fun d hp => ⟨nrmW_perm hf hp, fun z hz => hf z (hp.subset hz)⟩
  obtain ⟨n, hn⟩ : ∃ n, l.length = n := ⟨_, rfl⟩
  rw [hn] at hu hl ⊢
  have cc := xclone_words A n c l w hn hu hl
  have HN := Lib.hid hn; have CC := Lib.hid cc; have HPM := Lib.hid hperm
  have X0 : Hid (n = 0 → nrmW l = []) := Lib.hid (fun h => by rw [List.eq_nil_of_length_eq_zero (hn.trans h)]; rfl)
  obtain ⟨X, hX⟩ : ∃ z, nrmW l = z := ⟨_, rfl⟩
  rw [hX] at HPM X0 ⊢
  clear hn cc hperm hu hf hX
  have CSN := Lib.hid xsort_none
  have eg1 : ∀ args w, (callFunc 70 args).run Tryd.prog w = .ok (.enter 70 args) w := enters_of Tryd.func70 (by kernel_rfl) rfl
  have CS := Lib.hid (fun L n g cap base w hn hown hl hbase => xsort_own 70 cmpT swo_cmpT eg1 tog1_lays L n g cap base w hn hown hl hbase)
  clear eg1
  go_enter Tryd.func45, Tryd.ntmps45
  go_wp2_with fail
  refine CC.out.mono ?_
  rintro e w2 ⟨v, rfl, o2, b2⟩
  rcases o2.2 with ⟨rfl, hn0⟩ | ⟨g, cap, cur, rfl, hb, hh, h1, h2, h3, h4⟩
  · subst hn0
    have hx := X0.out (by first | rfl | trivial)
    have B2 := Lib.hid b2
    clear b2 o2
    go_wp2_with fail
    refine (CSN.out _ _).mono ?_
    rintro e w3 ⟨rfl, rfl⟩
    go_wp2
    go_loopw [4, 14] (fun s4 s14 wr => s4 = .slice none 0 0 ∧ s14 = .int .i64 0 ∧ Hid (Below w.heap.size w wr)) (fun _ _ _ => 0)
    case atStart => exact ⟨rfl, rfl, B2⟩
    case round =>
      obtain ⟨rfl, rfl, BW⟩ := hrel
      go_wp2
      go_ret
      exact ⟨.slice none 0 0, rfl, by rw [hx]; exact GRuns.nil_ _ _ _, BW.out⟩
  · have cs := CS.out l n g cap w.heap.size w2 HN.out o2 hl b2.size
    have CS' := Lib.hid cs
    have B2 := Lib.hid b2
    clear cs o2 b2 hh h1 h2 h3 h4 CS X0
    go_wp2_with fail
    refine CS'.out.mono ?_
    rintro e w3 ⟨rfl, d, hp, hd, r3, b3⟩
    have hdn : d.length = n := by rw [hp.length_eq]; exact HN.out
    obtain ⟨hX, hfd⟩ := HPM.out d hp
    have B3 : Hid (Below w.heap.size w w3) := Lib.hid (B2.out.trans b3)
    have R3 := Lib.hid r3
    have hst : ∀ k x, d[k]? = some x → _ := fun k x hx => tog_step hd hfd k x hx
    obtain ⟨G, hG⟩ : ∃ f, f = fun k => nrmW (d.take k) := ⟨_, rfl⟩
    have gst : ∀ k x, d[k]? = some x → (G k = [] → G (k + 1) = [x]) ∧ ∀ i y, (G k).length = i + 1 → (G k)[i]? = some y →
      (y.1 = x.1 → G (k + 1) = (G k).set i (y.1, min 1073741824 (y.2 + x.2))) ∧ (y.1 ≠ x.1 → G (k + 1) = G k ++ [x]) := by rw [hG]; exact hst
    have gln : ∀ k, k ≤ n → (G k).length ≤ k := fun k hk => by
      rw [hG]; have := nrmW_len (d.take k); rw [List.length_take] at this; simp only; omega
    have gfr : ∀ k, frB (G k) := fun k => by rw [hG]; exact nrmW_frB (fun z hz => hfd z (List.mem_of_mem_take hz))
    have g0 : G 0 = [] := by rw [hG]; rfl
    have gX : Hid (G n = X) := Lib.hid (by rw [hG]; simp only; rw [← hX, ← hdn, List.take_length])
    have HDN := Lib.hid hdn; have GST := Lib.hid gst; have GLN := Lib.hid gln; have GFR := Lib.hid gfr; have HFD := Lib.hid hfd
    clear hst hG gst gln gfr hX hfd hp hd r3 b3 hdn CS' B2 CC HPM
    go_wp2
    go_loopw [4, 14] (fun s4 s14 wr => ∃ k : Nat, k ≤ n ∧ s14 = .int .i64 k ∧ Hid (wr.ownsRow w3.heap.size 55 2 s4 (G k).length (gCells wrdCell (G k))) ∧ Hid (Below w3.heap.size w3 wr)) (fun _ s14 _ => n - (RowKit.intOf s14).toNat)
    case atStart => exact ⟨0, Nat.zero_le _, rfl, Lib.hid (by rw [g0]; exact World.ownsRow_nil _ _ _ _), Lib.hid (Below.refl _ _)⟩
    case round =>
      obtain ⟨k, hkn, rfl, HO, BW⟩ := hrel
      have hgl := GLN.out k hkn
      by_cases hk : k < n
      · have k1 : (k : Int) < (n : Int) := by omega
        obtain ⟨⟨p1, p2⟩, hp⟩ : ∃ p, d[k]? = some p := ⟨_, List.getElem?_eq_getElem (by rw [HDN.out]; exact hk)⟩
        obtain ⟨b, o, eb0, hblt, hc⟩ := (R3.out.below BW.out).cells HDN.out (by omega)
        have eb1 := Option.some.inj eb0
        simp only [Addr.mk.injEq] at eb1
        obtain ⟨rfl, rfl, _⟩ := eb1
        obtain ⟨e0, e1⟩ := wrd_cells hc hp
        simp only [Nat.zero_add] at e0 e1
        have hg1 := GST.out k _ hp
        have hfp := HFD.out _ (List.mem_of_getElem? hp)
        have hfg := GFR.out k
        simp only at hfp
        obtain ⟨gg, hg⟩ : ∃ g, G k = g := ⟨_, rfl⟩
        rw [hg] at HO hg1 hgl hfg
        have HG1 := Lib.hid hg1; have HFG := Lib.hid hfg; have HFP := Lib.hid hfp
        clear hg hg1 hc hp hfg hfp eb0
        obtain ⟨m, hm⟩ : ∃ m, gg.length = m := ⟨_, rfl⟩
        rw [hm] at HO hgl
        have HM := Lib.hid hm; clear hm
        have GR := Lib.hid (GRuns.of_own wrd_ln HM.out HO.out)
        obtain ⟨A', c', hv⟩ := GR.out.slice
        rw [HM.out] at hv
        subst hv
        have hal : Below wr.heap.size wr (wr.alloc (.cells #[.string p1, .int .i64 p2] 55)) := bel_one _ _
        obtain ⟨wa, hwa⟩ : ∃ z, wr.alloc (.cells #[.string p1, .int .i64 p2] 55) = z := ⟨_, rfl⟩
        obtain ⟨i0, i1⟩ := cells2_new wr (.string p1) (.int .i64 p2) 55
        rw [hwa] at hal i0 i1
        have HWA := Lib.hid hwa
        have BA : Hid (Below w3.heap.size w3 wa) := Lib.hid (BW.out.trans (hal.mono BW.out.size))
        have OA := Lib.hid (own_below HO.out hal)
        have hbxl : wr.heap.size < wa.heap.size := by rw [← hwa]; simp
        obtain ⟨bx, hbx⟩ : ∃ z, wr.heap.size = z := ⟨_, rfl⟩
        rw [hbx] at i0 i1 hbxl
        have HBX := Lib.hid hbx
        have SZ3 : w3.heap.size ≤ wa.heap.size := BA.out.size
        clear hwa hbx hal HO GR
        -- the append, wherever it is wanted
        have hap := fun (q : Nat) => append_wrd (wa.drewN q) w3.heap.size (.slice A' m c') m gg (own_below OA.out (below_draws (Below.refl _ _) q)) (p1, p2) SZ3 (by omega)
        have HAP := Lib.hid hap; clear hap
        have hw1 : IntKind.i64.wrap ((m : Int) - 1) = (m : Int) - 1 := by rw [IntKind.wrap_i64]; omega
        rcases Nat.eq_zero_or_pos m with h0 | h0
        · subst h0
          have hgn : gg = [] := List.eq_nil_of_length_eq_zero HM.out
          have hnew : Hid (G (k + 1) = gg ++ [(p1, p2)]) := Lib.hid (by rw [HG1.out.1 hgn, hgn]; rfl)
          clear HG1 HFG
          go_wp2
          rw [HWA.out, HBX.out]
          go_quiet (fail)
          obtain ⟨v4, w4, hr4, o4, b4⟩ := HAP.out nq
          have HR4 := Lib.hid hr4
          have O4 : Hid (w4.ownsRow w3.heap.size 55 2 v4 (G (k + 1)).length (gCells wrdCell (G (k + 1)))) := Lib.hid (by rw [hnew.out, List.length_append, HM.out]; exact o4)
          have B4 : Hid (Below w3.heap.size w3 w4) := Lib.hid ((below_draws BA.out nq).trans b4)
          clear hr4 o4 b4
          go_wp2_with (at_builtin; refine wpList_append_run (.tmp 33) (.tmp 35) 22 _ _ _ _ HR4.out rfl rfl rfl rfl ?_)
          exact ⟨⟨k + 1, by omega, by go_num, O4, B4⟩, by simp [RowKit.intOf]; omega⟩
        · obtain ⟨i, hi⟩ : ∃ i, m = i + 1 := ⟨m - 1, by omega⟩
          have EI := Lib.hid hi
          obtain ⟨⟨y1, y2⟩, hy⟩ : ∃ y, gg[i]? = some y := ⟨_, List.getElem?_eq_getElem (by rw [HM.out]; omega)⟩
          have hgq := GRuns.of_own wrd_ln HM.out OA.out
          obtain ⟨gb, rfl⟩ : ∃ gb, A' = some ⟨gb, 0, none⟩ := by
            rcases OA.out.2 with ⟨e, h0⟩ | ⟨gb, cap, cur, e, _⟩
            · obtain ⟨_, e2, _⟩ := Value.slice.inj e
              omega
            · exact ⟨gb, (Value.slice.inj e).1⟩
          obtain ⟨b', o', eb, hgl', hc'⟩ := hgq.cells HM.out (by omega)
          have eb1 := Option.some.inj eb
          simp only [Addr.mk.injEq] at eb1
          obtain ⟨rfl, rfl, _⟩ := eb1
          obtain ⟨f0, f1⟩ := wrd_cells hc' hy
          simp only [Nat.zero_add] at f0 f1
          obtain ⟨hs1, hs2⟩ := HG1.out.2 i _ (HM.out.trans hi) hy
          have hfy := HFG.out _ (List.mem_of_getElem? hy)
          simp only at hs1 hs2 hfy
          have HY := Lib.hid hy; have HS1 := Lib.hid hs1; have HS2 := Lib.hid hs2; have HFY := Lib.hid hfy
          clear hgq hc' hy eb hs1 hs2 hfy HG1 HFG hw1
          have hwr : IntKind.i64.wrap ((m : Int) - 1) = (i : Int) := by rw [IntKind.wrap_i64]; omega
          have i2 : ¬ (i : Int) < 0 := by omega
          have i3 : (i : Int) < (m : Int) := by omega
          clear hi
          have i4 : (0 : Int) ≤ (i : Int) := by omega
          by_cases hsm : y1 = p1
          · subst hsm
            have hnew : Hid (G (k + 1) = gg.set i (y1, min 1073741824 (y2 + p2))) := Lib.hid (HS1.out rfl)
            have hwA : IntKind.i64.wrap (1073741824 - y2) = 1073741824 - y2 := by
              have := HFY.out
              rw [IntKind.wrap_i64]; omega
            have hwB : IntKind.i64.wrap (y2 + min p2 (1073741824 - y2)) = min 1073741824 (y2 + p2) := by
              have := HFY.out; have := HFP.out
              rw [IntKind.wrap_i64]; omega
            clear HS1 HS2
            go_wp2
            rw [HWA.out, HBX.out]
            clear e0 e1
            go_quiet (fail)
            go_wp2
            obtain ⟨w5, hw5⟩ : ∃ w5, w5 = wa.drewN nq := ⟨_, rfl⟩
            have h45 : Below wa.heap.size wa w5 := by rw [hw5]; exact below_draws (Below.refl _ _) _
            have O5 := Lib.hid (own_below OA.out h45)
            have B5 : Hid (Below w3.heap.size w3 w5) := Lib.hid (BA.out.trans (h45.mono BA.out.size))
            have x2 : w5.cell? ⟨gb, i * 2 + 1, none⟩ = some (.int .i64 y2) := by rw [hw5]; exact f1
            have x5 : w5.cell? ⟨bx, 1, none⟩ = some (.int .i64 p2) := by rw [hw5]; exact i1
            rw [← hw5]
            clear hw5 h45 f0 f1 i0 i1 OA BA HAP
            go_still_tail 15, (by kernel_rfl)
            change wpList _ _ _ _ _ w5.drew
            obtain ⟨w6, hw6⟩ : ∃ w6, w6 = w5.drew := ⟨_, rfl⟩
            have O6 : Hid (w6.ownsRow w3.heap.size 55 2 (.slice (some ⟨gb, 0, none⟩) m c') m (gCells wrdCell gg)) := Lib.hid (by rw [hw6]; exact O5.out)
            have B6 : Hid (Below w3.heap.size w3 w6) := Lib.hid (by rw [hw6]; exact B5.out.drew)
            have z2 : w6.cell? ⟨gb, i * 2 + 1, none⟩ = some (.int .i64 y2) := by rw [hw6]; exact x2
            rw [← hw6]
            clear hw6 x2 x5 O5 B5
            have z3 := own_thaw O6.out (i * 2 + 1)
            have hgb := own_base O6.out
            have hend : Hid ((w6.setCell ⟨gb, i * 2 + 1, none⟩ (.int .i64 (min 1073741824 (y2 + p2)))).ownsRow w3.heap.size 55 2 (.slice (some ⟨gb, 0, none⟩) m c') (G (k + 1)).length (gCells wrdCell (G (k + 1))) ∧ Below w3.heap.size w3 (w6.setCell ⟨gb, i * 2 + 1, none⟩ (.int .i64 (min 1073741824 (y2 + p2))))) := Lib.hid ⟨by
              have h1 := own_store O6.out (i * 2 + 1) (by have := EI.out; omega) (.int .i64 (min 1073741824 (y2 + p2)))
              rw [gCells_setW gg i (y1, y2) (min 1073741824 (y2 + p2)) HY.out] at h1
              rw [hnew.out, List.length_set, HM.out]
              exact h1, B6.out.setCell hgb _⟩
            go_wp2
            exact ⟨⟨k + 1, by omega, by go_num, Lib.hid hend.out.1, Lib.hid hend.out.2⟩, by simp [RowKit.intOf]; omega⟩
          · have hnew : Hid (G (k + 1) = gg ++ [(p1, p2)]) := Lib.hid (HS2.out hsm)
            have h1 : (y1.toList == p1.toList) = false := by
              rw [beq_eq_false_iff_ne]
              exact fun h => hsm (key_ext (by rw [← Lib.toList_data, ← Lib.toList_data]; exact h))
            clear HS1 HS2 hsm
            go_wp2
            rw [HWA.out, HBX.out]
            clear e0 e1
            go_quiet (fail)
            obtain ⟨v4, w4, hr4, o4, b4⟩ := HAP.out nq
            have HR4 := Lib.hid hr4
            have O4 : Hid (w4.ownsRow w3.heap.size 55 2 v4 (G (k + 1)).length (gCells wrdCell (G (k + 1)))) := Lib.hid (by rw [hnew.out, List.length_append, HM.out]; exact o4)
            have B4 : Hid (Below w3.heap.size w3 w4) := Lib.hid ((below_draws BA.out nq).trans b4)
            clear hr4 o4 b4
            go_wp2_with (at_builtin; refine wpList_append_run (.tmp 33) (.tmp 35) 22 _ _ _ _ HR4.out rfl rfl rfl rfl ?_)
            exact ⟨⟨k + 1, by omega, by go_num, O4, B4⟩, by simp [RowKit.intOf]; omega⟩
      · obtain rfl : k = n := by omega
        have hk2 : ¬ (k : Int) < (k : Int) := by omega
        have hln : ∃ m, (G k).length = m := ⟨_, rfl⟩
        obtain ⟨m, hm⟩ := hln
        rw [hm] at HO
        have GR := Lib.hid (GRuns.of_own wrd_ln hm HO.out)
        rw [gX.out] at GR
        have BE : Hid (Below w.heap.size w wr) := Lib.hid (B3.out.trans (BW.out.mono B3.out.size))
        clear HO hm
        go_wp2
        go_ret
        exact ⟨_, rfl, GR.out, BE.out⟩
end Go.Proofs.YtnjhbblhlgpgdaaDoor

