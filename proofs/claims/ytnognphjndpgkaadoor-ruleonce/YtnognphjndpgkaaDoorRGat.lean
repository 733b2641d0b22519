/- errataref07.Normal: rules, each once, in order, with the least cost. -/
import Derived.Test.YtnognphjndpgkaaDoorPk7
import Derived.Test.YtnognphjndpgkaaDoorPk10
import Derived.Test.YtnognphjndpgkaaDoorPk8
namespace Go.Proofs.YtnognphjndpgkaaDoor
open Go.RowKit Go.Shelf
set_option linter.unusedSimpArgs false
set_option linter.unusedVariables false

theorem nrm_take {l : List Blk} (k : Nat) (x : Blk) (h : l[k]? = some x) : nrm (l.take (k + 1)) = insR x (nrm (l.take k)) := by
  rw [List.take_add_one, h]; exact nrm_snoc _ _
theorem insR_at (b : Blk) (out : List Blk) (k : Nat) (h1 : ∀ j y, j < k → out[j]? = some y → lessB y b = true) (h2 : k ≤ out.length) (h3 : ∀ y, out[k]? = some y → lessB y b = false) :
    (∀ x, out[k]? = some x → sameS x b → insR b out = out.set k (x.1, x.2.1, min x.2.2 b.2.2)) ∧ ((∀ x, out[k]? = some x → ¬ sameS x b) → insR b out = out.take k ++ [b] ++ out.drop k) := by
  induction out generalizing k with
  | nil =>
    obtain rfl : k = 0 := by simpa using h2
    refine ⟨fun x hx => by simp at hx, fun _ => by simp [insR]⟩
  | cons a out ih =>
    cases k with
    | zero =>
      have ha := h3 a (by simp)
      have ha' : ¬ lessB a b = true := by rw [ha]; simp
      refine ⟨fun x hx hs => ?_, fun hn => ?_⟩
      · obtain rfl : a = x := by simpa using hx
        rw [insR, if_neg ha', if_pos hs]; rfl
      · rw [insR, if_neg ha', if_neg (hn a (by simp))]; rfl
    | succ k =>
      have ha := h1 0 a (by omega) (by simp)
      obtain ⟨i1, i2⟩ := ih k (fun j y hj hy => h1 (j + 1) y (by omega) (by simpa using hy)) (by simpa using h2) (fun y hy => h3 y (by simpa using hy))
      refine ⟨fun x hx hs => ?_, fun hn => ?_⟩
      · rw [insR, if_pos ha, i1 x (by simpa using hx) hs]; rfl
      · rw [insR, if_pos ha, i2 (fun x hx => hn x (by simpa using hx))]; simp
/-- The ways in which two literals come to lie. -/
theorem rlay_1 (D : World) (b : Nat) (hb : b ≤ D.heap.size) (x : Blk) : ((D.alloc (.cells #[] 24)).alloc (.cells #[.string x.1, .string x.2.1, .int .i64 x.2.2] 24)).ownsRow b 24 3 (.slice (some ⟨D.heap.size, 0, none⟩) 0 0) 0 [] ∧
    GRuns blkCell 3 ((D.alloc (.cells #[] 24)).alloc (.cells #[.string x.1, .string x.2.1, .int .i64 x.2.2] 24)) (.slice (some ⟨D.heap.size + 1, 0, none⟩) 1 1) [x] := by
  have h := rule_litR (D.alloc (.cells #[] 24)) x
  rw [World.size_alloc] at h
  exact ⟨(own_litR D b hb).alloc _, h⟩
theorem rlay_2 (D : World) (b : Nat) (hb : b ≤ D.heap.size) (x : Blk) : ((D.alloc (.cells #[.string x.1, .string x.2.1, .int .i64 x.2.2] 24)).alloc (.cells #[] 24)).ownsRow b 24 3 (.slice (some ⟨D.heap.size + 1, 0, none⟩) 0 0) 0 [] ∧
    GRuns blkCell 3 ((D.alloc (.cells #[.string x.1, .string x.2.1, .int .i64 x.2.2] 24)).alloc (.cells #[] 24)) (.slice (some ⟨D.heap.size, 0, none⟩) 1 1) [x] := by
  have h := own_litR (D.alloc (.cells #[.string x.1, .string x.2.1, .int .i64 x.2.2] 24)) b (by simp; omega)
  rw [World.size_alloc] at h
  exact ⟨h, (rule_litR D x).below ((Below.refl _ _).alloc (Nat.le_refl _) _)⟩
/-- What is known behind the first append, the second, the third. -/
structure RpK (w D : World) (t : List Blk) (v : Value) (W' : World) : Prop where
  own : W'.ownsRow w.heap.size 24 3 v t.length (gCells blkCell t)
  bel : Below D.heap.size D W'
  at_ : ∀ b, v.ownBlock = some b → D.heap.size ≤ b
/-- One append more, told in one word. -/
theorem RpK.next {w D W W' : World} {t ys : List Blk} {v v' : Value} {n : Nat} {xs : List Value} (hn : n = t.length) (hxs : xs = gCells blkCell t) (hD : w.heap.size ≤ D.heap.size) (hbW : Below D.heap.size D W) (hv : ∀ b, v.ownBlock = some b → D.heap.size ≤ b)
    (h1 : W'.ownsRow w.heap.size 24 3 v' (n + ys.length) (xs ++ gCells blkCell ys)) (h2 : W.grownBy W' v.ownBlock) (h3 : v'.ownBlock = v.ownBlock ∨ v'.ownBlock = some W.heap.size) : RpK w D (t ++ ys) v' W' := by
  subst hn hxs
  refine ⟨by rw [List.length_append, gCells_append]; exact h1, hbW.grown h2 hbW.size (fun b hb => hv b hb), fun b hb => ?_⟩
  rcases h3 with e | e
  · rw [e] at hb; exact hv b hb
  · rw [e] at hb
    have := hbW.size
    obtain rfl : W.heap.size = b := by simpa using hb
    exact this

set_option maxRecDepth 100000 in
set_option maxHeartbeats 8000000 in
theorem refNormal_any (u : Value) (l : List Blk) (w : World) (hu : BRuns w u l) (hl : l.length ≤ 1000000) (hz : ∀ b ∈ l, b.1.size ≤ 2000000 ∧ b.2.1.size ≤ 2000000) :
    Calls Tryd.prog 17 #[u] w fun e w' => ∃ v, e = .returned (.tuple #[v, .int .i64 (norE l)]) ∧ BRuns w' v (norS l) ∧ Below w.heap.size w w' := by
  obtain ⟨A, c, e⟩ := hu.slice
  subst e
  have ca := refAll_any (.slice A l.length c) l w hu (by omega) hz
  have HU := Lib.hid hu; clear hu
  have hE : norE l = if rall l = 0 then (if 4096 < (nrm l).length then 6 else 0) else rall l := rfl
  have hS : norS l = if norE l = 0 then nrm l else [] := rfl
  have hfin : nrm l = nrm (l.take l.length) := by rw [List.take_length]
  rw [hfin] at hE hS
  clear hfin
  obtain ⟨n, hn⟩ : ∃ n, l.length = n := ⟨_, rfl⟩
  rw [hn] at hl HU ca hE hS ⊢
  have HN := Lib.hid hn; clear hn hz
  obtain ⟨G, hG⟩ : ∃ f, f = fun k => nrm (l.take k) := ⟨_, rfl⟩
  have gst : ∀ k x, l[k]? = some x → G (k + 1) = insR x (G k) := fun k x hx => by rw [hG]; exact nrm_take k x hx
  have gln : ∀ k, k ≤ n → (G k).length ≤ k := fun k hk => by
    rw [hG]; have := nrm_len (l.take k); rw [List.length_take] at this; simp only; omega
  have g0 : G 0 = [] := by rw [hG]; rfl
  have hgo : nrm (l.take n) = G n := by rw [hG]
  rw [hgo] at hE hS
  clear hgo hG
  obtain ⟨ra, hra⟩ : ∃ z, rall l = z := ⟨_, rfl⟩
  obtain ⟨er, her⟩ : ∃ z, norE l = z := ⟨_, rfl⟩
  obtain ⟨Y, hY⟩ : ∃ z, norS l = z := ⟨_, rfl⟩
  rw [her] at hE hS ⊢
  rw [hY] at hS ⊢
  rw [hra] at hE ca
  have GST := Lib.hid gst; have GLN := Lib.hid gln; have HE := Lib.hid hE; have HS := Lib.hid hS; have CA := Lib.hid ca
  clear gst gln hE hS ca hra her hY
  have CL := Lib.hid refLess7_any
  go_enter Tryd.func17, Tryd.ntmps17
  go_wp2_with fail
  refine CA.out.mono ?_
  rintro e w1 ⟨rfl, b1⟩
  have B1 := Lib.hid b1; clear b1
  by_cases h00 : ra = 0
  rotate_left
  · have h00' : (ra == 0) = false := by simpa using h00
    have hEr : er = ra := by rw [HE.out, if_neg h00]
    subst hEr
    have hYs : Hid (Y = []) := Lib.hid (by rw [HS.out, if_neg h00])
    go_wp2
    go_ret2
    exact ⟨_, rfl, by rw [hYs.out]; exact GRuns.nil_ _ _ _, B1.out⟩
  subst h00
  go_wp2
  go_loopw [5, 16] (fun s3 s9 wr => ∃ k : Nat, k ≤ n ∧ s9 = .int .i64 k ∧ Hid (wr.ownsRow w.heap.size 24 3 s3 (G k).length (gCells blkCell (G k))) ∧ Hid (Below w.heap.size w wr)) (fun _ s9 _ => n - (RowKit.intOf s9).toNat)
  case atStart => exact ⟨0, Nat.zero_le _, rfl, Lib.hid (by rw [g0]; exact World.ownsRow_nil _ _ _ _), B1⟩
  case round =>
    obtain ⟨k, hkn, rfl, HO, BW⟩ := hrel
    by_cases hk : k < n
    · have k1 : (k : Int) < (n : Int) := by omega
      obtain ⟨⟨p1, p2, p3⟩, hp⟩ : ∃ p, l[k]? = some p := ⟨_, List.getElem?_eq_getElem (by rw [HN.out]; exact hk)⟩
      obtain ⟨b, o, rfl, hblt, hc⟩ := (HU.out.below BW.out).cells HN.out (by omega)
      obtain ⟨e0, e1, e2⟩ := blk_cells hc hp
      simp only at e0 e1 e2
      have hg1 := GST.out k _ hp
      have hgl := GLN.out k hkn
      obtain ⟨g, hg⟩ : ∃ g, G k = g := ⟨_, rfl⟩
      rw [hg] at HO hg1 hgl
      have HG1 := Lib.hid hg1
      clear hg hg1 hc hp
      obtain ⟨m, hm⟩ : ∃ m, g.length = m := ⟨_, rfl⟩
      rw [hm] at HO hgl
      have HM := Lib.hid hm; clear hm
      have GR := Lib.hid (GRuns.of_own rl_ln HM.out HO.out)
      obtain ⟨A', c', hv⟩ := GR.out.slice
      rw [HM.out] at hv
      subst hv
      have hal : Below wr.heap.size wr (wr.alloc (.cells #[.string p1, .string p2, .int .i64 p3] 24)) := (Below.refl _ _).alloc (Nat.le_refl _) _
      obtain ⟨wa, hwa⟩ : ∃ z, wr.alloc (.cells #[.string p1, .string p2, .int .i64 p3] 24) = z := ⟨_, rfl⟩
      have e3 : wa.heap[wr.heap.size]? = some (.cells #[.string p1, .string p2, .int .i64 p3] 24 (0, 0)) := by rw [← hwa]; exact heap_alloc_new wr _
      rw [hwa] at hal
      have HWA := Lib.hid hwa; clear hwa
      have E3 := Lib.hid e3; clear e3
      have BA : Hid (Below w.heap.size w wa) := Lib.hid (BW.out.trans (hal.mono BW.out.size))
      have OA := Lib.hid (own_below HO.out hal)
      have LTA : wr.heap.size < wa.heap.size := (Array.getElem?_eq_some_iff.1 E3.out).1
      have SZ : w.heap.size ≤ wr.heap.size := BW.out.size
      obtain ⟨bx, hbx⟩ : ∃ z, wr.heap.size = z := ⟨_, rfl⟩
      rw [hbx] at E3 LTA SZ
      have HBX := Lib.hid hbx
      clear hal HO GR hbx
      go_wp2
      rw [HWA.out, HBX.out]
      clear HWA e0 e1 e2
      go_loopw [8] (fun s6 wr' => ∃ q : Nat, q ≤ m ∧ s6 = .int .i64 q ∧ Hid (∀ j y, j < q → g[j]? = some y → lessB y (p1, p2, p3) = true) ∧ Hid (Below wa.heap.size wa wr')) (fun s6 _ => m - (RowKit.intOf s6).toNat)
      case atStart => exact ⟨0, Nat.zero_le _, rfl, Lib.hid (fun j y hj => by omega), Lib.hid (Below.refl _ _)⟩
      case round =>
        obtain ⟨q, hqm, rfl, HB, BQ⟩ := hrel
        have OQ := Lib.hid (own_below OA.out BQ.out)
        have Bwr : Hid (Below w.heap.size w wr) := Lib.hid (BA.out.trans (BQ.out.mono BA.out.size))
        have EQ3 : Hid (wr.heap[bx]? = some (.cells #[.string p1, .string p2, .int .i64 p3] 24 (0, 0))) := Lib.hid ((BQ.out.block _ LTA).trans E3.out)
        have LTQ : bx < wr.heap.size := Nat.lt_of_lt_of_le LTA BQ.out.size
        by_cases hq : q < m
        · have q1 : (q : Int) < (m : Int) := by omega
          obtain ⟨gb, rfl⟩ : ∃ gb, A' = some ⟨gb, 0, none⟩ := by
            rcases OQ.out.2 with ⟨e, h0⟩ | ⟨gb, cap, cur, e, _⟩
            · obtain ⟨_, e2, _⟩ := Value.slice.inj e
              omega
            · exact ⟨gb, (Value.slice.inj e).1⟩
          have GQ := GRuns.of_own rl_ln HM.out OQ.out
          obtain ⟨⟨y1, y2, y3⟩, hy⟩ : ∃ y, g[q]? = some y := ⟨_, List.getElem?_eq_getElem (by rw [HM.out]; exact hq)⟩
          obtain ⟨b', o', eb, hgl', hc'⟩ := GQ.cells HM.out (by omega)
          have eb1 := Option.some.inj eb
          simp only [Addr.mk.injEq] at eb1
          obtain ⟨rfl, rfl, _⟩ := eb1
          obtain ⟨f0, f1, f2⟩ := blk_cells hc' hy
          simp only [Nat.zero_add] at f0 f1 f2
          have f3 : wr.cell? ⟨bx, 0, none⟩ = some (.string p1) := by simp [World.cell?, EQ3.out]
          have f4 : wr.cell? ⟨bx, 1, none⟩ = some (.string p2) := by simp [World.cell?, EQ3.out]
          have f5 : wr.cell? ⟨bx, 2, none⟩ = some (.int .i64 p3) := by simp [World.cell?, EQ3.out]
          have c5 := fun w => CL.out y1 y2 p1 p2 y3 p3 w
          obtain ⟨le, hle⟩ : ∃ z, lessB (y1, y2, y3) (p1, p2, p3) = z := ⟨_, rfl⟩
          simp only [hle] at c5
          have C := Lib.hid c5; have HLE := Lib.hid hle; have HY := Lib.hid hy
          clear c5 hle hy hc' GQ eb
          have KD : Hid (KTwo wa gb (q * 3) bx 0 (y1, y2, y3) (p1, p2, p3) wr.drew) := Lib.hid ⟨f0, f1, f2, f3, f4, f5, hgl', LTQ, BQ.out.drew⟩
          go_wp2
          go_region_held3 (fun w' => w'.cell? ⟨gb, q * 3, none⟩ = some (.string y1) ∧ w'.cell? ⟨gb, q * 3 + 1, none⟩ = some (.string y2) ∧ w'.cell? ⟨gb, q * 3 + 2, none⟩ = some (.int .i64 y3) ∧ w'.cell? ⟨bx, 0, none⟩ = some (.string p1) ∧ w'.cell? ⟨bx, 1, none⟩ = some (.string p2) ∧ w'.cell? ⟨bx, 2, none⟩ = some (.int .i64 p3) ∧ Hid (KTwo wa gb (q * 3) bx 0 (y1, y2, y3) (p1, p2, p3) w'))
            (first | exact ⟨f0, f1, f2, f3, f4, f5, KD⟩ | exact ⟨HKn.out.a0, HKn.out.a1, HKn.out.a2, HKn.out.b0, HKn.out.b1, HKn.out.b2, HKn⟩ | go_keep)
            (first
              | (go_at_call 15; refine (C.out _).mono ?_; rintro e w4 ⟨rfl, hb4⟩; have HKn := Lib.hid ((by assumption : Hid (KTwo wa gb (q * 3) bx 0 (y1, y2, y3) (p1, p2, p3) _)).out.step hb4); clear hb4))
          rename_i hHeld
          clear hHeld f0 f1 f2 f3 f4 f5
          cases le
          · have O4 := Lib.hid (own_below OA.out HKn.out.bel)
            have B4 : Hid (Below w.heap.size w w4) := Lib.hid (BA.out.trans (HKn.out.bel.mono BA.out.size))
            have hins := insR_at (p1, p2, p3) g q HB.out (by rw [HM.out]; exact hqm) (fun y hy => by
              rw [HY.out] at hy
              obtain rfl := Option.some.inj hy
              exact HLE.out)
            have HINS := Lib.hid hins; clear hins
            have f0 := HKn.out.a0; have f1 := HKn.out.a1; have f2 := HKn.out.a2; have f3 := HKn.out.b0; have f4 := HKn.out.b1; have f5 := HKn.out.b2
            simp only [Nat.zero_add] at f0 f1 f2 f3 f4 f5
            clear BQ OQ EQ3 C KD
            by_cases hsm : sameS (y1, y2, y3) (p1, p2, p3)
            · obtain ⟨h1, h2⟩ := hsm
              simp only at h1 h2
              subst h1 h2
              have hnew : Hid (G (k + 1) = g.set q (y1, y2, min y3 p3)) := Lib.hid (by rw [HG1.out]; exact HINS.out.1 _ HY.out ⟨rfl, rfl⟩)
              clear HINS
              go_wp2
              go_quiet (fail)
              go_wp2
              obtain ⟨w5, hw5⟩ : ∃ w5, w5 = w4.drewN nq := ⟨_, rfl⟩
              have h45 : Below w4.heap.size w4 w5 := by rw [hw5]; exact below_draws (Below.refl _ _) _
              have O5 := Lib.hid (own_below O4.out h45)
              have B5 : Hid (Below w.heap.size w w5) := Lib.hid (B4.out.trans (h45.mono B4.out.size))
              have x2 : w5.cell? ⟨gb, q * 3 + 2, none⟩ = some (.int .i64 y3) := by rw [hw5]; exact f2
              have x5 : w5.cell? ⟨bx, 2, none⟩ = some (.int .i64 p3) := by rw [hw5]; exact f5
              rw [← hw5]
              clear hw5 h45 f0 f1 f2 f3 f4 f5 O4 B4
              go_still_tail 12, (by kernel_rfl)
              change wpList _ _ _ _ _ w5.drew
              obtain ⟨w6, hw6⟩ : ∃ w6, w6 = w5.drew := ⟨_, rfl⟩
              have O6 : Hid (w6.ownsRow w.heap.size 24 3 (.slice (some ⟨gb, 0, none⟩) m c') m (gCells blkCell g)) := Lib.hid (by rw [hw6]; exact O5.out)
              have B6 : Hid (Below w.heap.size w w6) := Lib.hid (by rw [hw6]; exact B5.out.drew)
              have z2 : w6.cell? ⟨gb, q * 3 + 2, none⟩ = some (.int .i64 y3) := by rw [hw6]; exact x2
              rw [← hw6]
              clear hw6 x2 x5 O5 B5
              have z3 := own_thaw O6.out (q * 3 + 2)
              have hgb : w.heap.size ≤ gb := by
                rcases O6.out.2 with ⟨e, _⟩ | ⟨g', cap, cur, e, hb, _⟩
                · cases e
                · simp only [Value.slice.injEq, Option.some.injEq, Addr.mk.injEq] at e
                  obtain ⟨⟨rfl, _⟩, _⟩ := e
                  exact hb
              have hend : Hid ((w6.setCell ⟨gb, q * 3 + 2, none⟩ (.int .i64 (min y3 p3))).ownsRow w.heap.size 24 3 (.slice (some ⟨gb, 0, none⟩) m c') (G (k + 1)).length (gCells blkCell (G (k + 1))) ∧ Below w.heap.size w (w6.setCell ⟨gb, q * 3 + 2, none⟩ (.int .i64 (min y3 p3)))) := Lib.hid ⟨by
                have h1 := own_store O6.out (q * 3 + 2) (by omega) (.int .i64 (min y3 p3))
                rw [gCells_setN g q (y1, y2, y3) (min y3 p3) HY.out] at h1
                rw [hnew.out, List.length_set, HM.out]
                exact h1, B6.out.setCell hgb _⟩
              go_wp2
              exact ⟨⟨k + 1, by omega, by go_num, Lib.hid hend.out.1, Lib.hid hend.out.2⟩, by simp [RowKit.intOf]; omega⟩
            · have hnew : Hid (G (k + 1) = g.take q ++ [(p1, p2, p3)] ++ g.drop q) := Lib.hid (by
                rw [HG1.out]
                exact HINS.out.2 (fun x hx => by rw [HY.out] at hx; obtain rfl := Option.some.inj hx; exact hsm))
              clear HINS
              have hcs : (y1.toList == p1.toList) = false ∨ ((y1.toList == p1.toList) = true ∧ (y2.toList == p2.toList) = false) := by
                by_cases h1 : y1 = p1
                · right
                  exact ⟨by rw [h1]; simp, beq_eq_false_iff_ne.2 (fun e => hsm ⟨h1, toList_ext e⟩)⟩
                · left; exact beq_eq_false_iff_ne.2 (fun e => h1 (toList_ext e))
              clear hsm
              obtain ⟨hmc, hcm⟩ : m ≤ c' ∧ c' ≤ maxLen := by
                rcases O4.out.2 with ⟨e, _⟩ | ⟨g', cap, cur, e, _, _, h1, h2, _⟩
                · cases e
                · obtain ⟨_, _, rfl⟩ := Value.slice.inj e
                  exact ⟨h1, h2⟩
              unfold maxLen at hcm
              have gR := GRuns.of_own rl_ln HM.out O4.out
              have gX1 := Lib.hid (gR.front HM.out q (by omega))
              have gX2 := Lib.hid (gR.back HM.out q hq)
              clear gR
              have r1 : (q : Int) ≤ (c' : Int) := by omega
              have r2 : (m : Int) ≤ (c' : Int) := by omega
              have r3 : (q : Int) ≤ (m : Int) := by omega
              have r4 : ¬ c' = q := by omega
              rcases hcs with h1 | ⟨h0, h1⟩
              all_goals
                go_wp2
                go_quiet (fail)
                go_wp2
                obtain ⟨w5, hw5⟩ : ∃ w5, w5 = w4.drewN nq := ⟨_, rfl⟩
                have h4D : Below w4.heap.size w4 w5.drew := by rw [hw5]; exact (below_draws (Below.refl _ _) _).drew
                have X1 := Lib.hid (gX1.out.below h4D)
                have X2 := Lib.hid (gX2.out.below h4D)
                have BD : Hid (Below w.heap.size w w5.drew) := Lib.hid (B4.out.trans (h4D.mono B4.out.size))
                have SD : w.heap.size ≤ w5.drew.heap.size := BD.out.size
                have LB : bx < w5.drew.heap.size := Nat.lt_of_lt_of_le HKn.out.lt' h4D.size
                have x3 : w5.drew.cell? ⟨bx, 0, none⟩ = some (.string p1) := by rw [hw5]; exact f3
                have x4 : w5.drew.cell? ⟨bx, 1, none⟩ = some (.string p2) := by rw [hw5]; exact f4
                have x5 : w5.drew.cell? ⟨bx, 2, none⟩ = some (.int .i64 p3) := by rw [hw5]; exact f5
                rw [← hw5]
                clear hw5 h4D gX1 gX2 f0 f1 f2 f3 f4 f5 O4 B4 h1
                have CE : Hid (∀ W, Below w5.drew.heap.size w5.drew W → W.cell? ⟨bx, 0, none⟩ = some (.string p1) ∧ W.cell? ⟨bx, 1, none⟩ = some (.string p2) ∧ W.cell? ⟨bx, 2, none⟩ = some (.int .i64 p3)) := Lib.hid (fun W hb => ⟨(hb.cell (p := ⟨bx, 0, none⟩) LB).trans x3, (hb.cell (p := ⟨bx, 1, none⟩) LB).trans x4, (hb.cell (p := ⟨bx, 2, none⟩) LB).trans x5⟩)
                obtain ⟨a3, a4, a5⟩ := CE.out _ (blw_1 w5.drew (.cells #[] 24))
                have b3 : (w5.alloc (.cells #[] 24)).cell? ⟨bx, 0, none⟩ = some (.string p1) := a3
                have b4 : (w5.alloc (.cells #[] 24)).cell? ⟨bx, 1, none⟩ = some (.string p2) := a4
                have b5 : (w5.alloc (.cells #[] 24)).cell? ⟨bx, 2, none⟩ = some (.int .i64 p3) := a5
                have d3 : (w5.alloc (.cells #[] 24)).drew.cell? ⟨bx, 0, none⟩ = some (.string p1) := a3
                have d4 : (w5.alloc (.cells #[] 24)).drew.cell? ⟨bx, 1, none⟩ = some (.string p2) := a4
                have d5 : (w5.alloc (.cells #[] 24)).drew.cell? ⟨bx, 2, none⟩ = some (.int .i64 p3) := a5
                have hmix : Tryd.prog.follows .mixedOrders = true := by kernel_rfl
                have tq : (g.take q).length = q := by rw [List.length_take, HM.out]; omega
                have dq : (g.drop q).length = m - q := by rw [List.length_drop, HM.out]
                have HTQ := Lib.hid tq; have HDQ := Lib.hid dq; clear tq dq
                have SD5 : w.heap.size ≤ w5.heap.size := SD
                go_region_law (first
                  | (refine step_append_rules rfl (.tmp 70) (.tmp 73) w.heap.size 0 [] (g.take q) (by first | exact own_litR _ _ SD | exact (rlay_1 _ _ SD (p1, p2, p3)).1 | exact (rlay_2 _ _ SD (p1, p2, p3)).1) (by first | exact X1.out.below (blw_1 _ _) | exact X1.out.below (blw_2 _ _ _)) rfl rfl (by go_simp) (by go_simp) (by simp <;> omega) (by rw [HTQ.out]; omega) ?_; intro v65 w65 h65 k65 j65; have K65 : Hid (RpK w w5.drew (g.take q) v65 w65) := Lib.hid (by first | exact RpK.next (t := []) rfl rfl SD (blw_1 _ _) (fun b hb => by simp [Value.ownBlock] at hb; show w5.heap.size ≤ b; omega) h65 k65 j65 | exact RpK.next (t := []) rfl rfl SD (blw_2 _ _ _) (fun b hb => by simp [Value.ownBlock] at hb; show w5.heap.size ≤ b; omega) h65 k65 j65); obtain ⟨k3, k4, k5⟩ := CE.out w65 K65.out.bel; (first | have L65 := Lib.hid ((rlay_1 w5.drew _ SD (p1, p2, p3)).2.aside k65 (by simp [Value.ownBlock])) | have L65 := Lib.hid ((rlay_2 w5.drew _ SD (p1, p2, p3)).2.aside k65 (by simp [Value.ownBlock])) | skip); clear h65 k65 j65)
                  | (refine step_append_rules rfl (.tmp 74) (.tmp 76) w.heap.size (g.take q).length (gCells blkCell (g.take q)) [(p1, p2, p3)] (by first | exact K65.out.own | exact K65.out.own.alloc _) (by first | exact rule_litR _ (p1, p2, p3) | exact L65.out) rfl rfl (by go_simp) (by go_simp) (by first | exact Nat.le_trans SD K65.out.bel.size | exact Nat.le_trans (Nat.le_trans SD K65.out.bel.size) (blw_1 _ _).size) (by rw [HTQ.out]; show (q + 1) * 40 ≤ 140737488355328; omega) ?_; intro v68 w68 h68 k68 j68; have K68 : Hid (RpK w w5.drew (g.take q ++ [(p1, p2, p3)]) v68 w68) := Lib.hid (by first | exact RpK.next rfl rfl SD K65.out.bel K65.out.at_ h68 k68 j68 | exact RpK.next rfl rfl SD (K65.out.bel.trans ((blw_1 _ _).mono K65.out.bel.size)) K65.out.at_ h68 k68 j68); clear h68 k68 j68)
                  | (refine step_append_rules rfl (.tmp 77) (.tmp 80) w.heap.size (g.take q ++ [(p1, p2, p3)]).length (gCells blkCell (g.take q ++ [(p1, p2, p3)])) (g.drop q) (by exact K68.out.own) (by exact (by simpa using X2.out.below K68.out.bel)) rfl rfl (by go_simp) (by go_simp) (by exact Nat.le_trans SD K68.out.bel.size) (by rw [List.length_append, HTQ.out, HDQ.out]; show (q + 1 + (m - q)) * 40 ≤ 140737488355328; omega) ?_; intro v72 w72 h72 k72 j72; have K72 : Hid (RpK w w5.drew (g.take q ++ [(p1, p2, p3)] ++ g.drop q) v72 w72) := Lib.hid (RpK.next rfl rfl SD K68.out.bel K68.out.at_ h72 k72 j72); clear h72 k72 j72))
                all_goals
                  go_wp2
                  exact ⟨⟨k + 1, by omega, by go_num, Lib.hid (by rw [hnew.out]; exact K72.out.own), Lib.hid (BD.out.trans (K72.out.bel.mono SD))⟩, by simp [RowKit.intOf]; omega⟩
          · go_wp2
            exact ⟨⟨q + 1, by omega, by go_num, Lib.hid (fun j y hj hy => by
              rcases Nat.lt_or_ge j q with h | h
              · exact HB.out j y h hy
              · obtain rfl : j = q := by omega
                rw [HY.out] at hy
                obtain rfl := Option.some.inj hy
                exact HLE.out), Lib.hid HKn.out.bel⟩, by simp [RowKit.intOf]; omega⟩
        · obtain rfl : q = m := by omega
          have O4 := OQ
          have B4 : Hid (Below w.heap.size w wr) := Lib.hid (BA.out.trans (BQ.out.mono BA.out.size))
          have hins := insR_at (p1, p2, p3) g q HB.out (by rw [HM.out]; exact Nat.le_refl _) (fun y hy => by rw [List.getElem?_eq_none (by rw [HM.out]; exact Nat.le_refl _)] at hy; cases hy)
          have hnew : Hid (G (k + 1) = g.take q ++ [(p1, p2, p3)] ++ g.drop q) := Lib.hid (by
            rw [HG1.out]
            exact hins.2 (fun x hx => by rw [List.getElem?_eq_none (by rw [HM.out]; exact Nat.le_refl _)] at hx; cases hx))
          clear hins
          have f3 : wr.cell? ⟨bx, 0, none⟩ = some (.string p1) := by simp [World.cell?, EQ3.out]
          have f4 : wr.cell? ⟨bx, 1, none⟩ = some (.string p2) := by simp [World.cell?, EQ3.out]
          have f5 : wr.cell? ⟨bx, 2, none⟩ = some (.int .i64 p3) := by simp [World.cell?, EQ3.out]
          have hq1 : ¬ (q : Int) < (q : Int) := by omega
          have hdr : g.drop q = [] := List.drop_of_length_le (by rw [HM.out]; exact Nat.le_refl _)
          have hvs : (A' = none ∧ q = 0 ∧ c' = 0) ∨ ∃ gb, A' = some ⟨gb, 0, none⟩ ∧ q ≤ c' ∧ c' ≤ maxLen := by
            rcases O4.out.2 with ⟨e, h0⟩ | ⟨gb, cap, cur, e, _, _, h1, h2, _⟩
            · obtain ⟨e1, e2, e3⟩ := Value.slice.inj e
              exact .inl ⟨e1, e2, e3⟩
            · obtain ⟨e1, _, rfl⟩ := Value.slice.inj e
              exact .inr ⟨gb, e1, h1, h2⟩
          have gR := GRuns.of_own rl_ln HM.out O4.out
          have gX1 := Lib.hid (gR.front HM.out q (Nat.le_refl _))
          clear gR
          rcases hvs with ⟨rfl, rfl, rfl⟩ | ⟨gb, rfl, hqc, hcm⟩
          · have gX2 : Hid (GRuns blkCell 3 wr (.slice none 0 0) (g.drop 0)) := Lib.hid (by rw [hdr]; exact GRuns.nil_ _ _ _)
            clear OQ EQ3 BQ hq1
            go_wp2
            go_quiet (fail)
            revert nq
            intro nqa
            go_wp2
            go_quiet (fail)
            revert nq
            intro nqb
            go_wp2
            obtain ⟨w5, hw5⟩ : ∃ w5, w5 = (wr.drewN nqa).drewN nqb := ⟨_, rfl⟩
            have h4D : Below wr.heap.size wr w5.drew := by rw [hw5]; exact (below_draws (below_draws (Below.refl _ _) _) _).drew
            have X1 := Lib.hid (gX1.out.below h4D)
            have X2 := Lib.hid (gX2.out.below h4D)
            have BD : Hid (Below w.heap.size w w5.drew) := Lib.hid (B4.out.trans (h4D.mono B4.out.size))
            have SD : w.heap.size ≤ w5.drew.heap.size := BD.out.size
            have LB : bx < w5.drew.heap.size := Nat.lt_of_lt_of_le LTQ h4D.size
            have x3 : w5.drew.cell? ⟨bx, 0, none⟩ = some (.string p1) := by rw [hw5]; exact f3
            have x4 : w5.drew.cell? ⟨bx, 1, none⟩ = some (.string p2) := by rw [hw5]; exact f4
            have x5 : w5.drew.cell? ⟨bx, 2, none⟩ = some (.int .i64 p3) := by rw [hw5]; exact f5
            rw [← hw5]
            clear hw5 h4D gX1 gX2 f3 f4 f5 O4 B4
            have CE : Hid (∀ W, Below w5.drew.heap.size w5.drew W → W.cell? ⟨bx, 0, none⟩ = some (.string p1) ∧ W.cell? ⟨bx, 1, none⟩ = some (.string p2) ∧ W.cell? ⟨bx, 2, none⟩ = some (.int .i64 p3)) := Lib.hid (fun W hb => ⟨(hb.cell (p := ⟨bx, 0, none⟩) LB).trans x3, (hb.cell (p := ⟨bx, 1, none⟩) LB).trans x4, (hb.cell (p := ⟨bx, 2, none⟩) LB).trans x5⟩)
            obtain ⟨a3, a4, a5⟩ := CE.out _ (blw_1 w5.drew (.cells #[] 24))
            have b3 : (w5.alloc (.cells #[] 24)).cell? ⟨bx, 0, none⟩ = some (.string p1) := a3
            have b4 : (w5.alloc (.cells #[] 24)).cell? ⟨bx, 1, none⟩ = some (.string p2) := a4
            have b5 : (w5.alloc (.cells #[] 24)).cell? ⟨bx, 2, none⟩ = some (.int .i64 p3) := a5
            have d3 : (w5.alloc (.cells #[] 24)).drew.cell? ⟨bx, 0, none⟩ = some (.string p1) := a3
            have d4 : (w5.alloc (.cells #[] 24)).drew.cell? ⟨bx, 1, none⟩ = some (.string p2) := a4
            have d5 : (w5.alloc (.cells #[] 24)).drew.cell? ⟨bx, 2, none⟩ = some (.int .i64 p3) := a5
            have hmix : Tryd.prog.follows .mixedOrders = true := by kernel_rfl
            have tq : (g.take 0).length = 0 := by rw [List.length_take, HM.out]; omega
            have dq : (g.drop 0).length = 0 - 0 := by rw [List.length_drop, HM.out]
            have HTQ := Lib.hid tq; have HDQ := Lib.hid dq; clear tq dq
            have SD5 : w.heap.size ≤ w5.heap.size := SD
            go_region_law (first
              | (refine step_append_rules rfl (.tmp 70) (.tmp 73) w.heap.size 0 [] (g.take 0) (by first | exact own_litR _ _ SD | exact (rlay_1 _ _ SD (p1, p2, p3)).1 | exact (rlay_2 _ _ SD (p1, p2, p3)).1) (by first | exact X1.out.below (blw_1 _ _) | exact X1.out.below (blw_2 _ _ _)) rfl rfl (by go_simp) (by go_simp) (by simp <;> omega) (by rw [HTQ.out]; omega) ?_; intro v65 w65 h65 k65 j65; have K65 : Hid (RpK w w5.drew (g.take 0) v65 w65) := Lib.hid (by first | exact RpK.next (t := []) rfl rfl SD (blw_1 _ _) (fun b hb => by simp [Value.ownBlock] at hb; show w5.heap.size ≤ b; omega) h65 k65 j65 | exact RpK.next (t := []) rfl rfl SD (blw_2 _ _ _) (fun b hb => by simp [Value.ownBlock] at hb; show w5.heap.size ≤ b; omega) h65 k65 j65); obtain ⟨k3, k4, k5⟩ := CE.out w65 K65.out.bel; (first | have L65 := Lib.hid ((rlay_1 w5.drew _ SD (p1, p2, p3)).2.aside k65 (by simp [Value.ownBlock])) | have L65 := Lib.hid ((rlay_2 w5.drew _ SD (p1, p2, p3)).2.aside k65 (by simp [Value.ownBlock])) | skip); clear h65 k65 j65)
              | (refine step_append_rules rfl (.tmp 74) (.tmp 76) w.heap.size (g.take 0).length (gCells blkCell (g.take 0)) [(p1, p2, p3)] (by first | exact K65.out.own | exact K65.out.own.alloc _) (by first | exact rule_litR _ (p1, p2, p3) | exact L65.out) rfl rfl (by go_simp) (by go_simp) (by first | exact Nat.le_trans SD K65.out.bel.size | exact Nat.le_trans (Nat.le_trans SD K65.out.bel.size) (blw_1 _ _).size) (by rw [HTQ.out]; show (0 + 1) * 40 ≤ 140737488355328; omega) ?_; intro v68 w68 h68 k68 j68; have K68 : Hid (RpK w w5.drew (g.take 0 ++ [(p1, p2, p3)]) v68 w68) := Lib.hid (by first | exact RpK.next rfl rfl SD K65.out.bel K65.out.at_ h68 k68 j68 | exact RpK.next rfl rfl SD (K65.out.bel.trans ((blw_1 _ _).mono K65.out.bel.size)) K65.out.at_ h68 k68 j68); clear h68 k68 j68)
              | (refine step_append_rules rfl (.tmp 77) (.tmp 80) w.heap.size (g.take 0 ++ [(p1, p2, p3)]).length (gCells blkCell (g.take 0 ++ [(p1, p2, p3)])) (g.drop 0) (by exact K68.out.own) (by exact (by simpa using X2.out.below K68.out.bel)) rfl rfl (by go_simp) (by go_simp) (by exact Nat.le_trans SD K68.out.bel.size) (by rw [List.length_append, HTQ.out, HDQ.out]; show (0 + 1 + (0 - 0)) * 40 ≤ 140737488355328; omega) ?_; intro v72 w72 h72 k72 j72; have K72 : Hid (RpK w w5.drew (g.take 0 ++ [(p1, p2, p3)] ++ g.drop 0) v72 w72) := Lib.hid (RpK.next rfl rfl SD K68.out.bel K68.out.at_ h72 k72 j72); clear h72 k72 j72))
            all_goals
              go_wp2
              exact ⟨⟨k + 1, by omega, by go_num, Lib.hid (by rw [hnew.out]; exact K72.out.own), Lib.hid (BD.out.trans (K72.out.bel.mono SD))⟩, by simp [RowKit.intOf]; omega⟩
          · unfold maxLen at hcm
            have r1 : (q : Int) ≤ (c' : Int) := by omega
            by_cases hcq : c' = q
            · subst hcq
              have gX2 : Hid (GRuns blkCell 3 wr (.slice (some ⟨gb, 0, none⟩) 0 0) (g.drop c')) := Lib.hid (by rw [hdr]; exact GRuns.none_ (by simp [maxLen]) (fun h => by cases h))
              clear OQ EQ3 BQ
              go_wp2
              go_quiet (fail)
              revert nq
              intro nqa
              go_wp2
              go_quiet (fail)
              revert nq
              intro nqb
              go_wp2
              obtain ⟨w5, hw5⟩ : ∃ w5, w5 = (wr.drewN nqa).drewN nqb := ⟨_, rfl⟩
              have h4D : Below wr.heap.size wr w5.drew := by rw [hw5]; exact (below_draws (below_draws (Below.refl _ _) _) _).drew
              have X1 := Lib.hid (gX1.out.below h4D)
              have X2 := Lib.hid (gX2.out.below h4D)
              have BD : Hid (Below w.heap.size w w5.drew) := Lib.hid (B4.out.trans (h4D.mono B4.out.size))
              have SD : w.heap.size ≤ w5.drew.heap.size := BD.out.size
              have LB : bx < w5.drew.heap.size := Nat.lt_of_lt_of_le LTQ h4D.size
              have x3 : w5.drew.cell? ⟨bx, 0, none⟩ = some (.string p1) := by rw [hw5]; exact f3
              have x4 : w5.drew.cell? ⟨bx, 1, none⟩ = some (.string p2) := by rw [hw5]; exact f4
              have x5 : w5.drew.cell? ⟨bx, 2, none⟩ = some (.int .i64 p3) := by rw [hw5]; exact f5
              rw [← hw5]
              clear hw5 h4D gX1 gX2 f3 f4 f5 O4 B4
              have CE : Hid (∀ W, Below w5.drew.heap.size w5.drew W → W.cell? ⟨bx, 0, none⟩ = some (.string p1) ∧ W.cell? ⟨bx, 1, none⟩ = some (.string p2) ∧ W.cell? ⟨bx, 2, none⟩ = some (.int .i64 p3)) := Lib.hid (fun W hb => ⟨(hb.cell (p := ⟨bx, 0, none⟩) LB).trans x3, (hb.cell (p := ⟨bx, 1, none⟩) LB).trans x4, (hb.cell (p := ⟨bx, 2, none⟩) LB).trans x5⟩)
              obtain ⟨a3, a4, a5⟩ := CE.out _ (blw_1 w5.drew (.cells #[] 24))
              have b3 : (w5.alloc (.cells #[] 24)).cell? ⟨bx, 0, none⟩ = some (.string p1) := a3
              have b4 : (w5.alloc (.cells #[] 24)).cell? ⟨bx, 1, none⟩ = some (.string p2) := a4
              have b5 : (w5.alloc (.cells #[] 24)).cell? ⟨bx, 2, none⟩ = some (.int .i64 p3) := a5
              have d3 : (w5.alloc (.cells #[] 24)).drew.cell? ⟨bx, 0, none⟩ = some (.string p1) := a3
              have d4 : (w5.alloc (.cells #[] 24)).drew.cell? ⟨bx, 1, none⟩ = some (.string p2) := a4
              have d5 : (w5.alloc (.cells #[] 24)).drew.cell? ⟨bx, 2, none⟩ = some (.int .i64 p3) := a5
              have hmix : Tryd.prog.follows .mixedOrders = true := by kernel_rfl
              have tq : (g.take c').length = c' := by rw [List.length_take, HM.out]; omega
              have dq : (g.drop c').length = c' - c' := by rw [List.length_drop, HM.out]
              have HTQ := Lib.hid tq; have HDQ := Lib.hid dq; clear tq dq
              have SD5 : w.heap.size ≤ w5.heap.size := SD
              go_region_law (first
                | (refine step_append_rules rfl (.tmp 70) (.tmp 73) w.heap.size 0 [] (g.take c') (by first | exact own_litR _ _ SD | exact (rlay_1 _ _ SD (p1, p2, p3)).1 | exact (rlay_2 _ _ SD (p1, p2, p3)).1) (by first | exact X1.out.below (blw_1 _ _) | exact X1.out.below (blw_2 _ _ _)) rfl rfl (by go_simp) (by go_simp) (by simp <;> omega) (by rw [HTQ.out]; omega) ?_; intro v65 w65 h65 k65 j65; have K65 : Hid (RpK w w5.drew (g.take c') v65 w65) := Lib.hid (by first | exact RpK.next (t := []) rfl rfl SD (blw_1 _ _) (fun b hb => by simp [Value.ownBlock] at hb; show w5.heap.size ≤ b; omega) h65 k65 j65 | exact RpK.next (t := []) rfl rfl SD (blw_2 _ _ _) (fun b hb => by simp [Value.ownBlock] at hb; show w5.heap.size ≤ b; omega) h65 k65 j65); obtain ⟨k3, k4, k5⟩ := CE.out w65 K65.out.bel; (first | have L65 := Lib.hid ((rlay_1 w5.drew _ SD (p1, p2, p3)).2.aside k65 (by simp [Value.ownBlock])) | have L65 := Lib.hid ((rlay_2 w5.drew _ SD (p1, p2, p3)).2.aside k65 (by simp [Value.ownBlock])) | skip); clear h65 k65 j65)
                | (refine step_append_rules rfl (.tmp 74) (.tmp 76) w.heap.size (g.take c').length (gCells blkCell (g.take c')) [(p1, p2, p3)] (by first | exact K65.out.own | exact K65.out.own.alloc _) (by first | exact rule_litR _ (p1, p2, p3) | exact L65.out) rfl rfl (by go_simp) (by go_simp) (by first | exact Nat.le_trans SD K65.out.bel.size | exact Nat.le_trans (Nat.le_trans SD K65.out.bel.size) (blw_1 _ _).size) (by rw [HTQ.out]; show (c' + 1) * 40 ≤ 140737488355328; omega) ?_; intro v68 w68 h68 k68 j68; have K68 : Hid (RpK w w5.drew (g.take c' ++ [(p1, p2, p3)]) v68 w68) := Lib.hid (by first | exact RpK.next rfl rfl SD K65.out.bel K65.out.at_ h68 k68 j68 | exact RpK.next rfl rfl SD (K65.out.bel.trans ((blw_1 _ _).mono K65.out.bel.size)) K65.out.at_ h68 k68 j68); clear h68 k68 j68)
                | (refine step_append_rules rfl (.tmp 77) (.tmp 80) w.heap.size (g.take c' ++ [(p1, p2, p3)]).length (gCells blkCell (g.take c' ++ [(p1, p2, p3)])) (g.drop c') (by exact K68.out.own) (by exact (by simpa using X2.out.below K68.out.bel)) rfl rfl (by go_simp) (by go_simp) (by exact Nat.le_trans SD K68.out.bel.size) (by rw [List.length_append, HTQ.out, HDQ.out]; show (c' + 1 + (c' - c')) * 40 ≤ 140737488355328; omega) ?_; intro v72 w72 h72 k72 j72; have K72 : Hid (RpK w w5.drew (g.take c' ++ [(p1, p2, p3)] ++ g.drop c') v72 w72) := Lib.hid (RpK.next rfl rfl SD K68.out.bel K68.out.at_ h72 k72 j72); clear h72 k72 j72))
              all_goals
                go_wp2
                exact ⟨⟨k + 1, by omega, by go_num, Lib.hid (by rw [hnew.out]; exact K72.out.own), Lib.hid (BD.out.trans (K72.out.bel.mono SD))⟩, by simp [RowKit.intOf]; omega⟩
            · have gX2 : Hid (GRuns blkCell 3 wr (.slice (some ⟨gb, 0 + c' * 0 + q * 3, none⟩) 0 (c' - q)) (g.drop q)) := Lib.hid (by rw [hdr]; exact GRuns.none_ (by unfold maxLen; omega) (fun h => by cases h))
              simp only [Nat.zero_add, Nat.mul_zero] at gX2
              clear OQ EQ3 BQ
              go_wp2
              go_quiet (fail)
              revert nq
              intro nqa
              go_wp2
              go_quiet (fail)
              revert nq
              intro nqb
              go_wp2
              obtain ⟨w5, hw5⟩ : ∃ w5, w5 = (wr.drewN nqa).drewN nqb := ⟨_, rfl⟩
              have h4D : Below wr.heap.size wr w5.drew := by rw [hw5]; exact (below_draws (below_draws (Below.refl _ _) _) _).drew
              have X1 := Lib.hid (gX1.out.below h4D)
              have X2 := Lib.hid (gX2.out.below h4D)
              have BD : Hid (Below w.heap.size w w5.drew) := Lib.hid (B4.out.trans (h4D.mono B4.out.size))
              have SD : w.heap.size ≤ w5.drew.heap.size := BD.out.size
              have LB : bx < w5.drew.heap.size := Nat.lt_of_lt_of_le LTQ h4D.size
              have x3 : w5.drew.cell? ⟨bx, 0, none⟩ = some (.string p1) := by rw [hw5]; exact f3
              have x4 : w5.drew.cell? ⟨bx, 1, none⟩ = some (.string p2) := by rw [hw5]; exact f4
              have x5 : w5.drew.cell? ⟨bx, 2, none⟩ = some (.int .i64 p3) := by rw [hw5]; exact f5
              rw [← hw5]
              clear hw5 h4D gX1 gX2 f3 f4 f5 O4 B4
              have CE : Hid (∀ W, Below w5.drew.heap.size w5.drew W → W.cell? ⟨bx, 0, none⟩ = some (.string p1) ∧ W.cell? ⟨bx, 1, none⟩ = some (.string p2) ∧ W.cell? ⟨bx, 2, none⟩ = some (.int .i64 p3)) := Lib.hid (fun W hb => ⟨(hb.cell (p := ⟨bx, 0, none⟩) LB).trans x3, (hb.cell (p := ⟨bx, 1, none⟩) LB).trans x4, (hb.cell (p := ⟨bx, 2, none⟩) LB).trans x5⟩)
              obtain ⟨a3, a4, a5⟩ := CE.out _ (blw_1 w5.drew (.cells #[] 24))
              have b3 : (w5.alloc (.cells #[] 24)).cell? ⟨bx, 0, none⟩ = some (.string p1) := a3
              have b4 : (w5.alloc (.cells #[] 24)).cell? ⟨bx, 1, none⟩ = some (.string p2) := a4
              have b5 : (w5.alloc (.cells #[] 24)).cell? ⟨bx, 2, none⟩ = some (.int .i64 p3) := a5
              have d3 : (w5.alloc (.cells #[] 24)).drew.cell? ⟨bx, 0, none⟩ = some (.string p1) := a3
              have d4 : (w5.alloc (.cells #[] 24)).drew.cell? ⟨bx, 1, none⟩ = some (.string p2) := a4
              have d5 : (w5.alloc (.cells #[] 24)).drew.cell? ⟨bx, 2, none⟩ = some (.int .i64 p3) := a5
              have hmix : Tryd.prog.follows .mixedOrders = true := by kernel_rfl
              have tq : (g.take q).length = q := by rw [List.length_take, HM.out]; omega
              have dq : (g.drop q).length = q - q := by rw [List.length_drop, HM.out]
              have HTQ := Lib.hid tq; have HDQ := Lib.hid dq; clear tq dq
              have SD5 : w.heap.size ≤ w5.heap.size := SD
              go_region_law (first
                | (refine step_append_rules rfl (.tmp 70) (.tmp 73) w.heap.size 0 [] (g.take q) (by first | exact own_litR _ _ SD | exact (rlay_1 _ _ SD (p1, p2, p3)).1 | exact (rlay_2 _ _ SD (p1, p2, p3)).1) (by first | exact X1.out.below (blw_1 _ _) | exact X1.out.below (blw_2 _ _ _)) rfl rfl (by go_simp) (by go_simp) (by simp <;> omega) (by rw [HTQ.out]; omega) ?_; intro v65 w65 h65 k65 j65; have K65 : Hid (RpK w w5.drew (g.take q) v65 w65) := Lib.hid (by first | exact RpK.next (t := []) rfl rfl SD (blw_1 _ _) (fun b hb => by simp [Value.ownBlock] at hb; show w5.heap.size ≤ b; omega) h65 k65 j65 | exact RpK.next (t := []) rfl rfl SD (blw_2 _ _ _) (fun b hb => by simp [Value.ownBlock] at hb; show w5.heap.size ≤ b; omega) h65 k65 j65); obtain ⟨k3, k4, k5⟩ := CE.out w65 K65.out.bel; (first | have L65 := Lib.hid ((rlay_1 w5.drew _ SD (p1, p2, p3)).2.aside k65 (by simp [Value.ownBlock])) | have L65 := Lib.hid ((rlay_2 w5.drew _ SD (p1, p2, p3)).2.aside k65 (by simp [Value.ownBlock])) | skip); clear h65 k65 j65)
                | (refine step_append_rules rfl (.tmp 74) (.tmp 76) w.heap.size (g.take q).length (gCells blkCell (g.take q)) [(p1, p2, p3)] (by first | exact K65.out.own | exact K65.out.own.alloc _) (by first | exact rule_litR _ (p1, p2, p3) | exact L65.out) rfl rfl (by go_simp) (by go_simp) (by first | exact Nat.le_trans SD K65.out.bel.size | exact Nat.le_trans (Nat.le_trans SD K65.out.bel.size) (blw_1 _ _).size) (by rw [HTQ.out]; show (q + 1) * 40 ≤ 140737488355328; omega) ?_; intro v68 w68 h68 k68 j68; have K68 : Hid (RpK w w5.drew (g.take q ++ [(p1, p2, p3)]) v68 w68) := Lib.hid (by first | exact RpK.next rfl rfl SD K65.out.bel K65.out.at_ h68 k68 j68 | exact RpK.next rfl rfl SD (K65.out.bel.trans ((blw_1 _ _).mono K65.out.bel.size)) K65.out.at_ h68 k68 j68); clear h68 k68 j68)
                | (refine step_append_rules rfl (.tmp 77) (.tmp 80) w.heap.size (g.take q ++ [(p1, p2, p3)]).length (gCells blkCell (g.take q ++ [(p1, p2, p3)])) (g.drop q) (by exact K68.out.own) (by exact (by simpa using X2.out.below K68.out.bel)) rfl rfl (by go_simp) (by go_simp) (by exact Nat.le_trans SD K68.out.bel.size) (by rw [List.length_append, HTQ.out, HDQ.out]; show (q + 1 + (q - q)) * 40 ≤ 140737488355328; omega) ?_; intro v72 w72 h72 k72 j72; have K72 : Hid (RpK w w5.drew (g.take q ++ [(p1, p2, p3)] ++ g.drop q) v72 w72) := Lib.hid (RpK.next rfl rfl SD K68.out.bel K68.out.at_ h72 k72 j72); clear h72 k72 j72))
              all_goals
                go_wp2
                exact ⟨⟨k + 1, by omega, by go_num, Lib.hid (by rw [hnew.out]; exact K72.out.own), Lib.hid (BD.out.trans (K72.out.bel.mono SD))⟩, by simp [RowKit.intOf]; omega⟩
    · obtain rfl : k = n := by omega
      have hgl := GLN.out k (Nat.le_refl _)
      obtain ⟨g, hg⟩ : ∃ z, G k = z := ⟨_, rfl⟩
      rw [hg] at HO HE HS hgl
      obtain ⟨m, hm⟩ : ∃ z, g.length = z := ⟨_, rfl⟩
      rw [hm] at HO HE hgl
      have GR := Lib.hid (GRuns.of_own rl_ln hm HO.out)
      obtain ⟨A', c', hv⟩ := GR.out.slice
      rw [hm] at hv
      subst hv
      have hE2 : Hid (er = if 4096 < m then 6 else 0) := Lib.hid (by rw [HE.out, if_pos (by first | rfl | trivial)])
      clear HO hg hm
      by_cases hbig : 4096 < m
      · have hb1 : (4096 : Int) < (m : Int) := by omega
        have hEr : er = 6 := by rw [hE2.out, if_pos hbig]
        subst hEr
        have hYs : Hid (Y = []) := Lib.hid (by rw [HS.out]; simp)
        go_wp2
        go_ret2
        exact ⟨_, rfl, by rw [hYs.out]; exact GRuns.nil_ _ _ _, BW.out⟩
      · have hb1 : ¬ (4096 : Int) < (m : Int) := by omega
        have hEr : er = 0 := by rw [hE2.out, if_neg hbig]
        subst hEr
        have hYs : Hid (Y = g) := Lib.hid (by rw [HS.out]; simp)
        go_wp2
        go_ret2
        exact ⟨_, rfl, by rw [hYs.out]; exact GR.out, BW.out⟩
end Go.Proofs.YtnognphjndpgkaaDoor
