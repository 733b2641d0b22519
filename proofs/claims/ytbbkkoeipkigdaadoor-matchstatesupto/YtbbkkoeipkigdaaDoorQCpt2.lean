/- slices.CompactFunc over rules, walked. -/
import Derived.Test.YtbbkkoeipkigdaaDoorQCpt
namespace Go.Proofs.YtbbkkoeipkigdaaDoor
open Go.RowKit Go.Shelf Go.Lib
open Go.Sort (grow)
set_option linter.unusedSimpArgs false
set_option linter.unusedVariables false

theorem eq_any (x y : Blk) (w : World) : Calls Tryd.prog 47 #[.agg #[.string x.1, .string x.2.1, .int .i64 x.2.2], .agg #[.string y.1, .string y.2.1, .int .i64 y.2.2]] w fun e w' => e = .returned (.bool (decide (sameS x y))) ∧ Below w.heap.size w w' :=
  (eq_lays x y w).mono fun e w' ⟨h1, q, os, h2⟩ => ⟨h1, by rw [h2]; exact below_grows _ _ _⟩

set_option maxRecDepth 100000 in
set_option maxHeartbeats 8000000 in
theorem compact_any (g cap n : Nat) (L : List Blk) (w : World) (hn : L.length = n) (hR : RowAt w g L) (hl : n ≤ 2000000) (hc : n ≤ cap) (hm : cap ≤ maxLen) :
    Calls Tryd.prog 46 #[.slice (some ⟨g, 0, none⟩) n cap, .func (.func 47) #[] #[]] w fun e w' =>
      e = .returned (.slice (some ⟨g, 0, none⟩) (cpt L).length cap) ∧ BRuns w' (.slice (some ⟨g, 0, none⟩) (cpt L).length cap) (cpt L) ∧ w.grownBy w' (some g) := by
  have hm' := hm
  unfold maxLen at hm'
  have HM := Lib.hid hm; clear hm
  have C := Lib.hid eq_any
  have HN := Lib.hid hn; have HR := Lib.hid hR
  obtain ⟨X, hX⟩ : ∃ z, cpt L = z := ⟨_, rfl⟩
  rw [hX]
  obtain ⟨nx, hnx⟩ : ∃ z, X.length = z := ⟨_, rfl⟩
  rw [hnx]
  have HX := Lib.hid hX; have HNX := Lib.hid hnx
  have fin : ∀ w', RowAt w' g L → cpt (L.take n) = L.take n → nx = n ∧ BRuns w' (.slice (some ⟨g, 0, none⟩) nx cap) X := fun w' hr h => by
    have e1 : L.take n = L := List.take_of_length_le (by rw [hn]; exact Nat.le_refl _)
    rw [e1, hX] at h
    have e2 : nx = n := by rw [← hnx, h, hn]
    refine ⟨e2, ?_⟩
    have := hr.runs (k := n) (cap := cap) (by rw [hn]; exact Nat.le_refl _) hc HM.out (e1.trans h.symm)
    rwa [hnx] at this
  have FIN := Lib.hid fin
  clear hn hR hX hnx fin
  by_cases h2 : n < 2
  · have h2' : (n : Int) < 2 := by omega
    have hq : Hid (cpt (L.take n) = L.take n) := Lib.hid (by
      have : ∀ l : List Blk, l.length < 2 → cpt l = l := fun l hl => by
        match l, hl with
        | [], _ => rfl
        | [a], _ => rfl
      exact this _ (by rw [List.length_take, HN.out]; omega))
    go_enter Tryd.func46, Tryd.ntmps46
    go_wp2
    go_ret
    obtain ⟨e1, e2⟩ := FIN.out w HR.out hq.out
    exact ⟨by rw [e1]; rfl, e2, World.grownBy.refl _ _⟩
  · have h2' : ¬ (n : Int) < 2 := by omega
    go_enter Tryd.func46, Tryd.ntmps46
    have hmix : Tryd.prog.follows .mixedOrders = true := by kernel_rfl
    go_wp2
    go_loopw [5] (fun s5 wr => ∃ k : Nat, 1 ≤ k ∧ k ≤ n ∧ s5 = .int .i64 k ∧ Hid (cpt (L.take k) = L.take k) ∧ Hid (Below w.heap.size w wr)) (fun s5 _ => n - (RowKit.intOf s5).toNat)
    case atStart => exact ⟨1, Nat.le_refl _, by omega, rfl, Lib.hid (by
      match L with
      | [] => rfl
      | a :: l => rfl), Lib.hid (Below.refl _ _)⟩
    case round =>
      obtain ⟨k, hk1, hkn, rfl, HC, BW⟩ := hrel
      by_cases hk : k < n
      · have k1 : (k : Int) < (n : Int) := by omega
        obtain ⟨i, hi⟩ : ∃ i : Nat, (k : Int) - 1 = (i : Int) := ⟨k - 1, by omega⟩
        have ei : k = i + 1 := by omega
        have EI := Lib.hid ei
        obtain ⟨⟨y1, y2, y3⟩, hy⟩ : ∃ p, L[i]? = some p := ⟨_, List.getElem?_eq_getElem (by rw [HN.out]; omega)⟩
        obtain ⟨⟨x1, x2, x3⟩, hx⟩ : ∃ p, L[k]? = some p := ⟨_, List.getElem?_eq_getElem (by rw [HN.out]; omega)⟩
        have RW := Lib.hid (HR.out.step BW.out)
        obtain ⟨g0, g1, g2⟩ := RW.out.at3 hy
        obtain ⟨g3, g4, g5⟩ := RW.out.at3 hx
        simp only at g0 g1 g2 g3 g4 g5
        have hnx := cpt_take (l := L) i (y1, y2, y3) (x1, x2, x3) hy (by rw [← ei]; exact hx)
        rw [← ei] at hnx
        have c5 := fun w => C.out (x1, x2, x3) (y1, y2, y3) w
        simp only at c5
        have HNXT : Hid (cpt (L.take (k + 1)) = L.take k ++ if sameS (x1, x2, x3) (y1, y2, y3) then [] else [(x1, x2, x3)]) := Lib.hid (by rw [hnx, HC.out])
        have HK1 : Hid (L.take (k + 1) = L.take k ++ [(x1, x2, x3)]) := Lib.hid (by rw [List.take_add_one, hx]; rfl)
        obtain ⟨eq, heq⟩ : ∃ z, decide (sameS (x1, x2, x3) (y1, y2, y3)) = z := ⟨_, rfl⟩
        simp only [heq] at c5
        have CC := Lib.hid c5; have HEQ := Lib.hid heq
        have hlt := RW.out.lt
        clear hy hx hnx c5 heq ei
        have i1 : (i : Int) < (n : Int) := by omega
        have hwr : IntKind.i64.wrap ((k : Int) - 1) = (i : Int) := by rw [IntKind.wrap_i64]; omega
        have hwi : IntKind.i64.wrap (i : Int) = (i : Int) := by rw [IntKind.wrap_i64]; omega
        have i2 : (0 : Int) ≤ (i : Int) := by omega
        have KD : Hid (KRow wr g (i * 3) (k * 3) (y1, y2, y3) (x1, x2, x3) wr.drew) := Lib.hid ⟨g0, g1, g2, g3, g4, g5, hlt, (Below.refl _ _).drew⟩
        go_wp2
        go_region_held3 (fun w' => w'.cell? ⟨g, i * 3, none⟩ = some (.string y1) ∧ w'.cell? ⟨g, i * 3 + 1, none⟩ = some (.string y2) ∧ w'.cell? ⟨g, i * 3 + 2, none⟩ = some (.int .i64 y3) ∧ w'.cell? ⟨g, k * 3, none⟩ = some (.string x1) ∧ w'.cell? ⟨g, k * 3 + 1, none⟩ = some (.string x2) ∧ w'.cell? ⟨g, k * 3 + 2, none⟩ = some (.int .i64 x3) ∧ Hid (KRow wr g (i * 3) (k * 3) (y1, y2, y3) (x1, x2, x3) w'))
          (first | exact ⟨g0, g1, g2, g3, g4, g5, KD⟩ | exact ⟨HKn.out.a0, HKn.out.a1, HKn.out.a2, HKn.out.b0, HKn.out.b1, HKn.out.b2, HKn⟩ | go_keep)
          (first
            | (go_at_call 47; refine (CC.out _).mono ?_; rintro e w4 ⟨rfl, hb4⟩; have HKn := Lib.hid ((by assumption : Hid (KRow wr g (i * 3) (k * 3) (y1, y2, y3) (x1, x2, x3) _)).out.step hb4); clear hb4))
        rename_i hHeld
        clear hHeld g0 g1 g2 g3 g4 g5
        have B4 : Hid (Below w.heap.size w w4) := Lib.hid (BW.out.trans (HKn.out.bel.mono BW.out.size))
        cases eq
        · have HC1 : Hid (cpt (L.take (k + 1)) = L.take (k + 1)) := Lib.hid (by rw [HNXT.out, HK1.out, if_neg (of_decide_eq_false HEQ.out)])
          go_wp2
          exact ⟨⟨k + 1, by omega, by omega, by go_num, HC1, B4⟩, by simp [RowKit.intOf]; omega⟩
        · have HC1 : Hid (cpt (L.take (k + 1)) = L.take k) := Lib.hid (by rw [HNXT.out, if_pos (of_decide_eq_true HEQ.out), List.append_nil])
          have R4 := Lib.hid (HR.out.step B4.out)
          clear HNXT HK1 HEQ CC KD HKn RW BW HC
          have r1 : (k : Int) ≤ (cap : Int) := by omega
          have r2 : (n : Int) ≤ (cap : Int) := by omega
          have r3 : (k : Int) ≤ (n : Int) := by omega
          have r4 : ¬ cap = k := by omega
          go_wp2
          obtain ⟨m2, hm2⟩ : ∃ z, n - k = z := ⟨_, rfl⟩
          obtain ⟨c2, hc2⟩ : ∃ z, cap - k = z := ⟨_, rfl⟩
          rw [hm2, hc2]
          have em : n = k + m2 := by omega
          have ec : cap = k + c2 := by omega
          have HEM := Lib.hid em; have HEC := Lib.hid ec
          clear hm2 hc2 em ec r1 r2 r3 r4
          have s1 : m2 ≤ 2000000 := by have := HEM.out; omega
          go_loopw [5, 7] (fun s5 s7 wr' => ∃ (kk k2 : Nat) (L' : List Blk), s5 = .int .i64 kk ∧ s7 = .int .i64 k2 ∧ 1 ≤ k2 ∧ k2 ≤ m2 ∧ k ≤ kk ∧ kk < k + k2 ∧ Hid (L'.length = n) ∧ Hid (L'.take kk = cpt (L.take (k + k2))) ∧ Hid (∀ j, k + k2 ≤ j + 1 → L'[j]? = L[j]?) ∧ Hid (RowAt wr' g L') ∧ Hid (w.grownBy wr' (some g))) (fun _ s7 _ => m2 - (RowKit.intOf s7).toNat)
          case atStart => exact ⟨k, 1, L, rfl, rfl, Nat.le_refl _, by have := HEM.out; omega, Nat.le_refl _, by omega, HN, Lib.hid HC1.out.symm, Lib.hid (fun j _ => rfl), R4, Lib.hid (grown_below _ B4.out)⟩
          case round =>
            clear HC1 B4 R4
            obtain ⟨kk, k2, L', rfl, rfl, hk21, hk2m, hkk, hkk2, HL, HT, HS, RR, GB⟩ := hrel
            by_cases hk2 : k2 < m2
            · have k2' : (k2 : Int) < (m2 : Int) := by omega
              obtain ⟨q, hq⟩ : ∃ q : Nat, (k2 : Int) - 1 = (q : Int) := ⟨k2 - 1, by omega⟩
              have eq' : k2 = q + 1 := by omega
              have EQ := Lib.hid eq'
              have hkn2 : k + k2 < n := by have := HEM.out; omega
              obtain ⟨⟨y1, y2, y3⟩, hy⟩ : ∃ p, L[k + q]? = some p := ⟨_, List.getElem?_eq_getElem (by rw [HN.out]; omega)⟩
              obtain ⟨⟨x1, x2, x3⟩, hx⟩ : ∃ p, L[k + k2]? = some p := ⟨_, List.getElem?_eq_getElem (by rw [HN.out]; omega)⟩
              have hy' : L'[k + q]? = some (y1, y2, y3) := by rw [HS.out _ (by omega)]; exact hy
              have hx' : L'[k + k2]? = some (x1, x2, x3) := by rw [HS.out _ (by omega)]; exact hx
              obtain ⟨g0, g1, g2⟩ := RR.out.at3 hy'
              obtain ⟨g3, g4, g5⟩ := RR.out.at3 hx'
              simp only at g0 g1 g2 g3 g4 g5
              rw [show (k + q) * 3 = k * 3 + q * 3 by omega] at g0 g1 g2
              rw [show (k + k2) * 3 = k * 3 + k2 * 3 by omega] at g3 g4 g5
              have hnx := cpt_take (l := L) (k + q) (y1, y2, y3) (x1, x2, x3) hy (by rw [show k + q + 1 = k + k2 by omega]; exact hx)
              rw [show k + q + 1 = k + k2 by omega] at hnx
              have c5 := fun w => C.out (x1, x2, x3) (y1, y2, y3) w
              simp only at c5
              have HNXT : Hid (cpt (L.take (k + k2 + 1)) = L'.take kk ++ if sameS (x1, x2, x3) (y1, y2, y3) then [] else [(x1, x2, x3)]) := Lib.hid (by rw [hnx, HT.out])
              obtain ⟨eq, heq⟩ : ∃ z, decide (sameS (x1, x2, x3) (y1, y2, y3)) = z := ⟨_, rfl⟩
              simp only [heq] at c5
              have CC := Lib.hid c5; have HEQ := Lib.hid heq
              have hlt := RR.out.lt
              clear hy hx hnx c5 heq eq' hy' hx' HT
              have i1 : (q : Int) < (m2 : Int) := by omega
              have hwr : IntKind.i64.wrap ((k2 : Int) - 1) = (q : Int) := by rw [IntKind.wrap_i64]; omega
              have hwi : IntKind.i64.wrap (q : Int) = (q : Int) := by rw [IntKind.wrap_i64]; omega
              have i2 : (0 : Int) ≤ (q : Int) := by omega
              have KD : Hid (KRow wr g (k * 3 + q * 3) (k * 3 + k2 * 3) (y1, y2, y3) (x1, x2, x3) wr.drew) := Lib.hid ⟨g0, g1, g2, g3, g4, g5, hlt, (Below.refl _ _).drew⟩
              go_wp2
              go_region_held3 (fun w' => w'.cell? ⟨g, k * 3 + q * 3, none⟩ = some (.string y1) ∧ w'.cell? ⟨g, k * 3 + q * 3 + 1, none⟩ = some (.string y2) ∧ w'.cell? ⟨g, k * 3 + q * 3 + 2, none⟩ = some (.int .i64 y3) ∧ w'.cell? ⟨g, k * 3 + k2 * 3, none⟩ = some (.string x1) ∧ w'.cell? ⟨g, k * 3 + k2 * 3 + 1, none⟩ = some (.string x2) ∧ w'.cell? ⟨g, k * 3 + k2 * 3 + 2, none⟩ = some (.int .i64 x3) ∧ Hid (KRow wr g (k * 3 + q * 3) (k * 3 + k2 * 3) (y1, y2, y3) (x1, x2, x3) w'))
                (first | exact ⟨g0, g1, g2, g3, g4, g5, KD⟩ | exact ⟨HKn.out.a0, HKn.out.a1, HKn.out.a2, HKn.out.b0, HKn.out.b1, HKn.out.b2, HKn⟩ | go_keep)
                (first
                  | (go_at_call 47; refine (CC.out _).mono ?_; rintro e w5 ⟨rfl, hb4⟩; have HKn := Lib.hid ((by assumption : Hid (KRow wr g (k * 3 + q * 3) (k * 3 + k2 * 3) (y1, y2, y3) (x1, x2, x3) _)).out.step hb4); clear hb4))
              rename_i hHeld
              clear hHeld g0 g1 g2 g3 g4 g5
              have R5 := Lib.hid (RR.out.step HKn.out.bel)
              have G5 : Hid (w.grownBy w5 (some g)) := Lib.hid (grown_trans GB.out (grown_below _ HKn.out.bel))
              have g3 := HKn.out.b0; have g4 := HKn.out.b1; have g5 := HKn.out.b2
              simp only at g3 g4 g5
              cases eq
              · have HC1 : Hid (cpt (L.take (k + k2 + 1)) = L'.take kk ++ [(x1, x2, x3)]) := Lib.hid (by rw [HNXT.out, if_neg (of_decide_eq_false HEQ.out)])
                have hkL : kk < L'.length := by rw [HL.out]; omega
                have f0 := R5.out.thaw (kk * 3) (by omega)
                have f1 := R5.out.thaw (kk * 3 + 1) (by omega)
                have f2 := R5.out.thaw (kk * 3 + 2) (by omega)
                obtain ⟨⟨z1, z2, z3⟩, hz⟩ : ∃ p, L'[kk]? = some p := ⟨_, List.getElem?_eq_getElem hkL⟩
                obtain ⟨t0, t1, t2⟩ := R5.out.at3 hz
                simp only at t0 t1 t2
                clear hz
                have RS := Lib.hid (R5.out.store kk hkL (x1, x2, x3))
                have GS : Hid (w.grownBy (w5.setCells g (kk * 3) (blkCell (x1, x2, x3))) (some g)) := Lib.hid (grown_trans G5.out (grown_setCells _ _ _ _))
                have hk3 : (kk : Int) < (n : Int) := by omega
                have HNL : Hid ((L'.set kk (x1, x2, x3)).length = n ∧ (L'.set kk (x1, x2, x3)).take (kk + 1) = cpt (L.take (k + (k2 + 1))) ∧ ∀ j, k + (k2 + 1) ≤ j + 1 → (L'.set kk (x1, x2, x3))[j]? = L[j]?) := Lib.hid ⟨by rw [List.length_set]; exact HL.out, by
                  rw [← Nat.add_assoc, HC1.out, List.take_add_one, List.getElem?_set_self hkL, List.take_set_of_le (Nat.le_refl _)]; rfl, fun j hj => by
                  rw [List.getElem?_set_ne (by omega)]; exact HS.out j (by omega)⟩
                clear HNXT HEQ CC KD HKn RR GB
                go_wp2
                exact ⟨⟨kk + 1, k2 + 1, L'.set kk (x1, x2, x3), by go_num, by go_num, by omega, by omega, by omega, by omega, Lib.hid HNL.out.1, Lib.hid HNL.out.2.1, Lib.hid HNL.out.2.2, RS, GS⟩, by simp [RowKit.intOf]; omega⟩
              · have HC1 : Hid (L'.take kk = cpt (L.take (k + k2 + 1))) := Lib.hid (by rw [HNXT.out, if_pos (of_decide_eq_true HEQ.out), List.append_nil])
                clear HNXT HEQ CC KD HKn RR GB g3 g4 g5
                go_wp2
                exact ⟨⟨kk, k2 + 1, L', rfl, by go_num, by omega, by omega, hkk, by omega, HL, HC1, Lib.hid (fun j hj => HS.out j (by omega)), R5, G5⟩, by simp [RowKit.intOf]; omega⟩
            · obtain rfl : k2 = m2 := by omega
              have en := HEM.out
              have hkn3 : kk < n := by omega
              obtain ⟨zs, hzl, hcl⟩ := clear_many (P := Tryd.prog) wr 22 55 0 _ 3 Tryd.underlying22 Tryd.zeroValue55 rfl (by intro v hv; simp [Value.cells] at hv; rcases hv with rfl | rfl | rfl <;> rfl) g (kk * 3) (n - kk) (cap - kk) (by omega) (fun j hj => RR.out.there _ (by rw [HL.out]; omega)) (fun j hj => RR.out.thaw _ (by rw [HL.out]; omega))
              have HCL := Lib.hid hcl
              have hfinal : Hid (nx = kk ∧ BRuns (wr.setCells g (kk * 3) zs) (.slice (some ⟨g, 0, none⟩) nx cap) X ∧ w.grownBy (wr.setCells g (kk * 3) zs) (some g)) := Lib.hid (by
                have e1 : L.take (k + k2) = L := List.take_of_length_le (by rw [HN.out]; omega)
                have e2 : L'.take kk = X := by rw [HT.out, e1, HX.out]
                have e3 : nx = kk := by rw [← HNX.out, ← e2, List.length_take, HL.out]; omega
                refine ⟨e3, ?_, grown_trans GB.out (grown_setCells _ _ _ _)⟩
                have r := RR.out.runs (k := kk) (cap := cap) (by rw [HL.out]; omega) (by omega) HM.out e2
                rw [HNX.out] at r
                obtain ⟨A', c', e, h1, h2, hxx⟩ := r
                refine ⟨A', c', e, h1, h2, fun h0 => ?_⟩
                obtain ⟨b, o, eb, hlt, hcell⟩ := hxx h0
                obtain ⟨ea, _, _⟩ := Value.slice.inj e
                have eg := Option.some.inj (ea.trans eb)
                simp only [Addr.mk.injEq] at eg
                obtain ⟨rfl, rfl, _⟩ := eg
                refine ⟨g, 0, eb, by rw [Go.Sort.size_setCells]; exact hlt, fun j x hj i u hu => ?_⟩
                have hjk : j < kk := by have := (List.getElem?_eq_some_iff.1 hj).1; rw [HNX.out, e3] at this; exact this
                have hi3 : i < 3 := (List.getElem?_eq_some_iff.1 hu).1
                rw [World.cell?_setCells_out g _ _ _ _ (fun _ _ => .inl (by show 0 + j * 3 + i < kk * 3; omega))]
                exact hcell j x hj i u hu)
              have r1 : (kk : Int) ≤ (cap : Int) := by omega
              have r2 : (n : Int) ≤ (cap : Int) := by omega
              have r3 : (kk : Int) ≤ (n : Int) := by omega
              have r4 : ¬ cap = kk := by omega
              clear HCL HT HS RR GB hzl en
              go_wp2
              go_ret
              exact ⟨by rw [hfinal.out.1]; rfl, hfinal.out.2⟩
      · obtain rfl : k = n := by omega
        go_wp2
        go_ret
        obtain ⟨e1, e2⟩ := FIN.out wr (HR.out.step BW.out) HC.out
        exact ⟨by rw [e1]; rfl, e2, grown_below _ BW.out⟩
end Go.Proofs.YtbbkkoeipkigdaaDoor
