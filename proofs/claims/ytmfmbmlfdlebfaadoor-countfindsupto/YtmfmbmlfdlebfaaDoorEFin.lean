/- CountFinds, walked over what count's functions answer. -/
import Derived.Test.YtmfmbmlfdlebfaaDoorEMer
import Derived.Test.YtmfmbmlfdlebfaaDoorDFind
namespace Go.Proofs.YtmfmbmlfdlebfaaDoor
open Go.RowKit Go.Shelf
set_option linter.unusedSimpArgs false
set_option linter.unusedVariables false

theorem cnt_take {l : List Blk} (k : Nat) (x key : Blk) (h : l[k]? = some x) : cnt (l.take (k + 1)) key = cnt (l.take k) key + if sameS x key then x.2.2 else 0 := by
  rw [List.take_add_one, h, cnt_append]; simp [cnt]

set_option maxRecDepth 100000 in
set_option maxHeartbeats 8000000 in
theorem countFinds_walk (u : Value) (l : List Blk) (p q : ByteArray) (w : World) (h : Okw w) (hu : BRuns w u l) (hl : l.length ≤ 2000000) (hz : szL l) :
    Calls Tryd.prog 8 #[u, .string p, .string q] w (RetTrue w) := by
  have g1 := fun w hu => great_any u l w hu (fun b hb => by have := hz b hb; omega)
  have t1 := fun w hO hu => ctable_any u l w hO hu hl hz
  have c5 := fun x p q w hO hx => find_any x (tabS l) p q w hO hx (by have := tabS_len l; omega) (szL_tab hz)
  have f1 : tabE l = 0 → (∀ k, finS (tabS l) k = cnt l k) ∧ chkT (tabS l) = 0 ∧ okN l ∧ sumN l ≤ 1073741824 := fun h => by
    obtain ⟨q1, _, q3⟩ := tabE_facts h
    refine ⟨fun k => fin_tab h k, ?_, okN_of q1, q3⟩
    rw [tabS, if_pos h]; exact tab_chk h
  obtain ⟨ea, hea⟩ : ∃ z, tabE l = z := ⟨_, rfl⟩
  obtain ⟨X, hX⟩ : ∃ z, tabS l = z := ⟨_, rfl⟩
  simp only [hea, hX] at t1 c5 f1
  obtain ⟨KX, hKX⟩ : ∃ z, chkT X = z := ⟨_, rfl⟩
  simp only [hKX] at c5 f1
  obtain ⟨n, hn⟩ : ∃ n, l.length = n := ⟨_, rfl⟩
  obtain ⟨nx, hnx⟩ : ∃ n, X.length = n := ⟨_, rfl⟩
  obtain ⟨A, c, e⟩ := hu.slice
  rw [hn] at e hl
  subst e
  have HU := Lib.hid hu; have G1 := Lib.hid g1; have T1 := Lib.hid t1; have C5 := Lib.hid c5; have F1 := Lib.hid f1; have HN := Lib.hid hn; have HNX := Lib.hid hnx
  clear hu g1 t1 c5 f1 hn hnx hea hX hKX hz
  go_enter Tryd.func8, Tryd.ntmps8
  go_wp2_with fail
  refine (alive6_any _ h).mono ?_
  rintro e w1 ⟨rfl, b1⟩
  have U1 := Lib.hid (HU.out.below b1); have K1 : Hid (Okw w1) := Lib.hid (h.below b1)
  have B1 := Lib.hid b1; clear b1
  go_wp2_with fail
  refine (T1.out _ K1.out U1.out).mono ?_
  rintro e w2 ⟨va, rfl, r2, b2⟩
  obtain ⟨Aa, ka, e2⟩ := r2.slice
  rw [HNX.out] at e2
  subst e2
  have R2 := Lib.hid r2
  have U2 := Lib.hid (U1.out.below b2); have K2 : Hid (Okw w2) := Lib.hid (K1.out.below b2)
  have B2 := Lib.hid (B1.out.trans (b2.mono B1.out.size)); clear b2 r2
  go_wp2_with fail
  refine (G1.out _ U2.out).mono ?_
  rintro e w3 ⟨hg, b3⟩
  have U3 := Lib.hid (U2.out.below b3); have K3 : Hid (Okw w3) := Lib.hid (K2.out.below b3); have R3 := Lib.hid (R2.out.below b3)
  have B3 := Lib.hid (B2.out.trans (b3.mono B2.out.size)); clear b3
  rcases hg with rfl | ⟨rfl, _⟩
  · go_wp2
    go_ret
    exact ⟨rfl, B3.out⟩
  by_cases h1 : ea = 0
  · subst h1
    obtain ⟨q1, q2, q3, q4⟩ := F1.out (by first | rfl | trivial)
    subst q2
    have hpos : posN l := fun b hb => (q3 b hb).1
    have SM := Lib.hid (fun j => (show cnt (l.take j) (p, q, 0) ≤ 1073741824 ∧ 0 ≤ cnt (l.take j) (p, q, 0) from by
      have hp' : posN (l.take j) := fun b hb => hpos b (List.mem_of_mem_take hb)
      have a1 := cnt_le hp' (p, q, 0)
      have a2 := sumN_take_le hpos j
      exact ⟨by omega, cnt_nonneg hp' _⟩))
    have CM := Lib.hid (fun b hb => cnt_mem hpos b hb)
    have Q1 := Lib.hid q1; have Q3 := Lib.hid q3
    clear q1 q3 hpos F1 q4 T1 G1 U1 U2 K1 K2 R2 B1 B2
    go_wp2
    go_loopw [9, 31] (fun s9 s31 wr => ∃ j : Nat, j ≤ n ∧ s31 = .int .i64 j ∧ s9 = .int .i64 (cnt (l.take j) (p, q, 0)) ∧ Hid (Below w3.heap.size w3 wr)) (fun _ s31 _ => n - (RowKit.intOf s31).toNat)
    case atStart => exact ⟨0, Nat.zero_le _, rfl, by simp [cnt], Lib.hid (Below.refl _ _)⟩
    case round =>
      obtain ⟨j, hjn, rfl, rfl, BJ⟩ := hrel
      have sj := SM.out j
      obtain ⟨sv, hsv⟩ : ∃ z, cnt (l.take j) (p, q, 0) = z := ⟨_, rfl⟩
      rw [hsv] at sj ⊢
      have HSV := Lib.hid hsv; clear hsv
      by_cases hj : j < n
      · have j1 : (j : Int) < (n : Int) := by omega
        obtain ⟨⟨p1, p2, p3⟩, hp⟩ : ∃ p, l[j]? = some p := ⟨_, List.getElem?_eq_getElem (by rw [HN.out]; exact hj)⟩
        obtain ⟨b, o, rfl, _, hc⟩ := (U3.out.below BJ.out).cells HN.out (by omega)
        obtain ⟨g0, g1, g2⟩ := blk_cells hc hp
        simp only at g0 g1 g2
        have hN1 := Q3.out _ (List.mem_of_getElem? hp)
        have hst := cnt_take j _ (p, q, 0) hp
        have hcm := CM.out _ (List.mem_of_getElem? hp)
        simp only at hN1 hst hcm
        rw [HSV.out] at hst
        have hfk := Q1.out (p1, p2, 0)
        have ecm : cnt l (p1, p2, p3) = cnt l (p1, p2, 0) := rfl
        rw [ecm, ← hfk] at hcm
        have hal : Below w3.heap.size w3 (wr.alloc (.cells #[.string p1, .string p2, .int .i64 p3] 43)) := BJ.out.alloc BJ.out.size _
        have x0 := heap_alloc_new wr (.cells #[.string p1, .string p2, .int .i64 p3] 43)
        have cf := C5.out _ p1 p2 (wr.alloc (.cells #[.string p1, .string p2, .int .i64 p3] 43)) (K3.out.below hal) (R3.out.below hal)
        obtain ⟨fv, hfv⟩ : ∃ z, finS X (p1, p2, 0) = z := ⟨_, rfl⟩
        rw [hfv] at cf hcm
        obtain ⟨wa, hwa⟩ : ∃ z, wr.alloc (.cells #[.string p1, .string p2, .int .i64 p3] 43) = z := ⟨_, rfl⟩
        obtain ⟨bx, hbx⟩ : ∃ z, wr.heap.size = z := ⟨_, rfl⟩
        rw [hwa] at cf hal x0
        rw [hbx] at x0
        obtain ⟨x1, x2, x3, _⟩ := cells_at x0
        have LT : bx < wa.heap.size := (Array.getElem?_eq_some_iff.1 x0).1
        have CF := Lib.hid cf; have HAL := Lib.hid hal; have HST := Lib.hid hst; have HX0 := Lib.hid x0; have HWA := Lib.hid hwa; have HBX := Lib.hid hbx; have HCM := Lib.hid hcm
        have hnl : ¬ fv < p3 := by omega
        have hwr : IntKind.i64.wrap (sv + p3) = sv + p3 := by rw [IntKind.wrap_i64]; omega
        have hcs : (p1 = p ∧ p2 = q) ∨ (p1.toList == p.toList) = false ∨ ((p1.toList == p.toList) = true ∧ (p2.toList == q.toList) = false) := by
          by_cases e1 : p1 = p
          · by_cases e2 : p2 = q
            · exact .inl ⟨e1, e2⟩
            · exact .inr (.inr ⟨by rw [e1]; simp, beq_eq_false_iff_ne.2 (fun e => e2 (toList_ext e))⟩)
          · exact .inr (.inl (beq_eq_false_iff_ne.2 (fun e => e1 (toList_ext e))))
        have HNO : Hid (¬ (p1 = p ∧ p2 = q) → cnt (l.take (j + 1)) (p, q, 0) = sv) := Lib.hid (fun hne => by
          rw [HST.out, if_neg (fun e => hne ⟨e.1, e.2⟩)]; omega)
        have HYE : Hid (p1 = p → p2 = q → cnt (l.take (j + 1)) (p, q, 0) = sv + p3) := Lib.hid (fun e1 e2 => by
          rw [HST.out, if_pos ⟨e1, e2⟩])
        clear hc hp hst cf hal x0 hwa hbx hcm hfv hfk ecm HST HX0
        rcases hcs with ⟨rfl, rfl⟩ | h1 | ⟨h1, h2⟩
        · have hnew : Hid (cnt (l.take (j + 1)) (p1, p2, 0) = sv + p3) := Lib.hid (HYE.out rfl rfl)
          clear HYE HNO
          go_wp2_with fail
          rw [HWA.out, HBX.out]
          refine CF.out.mono ?_
          rintro e w6 ⟨rfl, b6⟩
          have x3' := (b6.cell (p := ⟨bx, 2, none⟩) LT).trans x3
          have B6 : Hid (Below w3.heap.size w3 w6) := Lib.hid (HAL.out.trans (b6.mono HAL.out.size))
          clear b6 g0 g1 g2 x1 x2 x3
          go_wp2
          exact ⟨⟨j + 1, by omega, by go_num, by rw [hnew.out], B6⟩, by simp [RowKit.intOf]; omega⟩
        all_goals
          have hnew : Hid (cnt (l.take (j + 1)) (p, q, 0) = sv) := Lib.hid (HNO.out (by
            rintro ⟨rfl, rfl⟩
            simp at *))
          clear HYE HNO
          go_wp2_with fail
          rw [HWA.out, HBX.out]
          refine CF.out.mono ?_
          rintro e w6 ⟨rfl, b6⟩
          have x3' := (b6.cell (p := ⟨bx, 2, none⟩) LT).trans x3
          have B6 : Hid (Below w3.heap.size w3 w6) := Lib.hid (HAL.out.trans (b6.mono HAL.out.size))
          clear b6 g0 g1 g2 x1 x2 x3
          go_wp2
          exact ⟨⟨j + 1, by omega, by go_num, by rw [hnew.out], B6⟩, by simp [RowKit.intOf]; omega⟩
      · obtain rfl : j = n := by omega
        have cf := C5.out _ p q wr (K3.out.below BJ.out) (R3.out.below BJ.out)
        have e0 : finS X (p, q, 0) = sv := by
          rw [Q1.out, ← HSV.out, List.take_of_length_le (by rw [HN.out]; exact Nat.le_refl _)]
        rw [e0] at cf
        have CF := Lib.hid cf
        have BW : Hid (Below w.heap.size w wr) := Lib.hid (B3.out.trans (BJ.out.mono B3.out.size))
        clear cf e0
        go_wp2_with fail
        refine CF.out.mono ?_
        rintro e w6 ⟨rfl, b6⟩
        have B6 := Lib.hid (BW.out.trans (b6.mono BW.out.size)); clear b6
        go_wp2
        go_ret
        exact ⟨rfl, B6.out⟩
  · have h1' : (ea == 0) = false := by simpa using h1
    go_wp2
    go_ret
    exact ⟨rfl, B3.out⟩
end Go.Proofs.YtmfmbmlfdlebfaaDoor
