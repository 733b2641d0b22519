/- slices.BinarySearchFunc over rules: the place of a rule, and whether it stands there. -/
import Derived.Test.YtnognphjndpgkaaDoorPk8
import Derived.Test.YtnognphjndpgkaaDoorPk4
import Derived.Deep.RegionHeld3
import Derived.Deep.LoopGhost
import Derived.BigRegion
import Derived.Shelf.SlSortCmp.QuietGrown
namespace Go.Proofs.YtnognphjndpgkaaDoor
open Go.RowKit Go.Shelf Go.Lib
open Go.Sort (grow)
set_option linter.unusedSimpArgs false
set_option linter.unusedVariables false

theorem cmpB_neg (x y : Blk) : (cmpB x y < 0 ↔ lessB x y = true) := by
  unfold cmpB
  cases h : lessB x y
  · cases h2 : lessB y x <;> simp
  · simp
theorem cmpB_zero (x y : Blk) : (cmpB x y = 0 ↔ sameS x y) := by
  unfold cmpB
  rcases less_one x y with ⟨h1, h2, h3⟩ | ⟨h1, h2, h3⟩ | ⟨h1, h2, h3⟩ <;> simp [h1, h2, h3]
/-- Whether the rule at a place has these sides. -/
def standsAt (l : List Blk) (m : Nat) (k : Blk) : Bool := match l[m]? with
  | some y => decide (sameS y k)
  | none => false

/-- What a call keeps: a rule of the row, the one that is looked for in its box, all that is old. -/
structure KOne (w : World) (b p c : Nat) (y x : Blk) (w' : World) : Prop where
  a0 : w'.cell? ⟨b, p, none⟩ = some (.string y.1)
  a1 : w'.cell? ⟨b, p + 1, none⟩ = some (.string y.2.1)
  a2 : w'.cell? ⟨b, p + 2, none⟩ = some (.int .i64 y.2.2)
  b0 : w'.cell? ⟨c, 0, none⟩ = some (.string x.1)
  b1 : w'.cell? ⟨c, 1, none⟩ = some (.string x.2.1)
  b2 : w'.cell? ⟨c, 2, none⟩ = some (.int .i64 x.2.2)
  lt : b < w'.heap.size
  lt' : c < w'.heap.size
  bel : Below w.heap.size w w'
theorem KOne.step {w : World} {b p c : Nat} {y x : Blk} {w' w'' : World} (h : KOne w b p c y x w') (hb : Below w'.heap.size w' w'') : KOne w b p c y x w'' :=
  ⟨(hb.cell (p := ⟨b, _, none⟩) h.lt).trans h.a0, (hb.cell (p := ⟨b, _, none⟩) h.lt).trans h.a1, (hb.cell (p := ⟨b, _, none⟩) h.lt).trans h.a2, (hb.cell (p := ⟨c, _, none⟩) h.lt').trans h.b0, (hb.cell (p := ⟨c, _, none⟩) h.lt').trans h.b1, (hb.cell (p := ⟨c, _, none⟩) h.lt').trans h.b2, Nat.lt_of_lt_of_le h.lt hb.size, Nat.lt_of_lt_of_le h.lt' hb.size, h.bel.trans (hb.mono h.bel.size)⟩

set_option maxRecDepth 100000 in
set_option maxHeartbeats 8000000 in
theorem bsearch_any (A : Option Addr) (n c : Nat) (l : List Blk) (k1 k2 : ByteArray) (k3 : Int) (w : World) (hn : l.length = n) (hu : BRuns w (.slice A n c) l) (hl : n ≤ 2000000) (m : Nat) (hm : m ≤ n)
    (h1 : ∀ j y, j < m → l[j]? = some y → lessB y (k1, k2, k3) = true) (h2 : ∀ j y, m ≤ j → l[j]? = some y → lessB y (k1, k2, k3) = false) :
    Calls Tryd.prog 38 #[.slice A n c, .agg #[.string k1, .string k2, .int .i64 k3], .func (.func 36) #[] #[]] w fun e w' =>
      e = .returned (.tuple #[.int .i64 (m : Nat), .bool (standsAt l m (k1, k2, k3))]) ∧ Below w.heap.size w w' := by
  have C := Lib.hid compare_lays
  obtain ⟨res, hres⟩ : ∃ z, standsAt l m (k1, k2, k3) = z := ⟨_, rfl⟩
  rw [hres]
  have HR := Lib.hid hres; clear hres
  obtain ⟨a0, a1, a2⟩ := cells3_new w (.string k1) (.string k2) (.int .i64 k3) 24
  have hal := blw_one w (.cells #[.string k1, .string k2, .int .i64 k3] 24)
  have hlt : w.heap.size < (w.alloc (.cells #[.string k1, .string k2, .int .i64 k3] 24)).heap.size := by simp
  obtain ⟨W1, hW1⟩ : ∃ z, w.alloc (.cells #[.string k1, .string k2, .int .i64 k3] 24) = z := ⟨_, rfl⟩
  rw [hW1] at a0 a1 a2 hal hlt
  obtain ⟨bx, hbx⟩ : ∃ z, w.heap.size = z := ⟨_, rfl⟩
  rw [hbx] at a0 a1 a2 hlt
  have HU := Lib.hid (hu.below hal)
  have HW1 := Lib.hid hW1; have HBX := Lib.hid hbx; have HAL := Lib.hid hal; have H1 := Lib.hid h1; have H2 := Lib.hid h2; have HN := Lib.hid hn
  have HA : Hid (W1.cell? ⟨bx, 0, none⟩ = some (.string k1) ∧ W1.cell? ⟨bx, 1, none⟩ = some (.string k2) ∧ W1.cell? ⟨bx, 2, none⟩ = some (.int .i64 k3)) := Lib.hid ⟨a0, a1, a2⟩
  clear hW1 hbx hal h1 h2 hn hu a0 a1 a2
  go_enter Tryd.func38, Tryd.ntmps38
  have hmix : Tryd.prog.follows .mixedOrders = true := by kernel_rfl
  have eg : ∀ args w, (callFunc 36 args).run Tryd.prog w = .ok (.enter 36 args) w := enters_of Tryd.func36 (by kernel_rfl) rfl
  have HEG := Lib.hid eg; clear eg
  go_wp2
  rw [HW1.out, HBX.out]
  go_loopg [9, 10] n (fun kx s9 s10 wr => ∃ lo hi : Nat, s9 = .int .i64 lo ∧ s10 = .int .i64 hi ∧ lo ≤ m ∧ m ≤ hi ∧ hi ≤ n ∧ hi - lo ≤ kx ∧ Hid (Below W1.heap.size W1 wr))
  case atStart => exact ⟨0, n, rfl, rfl, Nat.zero_le _, hm, Nat.le_refl _, by omega, Lib.hid (Below.refl _ _)⟩
  case round =>
    obtain ⟨lo, hi, rfl, rfl, hlo, hhi, hin, hg, BW⟩ := hrel
    have a0 := (BW.out.cell (p := ⟨bx, 0, none⟩) hlt).trans HA.out.1
    have a1 := (BW.out.cell (p := ⟨bx, 1, none⟩) hlt).trans HA.out.2.1
    have a2 := (BW.out.cell (p := ⟨bx, 2, none⟩) hlt).trans HA.out.2.2
    by_cases hlh : lo < hi
    · obtain ⟨h, hh⟩ : ∃ h, (lo + hi) / 2 = h := ⟨_, rfl⟩
      have hz : ((lo : Int) + (hi : Int)) / 2 = (h : Int) := by omega
      have hn1 : h < n := by omega
      have i1 : (h : Int) < (n : Int) := by omega
      obtain ⟨⟨y1, y2, y3⟩, hy⟩ : ∃ y, l[h]? = some y := ⟨_, List.getElem?_eq_getElem (by rw [HN.out]; exact hn1)⟩
      obtain ⟨b, o, rfl, hblt, hc⟩ := (HU.out.below BW.out).cells HN.out (by omega)
      obtain ⟨g0, g1, g2⟩ := blk_cells hc hy
      simp only at g0 g1 g2
      have c1 := fun w => C.out (y1, y2, y3) (k1, k2, k3) w
      have h3 := cmpB_neg (y1, y2, y3) (k1, k2, k3)
      obtain ⟨er, her⟩ : ∃ z, cmpB (y1, y2, y3) (k1, k2, k3) = z := ⟨_, rfl⟩
      simp only [her, blkCell] at c1
      rw [her] at h3
      have HY1 : Hid (er < 0 → h < m) := Lib.hid (fun e => by
          rcases Nat.lt_or_ge h m with q | q
          · exact q
          · have := H2.out h _ q hy
            rw [h3.1 e] at this; cases this)
      have HY2 : Hid (¬ er < 0 → m ≤ h) := Lib.hid (fun e => by
          rcases Nat.lt_or_ge h m with q | q
          · exact absurd (h3.2 (H1.out h _ q hy)) e
          · exact q)
      have C1 := Lib.hid c1
      clear hc hy h3 her c1
      have F0 := fun q os => grow_cell (w := wr) q os g0; have F1 := fun q os => grow_cell (w := wr) q os g1; have F2 := fun q os => grow_cell (w := wr) q os g2
      have F3 := fun q os => grow_cell (w := wr) q os a0; have F4 := fun q os => grow_cell (w := wr) q os a1; have F5 := fun q os => grow_cell (w := wr) q os a2
      by_cases hneg : er < 0
      · have hlt' := HY1.out hneg
        go_wp2
        go_quiet_grown (first | (go_at_fn 36; refine Calls.grown_of (C1.out _)) | refine Calls.grown_of (C1.out _))
        go_wp2
        go_roundg (hi - (h + 1))
        case measure => omega
        case rel => exact ⟨h + 1, hi, by go_num, rfl, by omega, hhi, hin, Nat.le_refl _, Lib.hid (BW.out.trans ((below_grows _ _ _).mono BW.out.size))⟩
      · have hge := HY2.out hneg
        go_wp2
        go_quiet_grown (first | (go_at_fn 36; refine Calls.grown_of (C1.out _)) | refine Calls.grown_of (C1.out _))
        go_wp2
        go_roundg (h - lo)
        case measure => omega
        case rel => exact ⟨lo, h, rfl, rfl, hlo, hge, by omega, Nat.le_refl _, Lib.hid (BW.out.trans ((below_grows _ _ _).mono BW.out.size))⟩
    · obtain rfl : lo = m := by omega
      obtain rfl : hi = lo := by omega
      have BF : Hid (Below w.heap.size w wr) := Lib.hid (HAL.out.trans (BW.out.mono HAL.out.size))
      by_cases hmn : hi < n
      · have i1 : (hi : Int) < (n : Int) := by omega
        obtain ⟨⟨y1, y2, y3⟩, hy⟩ : ∃ y, l[hi]? = some y := ⟨_, List.getElem?_eq_getElem (by rw [HN.out]; exact hmn)⟩
        obtain ⟨b, o, rfl, hblt, hc⟩ := (HU.out.below BW.out).cells HN.out (by omega)
        obtain ⟨g0, g1, g2⟩ := blk_cells hc hy
        simp only at g0 g1 g2
        have c1 := fun w => C.out (y1, y2, y3) (k1, k2, k3) w
        have h3 := cmpB_zero (y1, y2, y3) (k1, k2, k3)
        obtain ⟨er, her⟩ : ∃ z, cmpB (y1, y2, y3) (k1, k2, k3) = z := ⟨_, rfl⟩
        simp only [her, blkCell] at c1
        rw [her] at h3
        have hr : Hid (res = (er == 0)) := Lib.hid (by
          rw [← HR.out]
          unfold standsAt
          rw [hy]
          simp only
          by_cases e : er = 0
          · rw [decide_eq_true (h3.1 e), e]; rfl
          · rw [decide_eq_false (fun q => e (h3.2 q))]; simp [e])
        have C1 := Lib.hid c1
        clear hc hy h3 her c1
        have hw := fun w => (C1.out w).mono (R' := fun e w' => e = .returned (.int .i64 er) ∧ Below w.heap.size w w') (fun e w' ⟨h1, q, os, h2⟩ => ⟨h1, by rw [h2]; exact below_grows _ _ _⟩)
        have CW := Lib.hid hw
        clear hw C1
        have BWR : Hid (Below w.heap.size w wr.drew) := Lib.hid BF.out.drew
        have KD : Hid (KOne w b (o + hi * 3) bx (y1, y2, y3) (k1, k2, k3) wr.drew) := Lib.hid ⟨g0, g1, g2, a0, a1, a2, hblt, Nat.lt_of_lt_of_le hlt BW.out.size, BWR.out⟩
        go_wp2
        go_region_held3 (fun w' => w'.cell? ⟨b, o + hi * 3, none⟩ = some (.string y1) ∧ w'.cell? ⟨b, o + hi * 3 + 1, none⟩ = some (.string y2) ∧ w'.cell? ⟨b, o + hi * 3 + 2, none⟩ = some (.int .i64 y3) ∧ w'.cell? ⟨bx, 0, none⟩ = some (.string k1) ∧ w'.cell? ⟨bx, 1, none⟩ = some (.string k2) ∧ w'.cell? ⟨bx, 2, none⟩ = some (.int .i64 k3) ∧ Hid (KOne w b (o + hi * 3) bx (y1, y2, y3) (k1, k2, k3) w'))
          (first | exact ⟨g0, g1, g2, a0, a1, a2, KD⟩ | exact ⟨HKn.out.a0, HKn.out.a1, HKn.out.a2, HKn.out.b0, HKn.out.b1, HKn.out.b2, HKn⟩ | go_keep)
          (first
            | (go_at_call 36; refine (CW.out _).mono ?_; rintro e w4 ⟨rfl, hb4⟩; have HKn := Lib.hid ((by assumption : Hid (KOne w b (o + hi * 3) bx (y1, y2, y3) (k1, k2, k3) _)).out.step hb4); clear hb4))
        rename_i hHeld
        clear hHeld
        have B4 : Hid (Below w.heap.size w w4) := Lib.hid HKn.out.bel
        go_wp2
        go_ret2
        exact ⟨by rw [hr.out]; rfl, B4.out⟩
      · obtain rfl : hi = n := by omega
        have hr : Hid (res = false) := Lib.hid (by
          rw [← HR.out]
          unfold standsAt
          rw [List.getElem?_eq_none (by rw [HN.out]; exact Nat.le_refl _)])
        have i1 : ¬ (hi : Int) < (hi : Int) := by omega
        go_wp2
        go_big_quiet (fail)
        go_wp2
        go_ret2
        exact ⟨by rw [hr.out]; rfl, below_draws BF.out _⟩
end Go.Proofs.YtnognphjndpgkaaDoor
